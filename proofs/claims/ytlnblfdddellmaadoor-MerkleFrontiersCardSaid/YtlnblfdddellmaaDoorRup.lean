/-
  The walk over the document's Up.
-/
import Derived.Test.YtlnblfdddellmaaDoorClm
import Derived.Test.YtlnblfdddellmaaDoorRpt
namespace Go.Proofs.YtlnblfdddellmaaDoor
open Go.RowKit
set_option linter.unusedVariables false
theorem anyH_dcut {ops : Array Oper} {Q : Exit → Act → World → Prop} {md : Region.Mode} {S : World → Prop} {T E : TypeId} (hT : DT T E) (i : Nat) {d : Nat} {x y : Operand} (b : Option Addr) (len cap k : Nat) (hk : k ≤ len) {fuel : Nat} {listed : Array Bool} {a : Act} {w : World}
    (hi : (ops[i]?.map fun o => (o.dst, o.op, o.guard)) = some (some d, .slice T x (some y) none none, none)) (hs : Region.noSelect ops = true) (hf : Region.free md ops listed i = true) (hr : (Region.ready md ops listed).contains i = true)
    (hQ : ∀ c a w, Q (.panic c) (a.put (some d) (.slice (sld b cap k) (len - k) (cap - k))) w → Q (.panic c) a w) (hx : a.eval x = .slice b len cap) (hy : a.eval y = .int .i64 (k : Int)) (hS : S w)
    (h : wpAnyH Tryd.prog md ops Q S fuel (listed.setIfInBounds i true) (a.put (some d) (.slice (sld b cap k) (len - k) (cap - k))) w) : wpAnyH Tryd.prog md ops Q S (fuel + 1) listed a w :=
  anyH_pure i _ hi hs hf hr hQ (fun o ho W hW => by unfold execOp; simp only [ho, hx, hy, Option.map_none, Option.map_some, run_dcutAt hT W b len cap k hk, Sem.run_bind, Result.andThen_ok, Sem.run_pure]) hS h
/-- the root that a way tells, and what is left of it -/
def upS (n i : Nat) (leaf : List Nat) (way : Ds) : Option (List Nat × Ds) := Mk.up nodeS n i leaf way
def UpRet (B n i : Nat) (leaf : List Nat) (way : Ds) (w : World) (e : Ending) (w' : World) : Prop :=
  Below w.heap.size w w' ∧ ((upS n i leaf way = none ∧ e = .returned (.tuple #[.agg (cellsOf zs32).toArray, .slice none 0 0, .bool false])) ∨
    ∃ (d : List Nat) (rest : Ds) (a : Option Addr) (l c : Nat), upS n i leaf way = some (d, rest) ∧ D32 d ∧ DR w' a l rest ∧ l ≤ c ∧ c ≤ 9223372036854775807 ∧ (∀ b, blkOf a = some b → b < B) ∧ e = .returned (.tuple #[.agg (cellsOf d).toArray, .slice a l c, .bool true]))
/-- the two blocks of Up: the leaf, and what is handed back -/
def R2 (w : World) (leaf x : List Nat) (W : World) : Prop := Brow W w.heap.size 31 leaf ∧ Brow W (w.heap.size + 1) 31 x ∧ Below w.heap.size w W
theorem R2.new (w : World) (leaf x : List Nat) : R2 w leaf x ((w.alloc (.cells (cellsOf leaf).toArray 31)).alloc (.cells (cellsOf x).toArray 31)) :=
  ⟨(heap_new2 _ _ _).1, (heap_new2 _ _ _).2, ((Below.refl _ _).alloc (Nat.le_refl _) _).alloc (by simp) _⟩
theorem R2.below {w W W' : World} {leaf x : List Nat} (h : R2 w leaf x W) (hb : Below W.heap.size W W') : R2 w leaf x W' := ⟨h.1.below hb h.1.lt, h.2.1.below hb h.2.1.lt, h.2.2.trans (hb.mono h.2.2.size)⟩
theorem R2.drew {w W : World} {leaf x : List Nat} (h : R2 w leaf x W) : R2 w leaf x W.drew := ⟨h.1.drew, h.2.1.drew, h.2.2.drew⟩
theorem R2.set {w W : World} {leaf x : List Nat} (h : R2 w leaf x W) (y : List Nat) (hl : y.length = x.length) : R2 w leaf y (W.setCells (w.heap.size + 1) 0 (cellsOf y)) := by
  have o : Only (w.heap.size + 1) W (W.setCells (w.heap.size + 1) 0 (cellsOf y)) := Only.setCells _ _ (Only.refl _ _)
  exact ⟨h.1.only o (by omega), h.2.1.setAll hl, h.2.2.trans (o.below (by omega) h.2.2.size)⟩
theorem R2.setRow {w W : World} {leaf x : List Nat} (h : R2 w leaf x W) (y : List Nat) : R2 w leaf y (W.setRow (w.heap.size + 1) (cellsOf y).toArray) := by
  have o : Only (w.heap.size + 1) W (W.setRow (w.heap.size + 1) (cellsOf y).toArray) := (Only.refl _ _).setRow _
  exact ⟨h.1.only o (by omega), h.2.1.setRow, h.2.2.trans (o.below (by omega) h.2.2.size)⟩
theorem R2.rowOnly {w W : World} {leaf x : List Nat} (h : R2 w leaf x W) (y : List Nat) : Only (w.heap.size + 1) W (W.setRow (w.heap.size + 1) (cellsOf y).toArray) := (Only.refl _ _).setRow _
theorem results_trip {fn : Func} {P : Program} {p q r : Tmp} {ty : TypeId} (h : fn.results = #[.cell p ty, .tmp q, .tmp r]) (tmps : Array Value) (w : World) (g : Nat) (t : TypeId) (cs : Array Value) (fr : Nat × Nat) (d : TypeDesc) (b c : Value)
    (hp : tmps.getD p undef = .pointer (some ⟨g, 0, none⟩)) (hq : tmps.getD q undef = b) (hr : tmps.getD r undef = c) (hg : w.heap[g]? = some (.cells cs t fr))
    (hu : P.underlying ty = some d) (hd : (match d with | .struct _ | .array _ _ => true | _ => false) = true) (hi : (P.info? ty).map (·.size) = some cs.size) :
    (results fn tmps).run P w = .ok (.tuple #[.agg cs, b, c]) w := by
  have hp' : tmps[p]?.getD undef = .pointer (some ⟨g, 0, none⟩) := by simpa using hp
  have hq' : tmps[q]?.getD undef = b := by simpa using hq
  have hr' : tmps[r]?.getD undef = c := by simpa using hr
  simp [results, h, hp', hq', hr', asAddr, run_loadVar_row w g t ty cs fr d hg hu hd hi]
/-- a slice that was there lies in no block from there on -/
theorem DR.onlyB {w w' : World} {a : Option Addr} {n B g : Nat} {ds : Ds} (h : DR w a n ds) (hb : ∀ b, blkOf a = some b → b < B) (hg : B ≤ g) (ho : Only g w w') : DR w' a n ds :=
  ⟨h.1, h.2.1, ho.rd' h.2.2 (fun _ e => by have := hb g e; omega)⟩
theorem sld_blk (a : Option Addr) (cap k : Nat) : blkOf (sld a cap k) = blkOf a := by rw [sld_sla]; exact sla_blk _ _ _
def UP9 (w : World) (leaf : List Nat) (g : Nat) (d : List Nat) (rb ro rl : Nat) (x : List Nat) (rest : Ds) (W : World) : Prop := (∃ y, y.length = 32 ∧ R2 w leaf y W) ∧ Brow W g 31 d ∧ DR W (some ⟨rb, ro, none⟩) rl (x :: rest)
theorem UP9.step {w W W' : World} {leaf : List Nat} {g : Nat} {d : List Nat} {rb ro rl : Nat} {x : List Nat} {rest : Ds} (h : UP9 w leaf g d rb ro rl x rest W) (hb : Below W.heap.size W W') : UP9 w leaf g d rb ro rl x rest W' := by
  obtain ⟨⟨y, hy, h1⟩, h2, h3⟩ := h
  exact ⟨⟨y, hy, h1.below hb⟩, h2.below hb h2.lt, h3.below hb⟩
theorem rup_l_eq {n k i : Nat} {leaf : List Nat} {way : Ds} (h2 : 2 ≤ n) (hk : Mk.half n = k) (hik : i < k) : upS n i leaf way = match upS k i leaf way with
      | some (d, x :: r) => some (nodeS d x, r)
      | _ => none := by
  subst hk
  exact Mk.up_left _ _ _ _ _ h2 hik
theorem rup_r_eq {n k i : Nat} {leaf : List Nat} {way : Ds} (h2 : 2 ≤ n) (hk : Mk.half n = k) (hik : ¬ i < k) : upS n i leaf way = match upS (n - k) (i - k) leaf way with
      | some (d, x :: r) => some (nodeS x d, r)
      | _ => none := by
  subst hk
  exact Mk.up_right _ _ _ _ _ h2 hik
end Go.Proofs.YtlnblfdddellmaaDoor
