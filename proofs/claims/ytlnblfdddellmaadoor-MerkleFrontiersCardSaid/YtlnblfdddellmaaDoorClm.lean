/-
  The walk over climb.
-/
import Derived.Test.YtlnblfdddellmaaDoorAnw
namespace Go.Proofs.YtlnblfdddellmaaDoor
open Go.RowKit
set_option linter.unusedVariables false
section
variable {P : Program} {ops : Array Oper} {Q : Exit → Act → World → Prop} {md : Region.Mode} {S : World → Prop}
theorem anyH_op (i : Nat) {d : Option Tmp} {op : Op} {fuel : Nat} {listed : Array Bool} {a : Act} {w : World}
    (h0 : Region.ready md ops listed = [i]) (hi : (ops[i]?.map fun o => (o.dst, o.op, o.guard)) = some (d, op, none))
    (h : ∀ o : Oper, o.dst = d → o.op = op → o.wp P a w (fun a w => S w ∧ wpAnyH P md ops Q S fuel (listed.setIfInBounds i true) a w) Q) : wpAnyH P md ops Q S (fuel + 1) listed a w := by
  refine wpAnyH_all h0 (by simp) ?_
  intro k hk
  simp only [List.mem_cons, List.not_mem_nil, or_false] at hk
  subst hk
  cases ho : ops[k]? with
  | none => simp [ho] at hi
  | some o =>
    simp only [ho, Option.map_some, Option.some.injEq, Prod.mk.injEq] at hi
    obtain ⟨g1, g2, g3⟩ := hi
    unfold wpOp
    simp only [ho, wanted_plain g3, if_true]
    exact .inl (h o g1 g2)
theorem anyH_two (i j : Nat) {d1 d2 : Option Tmp} {op1 op2 : Op} {fuel : Nat} {listed : Array Bool} {a : Act} {w : World}
    (h0 : Region.ready md ops listed = [i, j]) (hi : (ops[i]?.map fun o => (o.dst, o.op, o.guard)) = some (d1, op1, none)) (hj : (ops[j]?.map fun o => (o.dst, o.op, o.guard)) = some (d2, op2, none))
    (h1 : ∀ o : Oper, o.dst = d1 → o.op = op1 → o.wp P a w (fun a w => S w ∧ wpAnyH P md ops Q S fuel (listed.setIfInBounds i true) a w) Q)
    (h2 : ∀ o : Oper, o.dst = d2 → o.op = op2 → o.wp P a w (fun a w => S w ∧ wpAnyH P md ops Q S fuel (listed.setIfInBounds j true) a w) Q) : wpAnyH P md ops Q S (fuel + 1) listed a w := by
  refine wpAnyH_all h0 (by simp) ?_
  intro k hk
  simp only [List.mem_cons, List.not_mem_nil, or_false] at hk
  rcases hk with rfl | rfl
  · cases ho : ops[k]? with
    | none => simp [ho] at hi
    | some o =>
      simp only [ho, Option.map_some, Option.some.injEq, Prod.mk.injEq] at hi
      obtain ⟨g1, g2, g3⟩ := hi
      unfold wpOp
      simp only [ho, wanted_plain g3, if_true]
      exact .inl (h1 o g1 g2)
  · cases ho : ops[k]? with
    | none => simp [ho] at hj
    | some o =>
      simp only [ho, Option.map_some, Option.some.injEq, Prod.mk.injEq] at hj
      obtain ⟨g1, g2, g3⟩ := hj
      unfold wpOp
      simp only [ho, wanted_plain g3, if_true]
      exact .inl (h2 o g1 g2)
end
theorem anyH_dhead {ops : Array Oper} {Q : Exit → Act → World → Prop} {md : Region.Mode} {S : World → Prop} {T E : TypeId} (hT : DT T E) (i : Nat) {d : Nat} {x y : Operand} (b : Option Addr) (len cap k : Nat) (hk : k ≤ cap) {fuel : Nat} {listed : Array Bool} {a : Act} {w : World}
    (hi : (ops[i]?.map fun o => (o.dst, o.op, o.guard)) = some (some d, .slice T x none (some y) none, none)) (hs : Region.noSelect ops = true) (hf : Region.free md ops listed i = true) (hr : (Region.ready md ops listed).contains i = true)
    (hQ : ∀ c a w, Q (.panic c) (a.put (some d) (.slice b k cap)) w → Q (.panic c) a w) (hx : a.eval x = .slice b len cap) (hy : a.eval y = .int .i64 (k : Int)) (hS : S w)
    (h : wpAnyH Tryd.prog md ops Q S fuel (listed.setIfInBounds i true) (a.put (some d) (.slice b k cap)) w) : wpAnyH Tryd.prog md ops Q S (fuel + 1) listed a w :=
  anyH_pure i _ hi hs hf hr hQ (fun o ho W hW => by unfold execOp; simp only [ho, hx, hy, Option.map_none, Option.map_some, run_dheadAt hT W b len cap k hk, Sem.run_bind, Result.andThen_ok, Sem.run_pure]) hS h
theorem anyH_dindex {ops : Array Oper} {Q : Exit → Act → World → Prop} {md : Region.Mode} {S : World → Prop} {T E : TypeId} (hT : DT T E) (i : Nat) {d : Nat} {x y : Operand} (b o len cap k : Nat) (hk : k < len) {fuel : Nat} {listed : Array Bool} {a : Act} {w : World}
    (hi : (ops[i]?.map fun o => (o.dst, o.op, o.guard)) = some (some d, .indexAddr T x y, none)) (hs : Region.noSelect ops = true) (hf : Region.free md ops listed i = true) (hr : (Region.ready md ops listed).contains i = true)
    (hQ : ∀ c a w, Q (.panic c) (a.put (some d) (.pointer (some ⟨b, o + k * 32, none⟩))) w → Q (.panic c) a w) (hx : a.eval x = .slice (some ⟨b, o, none⟩) len cap) (hy : a.eval y = .int .i64 (k : Int)) (hS : S w)
    (h : wpAnyH Tryd.prog md ops Q S fuel (listed.setIfInBounds i true) (a.put (some d) (.pointer (some ⟨b, o + k * 32, none⟩))) w) : wpAnyH Tryd.prog md ops Q S (fuel + 1) listed a w :=
  anyH_pure i _ hi hs hf hr hQ (fun o ho W hW => by unfold execOp; simp only [ho, hx, hy, run_dindex hT W b _ len cap k hk, Sem.run_bind, Result.andThen_ok, Sem.run_pure]) hS h
/-- what a way of just the right length tells -/
def topS (n i : Nat) (leaf : List Nat) (way : Ds) : Option (List Nat) := Mk.top nodeS n i leaf way
def CliRet (n i : Nat) (leaf : List Nat) (way : Ds) (w : World) (e : Ending) (w' : World) : Prop :=
  ∃ x, D32 x ∧ e = .returned (.tuple #[.agg (cellsOf x).toArray, .bool (topS n i leaf way).isSome]) ∧ (∀ d, topS n i leaf way = some d → x = d) ∧ Below w.heap.size w w'
/-- the two blocks of climb: the leaf, and what is handed back -/
def C2 (w : World) (leaf x : List Nat) (W : World) : Prop := Brow W w.heap.size 32 leaf ∧ Brow W (w.heap.size + 1) 32 x ∧ Below w.heap.size w W
theorem C2.new (w : World) (leaf x : List Nat) : C2 w leaf x ((w.alloc (.cells (cellsOf leaf).toArray 32)).alloc (.cells (cellsOf x).toArray 32)) :=
  ⟨(heap_new2 _ _ _).1, (heap_new2 _ _ _).2, ((Below.refl _ _).alloc (Nat.le_refl _) _).alloc (by simp) _⟩
theorem C2.below {w W W' : World} {leaf x : List Nat} (h : C2 w leaf x W) (hb : Below W.heap.size W W') : C2 w leaf x W' := ⟨h.1.below hb h.1.lt, h.2.1.below hb h.2.1.lt, h.2.2.trans (hb.mono h.2.2.size)⟩
theorem C2.drew {w W : World} {leaf x : List Nat} (h : C2 w leaf x W) : C2 w leaf x W.drew := ⟨h.1.drew, h.2.1.drew, h.2.2.drew⟩
theorem C2.only {w W W' : World} {leaf x : List Nat} {g : Nat} (h : C2 w leaf x W) (hg : w.heap.size + 1 < g) (ho : Only g W W') : C2 w leaf x W' :=
  ⟨h.1.only ho (by omega), h.2.1.only ho (by omega), h.2.2.trans (ho.below (by omega) h.2.2.size)⟩
theorem C2.set {w W : World} {leaf x : List Nat} (h : C2 w leaf x W) (y : List Nat) (hl : y.length = x.length) : C2 w leaf y (W.setCells (w.heap.size + 1) 0 (cellsOf y)) := by
  have o : Only (w.heap.size + 1) W (W.setCells (w.heap.size + 1) 0 (cellsOf y)) := Only.setCells _ _ (Only.refl _ _)
  exact ⟨h.1.only o (by omega), h.2.1.setAll hl, h.2.2.trans (o.below (by omega) h.2.2.size)⟩
theorem C2.setRow {w W : World} {leaf x : List Nat} (h : C2 w leaf x W) (y : List Nat) : C2 w leaf y (W.setRow (w.heap.size + 1) (cellsOf y).toArray) := by
  have o : Only (w.heap.size + 1) W (W.setRow (w.heap.size + 1) (cellsOf y).toArray) := (Only.refl _ _).setRow _
  exact ⟨h.1.only o (by omega), h.2.1.setRow, h.2.2.trans (o.below (by omega) h.2.2.size)⟩
theorem results_pair {fn : Func} {P : Program} {p q : Tmp} {ty : TypeId} (h : fn.results = #[.cell p ty, .tmp q]) (tmps : Array Value) (w : World) (g : Nat) (t : TypeId) (cs : Array Value) (fr : Nat × Nat) (d : TypeDesc) (b : Value)
    (hp : tmps.getD p undef = .pointer (some ⟨g, 0, none⟩)) (hq : tmps.getD q undef = b) (hg : w.heap[g]? = some (.cells cs t fr))
    (hu : P.underlying ty = some d) (hd : (match d with | .struct _ | .array _ _ => true | _ => false) = true) (hi : (P.info? ty).map (·.size) = some cs.size) :
    (results fn tmps).run P w = .ok (.tuple #[.agg cs, b]) w := by
  have hp' : tmps[p]?.getD undef = .pointer (some ⟨g, 0, none⟩) := by simpa using hp
  have hq' : tmps[q]?.getD undef = b := by simpa using hq
  simp [results, h, hp', hq', asAddr, run_loadVar_row w g t ty cs fr d hg hu hd hi]
theorem top_one (i : Nat) (leaf : List Nat) (way : Ds) : topS 1 i leaf way = if way = [] then some leaf else none := Mk.top_less _ _ _ _ _ (by omega)
def CS (w : World) (leaf : List Nat) (a : Option Addr) (l : Nat) (way : Ds) (W : World) : Prop := C2 w leaf zs32 W ∧ DR W a (l + 1) way
theorem CS.step {w W W' : World} {leaf : List Nat} {a : Option Addr} {l : Nat} {way : Ds} (h : CS w leaf a l way W) (hb : Below W.heap.size W W') : CS w leaf a l way W' := ⟨h.1.below hb, h.2.below hb⟩
def C9 (w : World) (leaf : List Nat) (b o l : Nat) (way : Ds) (g : Nat) (x : List Nat) (W : World) : Prop := (∃ y, y.length = 32 ∧ C2 w leaf y W) ∧ DR W (some ⟨b, o, none⟩) (l + 1) way ∧ Brow W g 32 x
theorem C9.step {w W W' : World} {leaf : List Nat} {b o l : Nat} {way : Ds} {g : Nat} {x : List Nat} (h : C9 w leaf b o l way g x W) (hb : Below W.heap.size W W') : C9 w leaf b o l way g x W' := by
  obtain ⟨⟨y, hy, h1⟩, h2, h3⟩ := h
  exact ⟨⟨y, hy, h1.below hb⟩, h2.below hb, h3.below hb h3.lt⟩
theorem blk_lt {w : World} {a : Option Addr} {n : Nat} {ds : Ds} (h : DR w a n ds) (g : Nat) (hg : w.heap.size ≤ g) : 0 < 32 * n → blkOf a ≠ some g := h.2.2.blk g hg
theorem DR.only {w w0 w' : World} {g : Nat} {a : Option Addr} {n : Nat} {ds : Ds} (h : DR w a n ds) (h0 : DR w0 a n ds) (hg : w0.heap.size ≤ g) (ho : Only g w w') : DR w' a n ds := ⟨h.1, h.2.1, ho.rdo h0.2.2 h.2.2 hg⟩
theorem way_snoc {way : Ds} {l : Nat} (h : way.length = l + 1) : way = way.take l ++ [way.getD l []] := by
  have := List.take_succ_eq_append_getElem (l := way) (i := l) (by omega)
  rw [List.take_of_length_le (by omega)] at this
  rw [List.getD_eq_getElem?_getD, List.getElem?_eq_getElem (by omega)]
  exact this
theorem cli_left {n k i l : Nat} {leaf x y : List Nat} {way : Ds} (h2 : 2 ≤ n) (hk : Mk.half n = k) (hik : i < k) (hl : way.length = l + 1) (hy : y = way.getD l []) (hx : ∀ d, topS k i leaf (way.take l) = some d → x = d) :
    (topS n i leaf way).isSome = (topS k i leaf (way.take l)).isSome ∧ ∀ d, topS n i leaf way = some d → nodeS x y = d := by
  have e : topS n i leaf way = (topS k i leaf (way.take l)).map fun d => nodeS d y := by
    conv => lhs; rw [way_snoc hl]
    rw [hy, ← hk]; exact Mk.top_left _ _ _ _ _ _ h2 (by rw [hk]; exact hik)
  rw [e]
  refine ⟨by simp, fun d hd => ?_⟩
  obtain ⟨d', h1, h3⟩ := Option.map_eq_some_iff.1 hd
  rw [hx d' h1, h3]
theorem cli_right {n k i l : Nat} {leaf x y : List Nat} {way : Ds} (h2 : 2 ≤ n) (hk : Mk.half n = k) (hik : ¬ i < k) (hl : way.length = l + 1) (hy : y = way.getD l []) (hx : ∀ d, topS (n - k) (i - k) leaf (way.take l) = some d → x = d) :
    (topS n i leaf way).isSome = (topS (n - k) (i - k) leaf (way.take l)).isSome ∧ ∀ d, topS n i leaf way = some d → nodeS y x = d := by
  have e : topS n i leaf way = (topS (n - k) (i - k) leaf (way.take l)).map fun d => nodeS y d := by
    conv => lhs; rw [way_snoc hl]
    rw [hy, ← hk]; exact Mk.top_right _ _ _ _ _ _ h2 (by rw [hk]; exact hik)
  rw [e]
  refine ⟨by simp, fun d hd => ?_⟩
  obtain ⟨d', h1, h3⟩ := Option.map_eq_some_iff.1 hd
  rw [hx d' h1, h3]
end Go.Proofs.YtlnblfdddellmaaDoor
