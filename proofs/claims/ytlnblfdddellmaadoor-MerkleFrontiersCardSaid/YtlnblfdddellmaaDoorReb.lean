/-
  The walk over rebuild.
-/
import Derived.Test.YtlnblfdddellmaaDoorChk
import Derived.Test.YtlnblfdddellmaaDoorAwt
import Derived.Test.YtlnblfdddellmaaDoorMkg
namespace Go.Proofs.YtlnblfdddellmaaDoor
open Go.RowKit
set_option linter.unusedVariables false
/-- both roots that a proof of just the right length tells -/
def bothS (old : List Nat) (m n : Nat) (whole : Bool) (way : Ds) : Option (List Nat × List Nat) := Mk.both nodeS old m n whole way
def RebRet (old : List Nat) (m n : Nat) (whole : Bool) (way : Ds) (w : World) (e : Ending) (w' : World) : Prop :=
  ∃ x y, D32 x ∧ D32 y ∧ e = .returned (.tuple #[.agg (cellsOf x).toArray, .agg (cellsOf y).toArray, .bool (bothS old m n whole way).isSome]) ∧ (∀ q, bothS old m n whole way = some q → (x, y) = q) ∧ Below w.heap.size w w'
theorem A3.drew {w W : World} {x y z : List Nat} (h : A3 w x y z W) : A3 w x y z W.drew := ⟨h.1.drew, h.2.1.drew, h.2.2.1.drew, h.2.2.2.drew⟩
theorem A3.only {w W W' : World} {x y z : List Nat} {g : Nat} (h : A3 w x y z W) (hg : w.heap.size + 1 + 1 < g) (ho : Only g W W') : A3 w x y z W' :=
  ⟨h.1.only ho (by omega), h.2.1.only ho (by omega), h.2.2.1.only ho (by omega), h.2.2.2.trans (ho.below (by omega) h.2.2.2.size)⟩
theorem A3.c2 {w W : World} {x y z : List Nat} (h : A3 w x y z W) (q : List Nat) (hl : q.length = y.length) : A3 w x q z (W.setCells (w.heap.size + 1) 0 (cellsOf q)) := by
  have o : Only (w.heap.size + 1) W (W.setCells (w.heap.size + 1) 0 (cellsOf q)) := Only.setCells _ _ (Only.refl _ _)
  exact ⟨h.1.only o (by omega), h.2.1.setAll hl, h.2.2.1.only o (by omega), h.2.2.2.trans (o.below (by omega) h.2.2.2.size)⟩
theorem A3.c3 {w W : World} {x y z : List Nat} (h : A3 w x y z W) (q : List Nat) (hl : q.length = z.length) : A3 w x y q (W.setCells (w.heap.size + 1 + 1) 0 (cellsOf q)) := by
  have o : Only (w.heap.size + 1 + 1) W (W.setCells (w.heap.size + 1 + 1) 0 (cellsOf q)) := Only.setCells _ _ (Only.refl _ _)
  exact ⟨h.1.only o (by omega), h.2.1.only o (by omega), h.2.2.1.setAll hl, h.2.2.2.trans (o.below (by omega) h.2.2.2.size)⟩
theorem only_cells (W : World) (g : Nat) (q : List Nat) : Only g W (W.setCells g 0 (cellsOf q)) := Only.setCells _ _ (Only.refl _ _)
/-- what stays while the two results are laid: the old root, the way, the sum beside -/
def RB (w : World) (old : List Nat) (a : Option Addr) (l : Nat) (way : Ds) (g : Option Nat) (z : List Nat) (W : World) : Prop :=
  (∃ x y, x.length = 32 ∧ y.length = 32 ∧ A3 w old x y W) ∧ DR W a l way ∧ ∀ b, g = some b → w.heap.size + 1 + 1 < b ∧ Brow W b 32 z
theorem RB.step {w W W' : World} {old : List Nat} {a : Option Addr} {l : Nat} {way : Ds} {g : Option Nat} {z : List Nat} (h : RB w old a l way g z W) (hb : Below W.heap.size W W') : RB w old a l way g z W' := by
  obtain ⟨⟨x, y, hx, hy, h1⟩, h2, h3⟩ := h
  exact ⟨⟨x, y, hx, hy, h1.below hb⟩, h2.below hb, fun b hg => ⟨(h3 b hg).1, (h3 b hg).2.below hb (h3 b hg).2.lt⟩⟩
theorem RB.old {w W : World} {old : List Nat} {a : Option Addr} {l : Nat} {way : Ds} {g : Option Nat} {z : List Nat} (h : RB w old a l way g z W) : W.rangeAt w.heap.size 0 (cellsOf old) := by
  obtain ⟨⟨x, y, _, _, h1⟩, _, _⟩ := h
  exact h1.1.range
theorem RB.bel {w W : World} {old : List Nat} {a : Option Addr} {l : Nat} {way : Ds} {g : Option Nat} {z : List Nat} (h : RB w old a l way g z W) : Below w.heap.size w W := by
  obtain ⟨⟨x, y, _, _, h1⟩, _, _⟩ := h
  exact h1.2.2.2
/-- a store to one of the two results -/
theorem RB.store {w W W' : World} {old x y : List Nat} {a : Option Addr} {l : Nat} {way : Ds} {g : Option Nat} {z : List Nat} {c : Nat} (h : RB w old a l way g z W) (h0 : DR w a l way) (hc : A3 w old x y W') (hx : x.length = 32) (hy : y.length = 32) (h1 : w.heap.size ≤ c) (h2 : c ≤ w.heap.size + 1 + 1) (ho : Only c W W') : RB w old a l way g z W' := by
  obtain ⟨_, hd, hg⟩ := h
  exact ⟨⟨x, y, hx, hy, hc⟩, hd.only h0 h1 ho, fun b hb => ⟨(hg b hb).1, (hg b hb).2.only ho (by have := (hg b hb).1; omega)⟩⟩
theorem results_two {fn : Func} {P : Program} {p q r : Tmp} {ty : TypeId} (h : fn.results = #[.cell p ty, .cell q ty, .tmp r]) (tmps : Array Value) (w : World) (g1 g2 : Nat) (t1 t2 : TypeId) (c1 c2 : Array Value) (f1 f2 : Nat × Nat) (d : TypeDesc) (b : Value)
    (hp : tmps.getD p undef = .pointer (some ⟨g1, 0, none⟩)) (hq : tmps.getD q undef = .pointer (some ⟨g2, 0, none⟩)) (hr : tmps.getD r undef = b) (hg1 : w.heap[g1]? = some (.cells c1 t1 f1)) (hg2 : w.heap[g2]? = some (.cells c2 t2 f2))
    (hu : P.underlying ty = some d) (hd : (match d with | .struct _ | .array _ _ => true | _ => false) = true) (hi1 : (P.info? ty).map (·.size) = some c1.size) (hi2 : (P.info? ty).map (·.size) = some c2.size) :
    (results fn tmps).run P w = .ok (.tuple #[.agg c1, .agg c2, b]) w := by
  have hp' : tmps[p]?.getD undef = .pointer (some ⟨g1, 0, none⟩) := by simpa using hp
  have hq' : tmps[q]?.getD undef = .pointer (some ⟨g2, 0, none⟩) := by simpa using hq
  have hr' : tmps[r]?.getD undef = b := by simpa using hr
  simp [results, h, hp', hq', hr', asAddr, run_loadVar_row w g1 t1 ty c1 f1 d hg1 hu hd hi1, run_loadVar_row w g2 t2 ty c2 f2 d hg2 hu hd hi2]
end Go.Proofs.YtlnblfdddellmaaDoor
