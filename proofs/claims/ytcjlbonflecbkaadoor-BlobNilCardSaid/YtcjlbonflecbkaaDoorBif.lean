/-
  A store checks a file: where there is none, or no power.
-/
import Derived.Test.YtcjlbonflecbkaaDoorBie
import Derived.BigQuiet
namespace Go.Proofs.YtcjlbonflecbkaaDoor
open Go.RowKit
set_option linter.unusedVariables false
set_option maxRecDepth 100000 in
set_option maxHeartbeats 8000000 in
theorem check_down {X : Nat → Prop} {B d N sb : Nat} {A : Ad} {w : World} (h : Bs X B d sb N A w) (ht : Tab w) (ds : List Nat) (hd : D32 ds) (nm : ByteArray) (hnm : nm.size ≤ maxLen) (hdn : A.down = true) :
    Calls Tryd.prog 45 #[.pointer (some ⟨sb, 0, none⟩), .string nm, .agg (cellsOf ds).toArray] w fun e w' => e = .returned (.int .i64 5) ∧ Below w.heap.size w w' := by
  obtain ⟨X0, hX0⟩ : ∃ X0, X0 = w.heap.size := ⟨_, rfl⟩
  obtain ⟨w1, hw1⟩ : ∃ w1, w1 = w.alloc (.cells (cellsOf ds).toArray 37) := ⟨_, rfl⟩
  have q1 : Below w.heap.size w w1 := by rw [hw1]; exact (Below.refl _ _).alloc (Nat.le_refl _) _
  have hbr : Brow w1 X0 37 ds := by rw [hw1, hX0]; exact heap_new _ _
  have hsb := h.dx.lt sb h.sx
  have hcs := (q1.cell (p := ⟨sb, 0, none⟩) hsb).trans h.st
  have HSS := Lib.hid (show S1 sb d X0 ds w1 from ⟨hcs, hbr, Nat.lt_of_lt_of_le hsb q1.size⟩)
  have HQ := Lib.hid q1
  obtain ⟨S, k1, k2, _⟩ := (h.dx.below q1).ex
  have hrd := aread k1 k2 nm hnm 0 67108864
  unfold RdA at hrd
  rw [hdn] at hrd
  simp only [if_true] at hrd
  have HRD := Lib.hid hrd
  clear h hd hbr q1 hsb k1 k2 hrd
  go_enter Tryd.func45, Tryd.ntmps45
  go_upto_region 1 with fail
  rw [← hX0]
  rw [← hw1]
  clear hX0 hw1
  go_wp2_with fail
  refine HRD.out.mono ?_
  rintro e2 w2 ⟨rfl, rfl⟩
  clear HRD HSS
  go_wp2_with fail
  go_quiet (fail)
  go_wp2_with fail
  go_ret
  exact ⟨rfl, HQ.out.trans (below_drewN' _ _ _)⟩
set_option maxRecDepth 100000 in
set_option maxHeartbeats 8000000 in
theorem check_none {X : Nat → Prop} {B d N sb : Nat} {A : Ad} {w : World} (h : Bs X B d sb N A w) (ht : Tab w) (ds : List Nat) (hd : D32 ds) (nm : ByteArray) (hnm : nm.size ≤ maxLen) (hdn : A.down = false) (hlk : lookF A.now nm = none) :
    Calls Tryd.prog 45 #[.pointer (some ⟨sb, 0, none⟩), .string nm, .agg (cellsOf ds).toArray] w fun e w' => e = .returned (.int .i64 6) ∧ Below w.heap.size w w' := by
  obtain ⟨X0, hX0⟩ : ∃ X0, X0 = w.heap.size := ⟨_, rfl⟩
  obtain ⟨w1, hw1⟩ : ∃ w1, w1 = w.alloc (.cells (cellsOf ds).toArray 37) := ⟨_, rfl⟩
  have q1 : Below w.heap.size w w1 := by rw [hw1]; exact (Below.refl _ _).alloc (Nat.le_refl _) _
  have hbr : Brow w1 X0 37 ds := by rw [hw1, hX0]; exact heap_new _ _
  have hsb := h.dx.lt sb h.sx
  have hcs := (q1.cell (p := ⟨sb, 0, none⟩) hsb).trans h.st
  have HSS := Lib.hid (show S1 sb d X0 ds w1 from ⟨hcs, hbr, Nat.lt_of_lt_of_le hsb q1.size⟩)
  have HQ := Lib.hid q1
  obtain ⟨S, k1, k2, _⟩ := (h.dx.below q1).ex
  have hrd := aread k1 k2 nm hnm 0 67108864
  unfold RdA at hrd
  rw [hdn, hlk] at hrd
  simp only [Bool.false_eq_true, if_false] at hrd
  have HRD := Lib.hid hrd
  clear h hd hbr q1 hsb k1 k2 hrd
  go_enter Tryd.func45, Tryd.ntmps45
  go_upto_region 1 with fail
  rw [← hX0]
  rw [← hw1]
  clear hX0 hw1
  go_wp2_with fail
  refine HRD.out.mono ?_
  rintro e2 w2 ⟨rfl, rfl⟩
  clear HRD HSS
  go_wp2_with fail
  go_quiet (fail)
  go_wp2_with fail
  go_ret
  exact ⟨rfl, HQ.out.trans (below_drewN' _ _ _)⟩
end Go.Proofs.YtcjlbonflecbkaaDoor
