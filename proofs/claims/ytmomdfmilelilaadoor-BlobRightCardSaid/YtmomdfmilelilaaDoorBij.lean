/-
  A store on a disk: New.
-/
import Derived.Test.YtmomdfmilelilaaDoorBic
namespace Go.Proofs.YtmomdfmilelilaaDoor
open Go.RowKit
set_option linter.unusedVariables false
def nwS : List (Ad → Ad × Int) := [fun A => A.step ⟨2, spr, ⟨#[]⟩, []⟩, Ad.sync]
/-- what New leaves -/
def NewR (X : Nat → Prop) (B d N : Nat) (w : World) (r : Ad × Int) (e : Ending) (w' : World) : Prop :=
  (((r.2 = 0 ∨ r.2 = 6) ∧ e = .returned (.tuple #[.pointer (some ⟨w.heap.size, 0, none⟩), .int .i64 0])) ∨ ((r.2 ≠ 0 ∧ r.2 ≠ 6) ∧ e = .returned (.tuple #[.pointer none, .int .i64 r.2]))) ∧ Dx (fun j => X j ∨ j = w.heap.size) B d N r.1 w' ∧ w'.cell? ⟨w.heap.size, 0, none⟩ = some (.pointer (some ⟨d, 0, none⟩)) ∧ Below B w w' ∧ KpD X w w'
set_option maxRecDepth 100000 in
set_option maxHeartbeats 8000000 in
theorem bnew_c {X : Nat → Prop} {B d N : Nat} {A : Ad} {w : World} (h : Dx X B d N A w) (hN : N < 100000000) (hXB : B ≤ w.heap.size) :
    Calls Tryd.prog 5 #[.pointer (some ⟨d, 0, none⟩)] w (NewR X B d (N + 6) w (runA nwS A)) := by
  obtain ⟨sb, hsb⟩ : ∃ sb, sb = w.heap.size := ⟨_, rfl⟩
  obtain ⟨w1, hw1⟩ : ∃ w1, w1 = w.alloc (.cells #[.pointer (some ⟨d, 0, none⟩)] 55) := ⟨_, rfl⟩
  obtain ⟨b7, hb7⟩ : ∃ b7, b7 = w1.heap.size := ⟨_, rfl⟩
  obtain ⟨w2, hw2⟩ : ∃ w2, w2 = w1.alloc (.cells #[.func (.func 18) #[.pointer (some ⟨sb, 0, none⟩)] #[], .func (.func 19) #[.pointer (some ⟨d, 0, none⟩)] #[]] 83) := ⟨_, rfl⟩
  have z1 : w1.heap.size = sb + 1 := by rw [hw1, hsb]; simp
  have z2 : w2.heap.size = b7 + 1 := by rw [hw2, hb7]; simp
  have q1 : Below w.heap.size w w1 := by rw [hw1]; exact (Below.refl _ _).alloc (Nat.le_refl _) _
  have q2 : Below w1.heap.size w1 w2 := by rw [hw2]; exact (Below.refl _ _).alloc (Nat.le_refl _) _
  have r12 : Below w.heap.size w w2 := q1.trans (q2.mono q1.size)
  have ks : w2.cell? ⟨sb, 0, none⟩ = some (.pointer (some ⟨d, 0, none⟩)) := (q2.cell (p := ⟨sb, 0, none⟩) (by show sb < _; omega)).trans (by rw [hw1, hsb]; exact cell_of_row _ _ 0 _ _ _ (heap_alloc_new w _))
  have k7 : w2.heap[b7]? = some (.cells #[.func (.func 18) #[.pointer (some ⟨sb, 0, none⟩)] #[], .func (.func 19) #[.pointer (some ⟨d, 0, none⟩)] #[]] 83 (0, 0)) := by rw [hw2, hb7]; exact heap_alloc_new _ _
  obtain ⟨X7, hX7⟩ : ∃ X7 : Nat → Prop, X7 = fun j => X j ∨ j = sb ∨ j = b7 := ⟨_, rfl⟩
  have hd7 : Dx X7 B d N A w2 := h.belowY r12 (fun j hj => by rw [hX7] at hj; rcases hj with hj | hj; exact .inl hj; exact .inr (by omega)) (fun j hj => by
    rw [hX7] at hj
    rcases hj with hj | hj
    · exact Nat.lt_of_lt_of_le (h.lt j hj) r12.size
    · omega)
  have x7 : X7 b7 := by rw [hX7]; exact .inr (.inr rfl)
  have xs : X7 sb := by rw [hX7]; exact .inr (.inl rfl)
  have hIN := inorder_ad hd7 b7 2 (fun i => match i with | 0 => ⟨18, #[.pointer (some ⟨sb, 0, none⟩)], #[]⟩ | _ => ⟨19, #[.pointer (some ⟨d, 0, none⟩)], #[]⟩) nwS rfl (by omega) x7 (fun i hi => by
      rw [cell_of_row w2 b7 i _ _ _ k7]
      match i, hi with
      | 0, _ => rfl
      | 1, _ => rfl) (fun i hi => by
      match i, hi with
      | 0, _ => exact enters_of Tryd.func18 (by kernel_rfl) rfl
      | 1, _ => exact enters_of Tryd.func19 (by kernel_rfl) rfl) (fun i f hf A1 W g1 g2 g3 => by
      have ys : W.cell? ⟨sb, 0, none⟩ = some (.pointer (some ⟨d, 0, none⟩)) := (World.cell?_of_block (g3 sb xs)).trans ks
      have hi : i < 2 := (List.getElem?_eq_some_iff.1 hf).1
      match i, hi, hf with
      | 0, _, hf => cases hf; exact rspare_c g1 (by omega) ys
      | 1, _, hf => cases hf; exact g1.sync)
  subst hX7
  obtain ⟨r, hr⟩ : ∃ r, runA nwS A = r := ⟨_, rfl⟩
  rw [hr] at hIN ⊢
  have HIN := Lib.hid hIN
  have HW := Lib.hid r12
  have HKS := Lib.hid ks
  have HLT := Lib.hid h.lt
  have e7 : sb + 1 = b7 := by omega
  have hmf : ∀ (fn : Fn) (first cap : Array Value) (w : World), (Instr.makeFunc fn first cap).run Tryd.prog w = .ok (.func fn first cap) w := fun _ _ _ _ => rfl
  clear hIN hb7 z1 z2 q1 q2 r12 ks k7 hd7 x7 xs h hr
  go_enter Tryd.func5, Tryd.ntmps5
  go_wp2_with fail
  rw [← hsb, ← hw1, e7, ← hw2]
  have HSB := Lib.hid hsb
  clear hw1 hw2 hsb e7 hmf
  refine HIN.out.mono ?_
  rintro e w' ⟨rfl, k1, k2, k3⟩
  have HE := Lib.hid (show Dx (fun j => X j ∨ j = w.heap.size) B d (N + 6) r.1 w' ∧ w'.cell? ⟨w.heap.size, 0, none⟩ = some (.pointer (some ⟨d, 0, none⟩)) ∧ Below B w w' ∧ KpD X w w' from by
    rw [← HSB.out]
    exact ⟨(k1.less fun j hj => hj.imp id fun e => .inl e).mono (by omega), (World.cell?_of_block (k3 sb (.inr (.inl rfl)))).trans HKS.out, (HW.out.mono hXB).trans k2, fun j hj => (k3 j (.inl hj)).trans (HW.out.block j (HLT.out j hj))⟩)
  clear k1 k2 k3 HIN HW HKS HLT
  obtain ⟨A', x⟩ := r
  by_cases h0 : x = 0
  · subst h0
    go_wp2_with fail
    go_ret2
    exact ⟨.inl ⟨.inl rfl, by rw [← HSB.out]; rfl⟩, HE.out⟩
  · by_cases h6 : x = 6
    · subst h6
      go_wp2_with fail
      go_ret2
      exact ⟨.inl ⟨.inr rfl, by rw [← HSB.out]; rfl⟩, HE.out⟩
    · have hx0 : (x != 0) = true := by simp [h0]
      have hx6 : (x != 6) = true := by simp [h6]
      go_wp2_with fail
      go_ret2
      exact ⟨.inr ⟨⟨h0, h6⟩, rfl⟩, HE.out⟩
end Go.Proofs.YtmomdfmilelilaaDoor
