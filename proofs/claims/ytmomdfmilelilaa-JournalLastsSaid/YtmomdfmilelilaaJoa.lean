/-
  A journal's steps in order, each a function value: up to the first one that has an error.
-/
import Derived.Test.YtmomdfmilelilaaBib
namespace Go.Proofs.Ytmomdfmilelilaa
open Go.RowKit
set_option linter.unusedVariables false
theorem run_jstep_idx (W : World) (b len cap i : Nat) (hi : i < len) : (Instr.indexAt 138 (.slice (some ⟨b, 0, none⟩) len cap) (.int .i64 (i : Int))).run Try.prog W = .ok (.pointer (some ⟨b, i, none⟩)) W := by
  rw [run_indexAt_slice W 138 ⟨b, 0, none⟩ len cap .i64 (i : Int) (by kernel_rfl)]
  have h1 : (0 : Int) ≤ (i : Int) ∧ (i : Int) < (len : Int) := by omega
  rw [if_pos h1, show (Go.sizeOf (Try.prog.elem 138)).run Try.prog W = .ok 1 W from by kernel_rfl]
  simp [Result.andThen, Addr.add]
  exact fun h => h.symm
set_option maxRecDepth 100000 in
set_option maxHeartbeats 4000000 in
theorem jorder_c (b n : Nat) (S : Nat → Stp) (Q : Nat → World → Prop) (Fin : Int → World → Prop) (w : World) (hn : n ≤ 1000) (h0 : Q 0 w)
    (hent : ∀ i, i < n → ∀ args W, (callFunc (S i).f args).run Try.prog W = .ok (.enter (S i).f args) W)
    (hcell : ∀ i, i < n → ∀ W, Q i W → W.cell? ⟨b, i, none⟩ = some (S i).val)
    (hstep : ∀ i, i < n → ∀ W, Q i W → Calls Try.prog (S i).f ((S i).A ++ (S i).C) W fun e w' => ∃ x, e = .returned (.int .i64 x) ∧ (x = 0 ∧ Q (i + 1) w' ∨ x ≠ 0 ∧ Fin x w')) :
    Calls Try.prog 67 #[.slice (some ⟨b, 0, none⟩) n n] w fun e w' => ∃ x, e = .returned (.int .i64 x) ∧ (x = 0 ∧ Q n w' ∨ x ≠ 0 ∧ Fin x w') := by
  have HC := Lib.hid hcell
  have HE := Lib.hid hent
  have HS := Lib.hid hstep
  have H0 := Lib.hid h0
  clear hcell hstep h0 hent
  go_enter Try.func67, Try.ntmps67
  go_wp2_with fail
  go_loopw [8] (fun i wr => ∃ k : Nat, k ≤ n ∧ i = .int .i64 k ∧ Hid (Q k wr)) (fun i _ => n - (intOf i).toNat)
  case atStart => exact ⟨0, Nat.zero_le _, rfl, H0⟩
  case round =>
    clear H0
    obtain ⟨k, hk, rfl, HQ⟩ := hrel
    by_cases hkn : k < n
    · have c0 := HC.out k hkn wr HQ.out
      have hst := HS.out k hkn wr HQ.out
      have hen := HE.out k hkn
      generalize S k = s at c0 hst hen
      obtain ⟨f, A, C⟩ := s
      have c1 : wr.cell? ⟨b, k, none⟩ = some (.func (.func f) A C) := c0
      clear c0
      have hst : Calls Try.prog f (A ++ C) wr fun e w' => ∃ x, e = .returned (.int .i64 x) ∧ (x = 0 ∧ Q (k + 1) w' ∨ x ≠ 0 ∧ Fin x w') := hst
      have hen : ∀ args W, (callFunc f args).run Try.prog W = .ok (.enter f args) W := hen
      have hix := fun W => run_jstep_idx W b n n k hkn
      have HST := Lib.hid hst
      clear hst HQ
      go_wp2_with fail
      refine HST.out.mono ?_
      rintro e w' ⟨x, rfl, hx⟩
      rcases hx with ⟨rfl, hq⟩ | ⟨hx, hf⟩
      · have HQ1 := Lib.hid hq
        clear hq HST c1 hix
        go_wp2_with fail
        go_roundw
        case rel => exact ⟨k + 1, by omega, by go_num, HQ1⟩
        case measure => simp [intOf]; omega
      · have HF := Lib.hid hf
        have hxx : (x != 0) = true := by simp [hx]
        clear hf HST c1 hix
        go_wp2_with fail
        go_ret
        exact ⟨x, rfl, .inr ⟨hx, HF.out⟩⟩
    · obtain rfl : k = n := by omega
      have HQ2 := Lib.hid HQ.out
      clear HQ
      go_wp2_with fail
      go_ret
      exact ⟨0, rfl, .inl ⟨rfl, HQ2.out⟩⟩
/-- steps of a journal, in order, on a disk -/
theorem jorder_ad {X : Nat → Prop} {B d N : Nat} {A : Ad} {w : World} (h : Dx X B d N A w) (b n : Nat) (S : Nat → Stp) (fs : List (Ad → Ad × Int)) (hn : fs.length = n) (hn1 : n ≤ 1000)
    (hb : X b) (hcell : ∀ i, i < n → w.cell? ⟨b, i, none⟩ = some (S i).val)
    (hent : ∀ i, i < n → ∀ args W, (callFunc (S i).f args).run Try.prog W = .ok (.enter (S i).f args) W)
    (hstep : ∀ i f, fs[i]? = some f → ∀ A1 W, Dx X B d (N + 3 * i) A1 W → Below B w W → KpD X w W → Calls Try.prog (S i).f ((S i).A ++ (S i).C) W (DxR X B d (N + 3 * i + 3) W (f A1))) :
    Calls Try.prog 67 #[.slice (some ⟨b, 0, none⟩) n n] w (DxR X B d (N + 3 * n) w (runA fs A)) := by
  refine (jorder_c b n S (fun i W => ∃ A1, runA (fs.take i) A = (A1, 0) ∧ Dx X B d (N + 3 * i) A1 W ∧ Below B w W ∧ KpD X w W) (fun x W => ∃ A1, runA fs A = (A1, x) ∧ Dx X B d (N + 3 * n) A1 W ∧ Below B w W ∧ KpD X w W) w hn1 ⟨A, rfl, h, Below.refl _ _, KpD.refl _ _⟩ hent ?_ ?_).mono ?_
  · rintro i hi W ⟨A1, h1, h2, h3, h4⟩
    rw [World.cell?_of_block (h4 b hb)]
    exact hcell i hi
  · rintro i hi W ⟨A1, h1, h2, h3, h4⟩
    obtain ⟨f, hf⟩ : ∃ f, fs[i]? = some f := ⟨_, List.getElem?_eq_getElem (by omega)⟩
    obtain ⟨r1, r2⟩ := runA_at hf h1
    refine (hstep i f hf A1 W h2 h3 h4).mono ?_
    rintro e w' ⟨rfl, k1, k2, k3⟩
    refine ⟨_, rfl, ?_⟩
    by_cases h0 : (f A1).2 = 0
    · exact .inl ⟨h0, _, r1 h0, k1.mono (by omega), h3.trans k2, h4.trans k3⟩
    · exact .inr ⟨h0, (f A1).1, r2 h0, k1.mono (by omega), h3.trans k2, h4.trans k3⟩
  · rintro e w' ⟨x, rfl, h1⟩
    rcases h1 with ⟨rfl, A1, h2, h3, h4, h5⟩ | ⟨hx, A1, h2, h3, h4, h5⟩
    · have h6 : fs.take n = fs := List.take_of_length_le (by omega)
      rw [h6] at h2
      rw [h2]
      exact ⟨rfl, h3, h4, h5⟩
    · rw [h2]
      exact ⟨rfl, h3, h4, h5⟩
end Go.Proofs.Ytmomdfmilelilaa
