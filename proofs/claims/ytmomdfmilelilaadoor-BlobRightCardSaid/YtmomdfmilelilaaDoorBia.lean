/-
  Steps in order, each a function value: up to the first one that has an error.
-/
import Derived.Test.YtmomdfmilelilaaDoorDkb
namespace Go.Proofs.YtmomdfmilelilaaDoor
open Go.RowKit
set_option linter.unusedVariables false
theorem run_step_idx (W : World) (b len cap i : Nat) (hi : i < len) : (Instr.indexAt 58 (.slice (some ⟨b, 0, none⟩) len cap) (.int .i64 (i : Int))).run Tryd.prog W = .ok (.pointer (some ⟨b, i, none⟩)) W := by
  rw [run_indexAt_slice W 58 ⟨b, 0, none⟩ len cap .i64 (i : Int) (by kernel_rfl)]
  have h1 : (0 : Int) ≤ (i : Int) ∧ (i : Int) < (len : Int) := by omega
  rw [if_pos h1, show (Go.sizeOf (Tryd.prog.elem 58)).run Tryd.prog W = .ok 1 W from by kernel_rfl]
  simp [Result.andThen, Addr.add]
  exact fun h => h.symm
/-- a step: a function, what is bound to it, what it has captured -/
structure Stp where
  f : FuncId
  A : Array Value
  C : Array Value
def Stp.val (s : Stp) : Value := .func (.func s.f) s.A s.C
set_option maxRecDepth 100000 in
set_option maxHeartbeats 4000000 in
theorem inorder_c (b n : Nat) (S : Nat → Stp) (Q : Nat → World → Prop) (Fin : Int → World → Prop) (w : World) (hn : n ≤ 1000) (h0 : Q 0 w)
    (hent : ∀ i, i < n → ∀ args W, (callFunc (S i).f args).run Tryd.prog W = .ok (.enter (S i).f args) W)
    (hcell : ∀ i, i < n → ∀ W, Q i W → W.cell? ⟨b, i, none⟩ = some (S i).val)
    (hstep : ∀ i, i < n → ∀ W, Q i W → Calls Tryd.prog (S i).f ((S i).A ++ (S i).C) W fun e w' => ∃ x, e = .returned (.int .i64 x) ∧ (x = 0 ∧ Q (i + 1) w' ∨ x ≠ 0 ∧ Fin x w')) :
    Calls Tryd.prog 17 #[.slice (some ⟨b, 0, none⟩) n n] w fun e w' => ∃ x, e = .returned (.int .i64 x) ∧ (x = 0 ∧ Q n w' ∨ x ≠ 0 ∧ Fin x w') := by
  have HC := Lib.hid hcell
  have HE := Lib.hid hent
  have HS := Lib.hid hstep
  have H0 := Lib.hid h0
  clear hcell hstep h0 hent
  go_enter Tryd.func17, Tryd.ntmps17
  go_wp2_with fail
  go_loopw [8] (fun i wr => ∃ k : Nat, k ≤ n ∧ i = .int .i64 k ∧ Hid (Q k wr)) (fun i _ => n - (intOf i).toNat)
  case atStart => exact ⟨0, Nat.zero_le _, rfl, H0⟩
  case round =>
    clear H0
    obtain ⟨k, hk, rfl, HQ⟩ := hrel
    by_cases hkn : k < n
    · have c0 := HC.out k hkn wr HQ.out
      have hst := HS.out k hkn wr HQ.out
      have hen := HE.out k hkn
      generalize S k = s at c0 hst hen
      obtain ⟨f, A, C⟩ := s
      have c1 : wr.cell? ⟨b, k, none⟩ = some (.func (.func f) A C) := c0
      clear c0
      have hst : Calls Tryd.prog f (A ++ C) wr fun e w' => ∃ x, e = .returned (.int .i64 x) ∧ (x = 0 ∧ Q (k + 1) w' ∨ x ≠ 0 ∧ Fin x w') := hst
      have hen : ∀ args W, (callFunc f args).run Tryd.prog W = .ok (.enter f args) W := hen
      have hix := fun W => run_step_idx W b n n k hkn
      have HST := Lib.hid hst
      clear hst HQ
      go_wp2_with fail
      refine HST.out.mono ?_
      rintro e w' ⟨x, rfl, hx⟩
      rcases hx with ⟨rfl, hq⟩ | ⟨hx, hf⟩
      · have HQ1 := Lib.hid hq
        clear hq HST c1 hix
        go_wp2_with fail
        go_roundw
        case rel => exact ⟨k + 1, by omega, by go_num, HQ1⟩
        case measure => simp [intOf]; omega
      · have HF := Lib.hid hf
        have hxx : (x != 0) = true := by simp [hx]
        clear hf HST c1 hix
        go_wp2_with fail
        go_ret
        exact ⟨x, rfl, .inr ⟨hx, HF.out⟩⟩
    · obtain rfl : k = n := by omega
      have HQ2 := Lib.hid HQ.out
      clear HQ
      go_wp2_with fail
      go_ret
      exact ⟨0, rfl, .inl ⟨rfl, HQ2.out⟩⟩
end Go.Proofs.YtmomdfmilelilaaDoor
