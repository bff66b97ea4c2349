/-
  The walk over small of layer 10's laws; slices of rows of slices.
-/
import Derived.Test.YtjpcbmfnjifgfaaJti
import Derived.Test.YtjpcbmfnjifgfaaJtp
namespace Go.Proofs.Ytjpcbmfnjifgfaa
open Go.RowKit
set_option linter.unusedVariables false
theorem sizeOf_sl (W : World) : (Go.sizeOf 30).run Try.prog W = .ok 1 W := by kernel_rfl
theorem und_bss : Try.prog.underlying 52 = some (.slice (Try.prog.elem 52)) := by
  rw [show Try.prog.elem 52 = 30 by kernel_rfl]; exact Try.underlying52
theorem run_vheadAt (W : World) (a : Option Addr) (len cap k : Nat) (hk : k ≤ cap) :
    (Instr.sliceAt 52 (.slice a len cap) none (some (.int .i64 (k : Int))) none).run Try.prog W = .ok (.slice a k cap) W := by
  rw [run_sliceAt_slice W _ _ _ _ _ und_bss, run_slice_h W _ a len cap und_bss .i64 (k : Int) (by omega) (by omega), show Try.prog.elem 52 = 30 by kernel_rfl, sizeOf_sl]
  simp [Result.andThen, sliced, add_zero']
def SmallR (len : Nat) (L : List Sl) (w : World) (e : Ending) (w' : World) : Prop := ∃ r : Bool, e = .returned (.bool r) ∧ w' = w ∧ (r = true → len ≤ 12 ∧ ∀ s ∈ L, s.2.1 ≤ 400)
set_option maxRecDepth 100000 in
set_option maxHeartbeats 2000000 in
theorem small_c (a : Option Addr) (len cap : Nat) (L : List Sl) (w : World) (h : BssIn w a len cap L) :
    Calls Try.prog 41 #[.slice a len cap] w (SmallR len L w) := by
  obtain ⟨hl, hnil, hlc, hcm, hh, hs⟩ := h
  have HL := Lib.hid hl
  have HH := Lib.hid hh
  have HS := Lib.hid hs
  clear hl hh hs hnil
  by_cases h12 : len ≤ 12
  · have i1 : (len : Int) ≤ 12 := by omega
    have kH := fun W => run_vheadAt W a len cap len hlc
    go_enter Try.func41, Try.ntmps41
    go_wp2_with fail
    go_loopw [3, 12] (fun v i wr => ∃ k s : Nat, k ≤ len ∧ i = .int .i64 k ∧ v = .int .i64 s ∧ s ≤ 400 * k ∧ Hid (∀ (j : Nat) (x : Sl), j < k → L[j]? = some x → x.2.1 ≤ 400) ∧ w = wr) (fun _ i _ => len - (intOf i).toNat)
    case atStart => exact ⟨0, 0, Nat.zero_le _, rfl, rfl, by omega, Lib.hid fun j x hj => absurd hj (Nat.not_lt_zero _), rfl⟩
    case round =>
      obtain ⟨k, s, hk, rfl, rfl, hsk, HJ, rfl⟩ := hrel
      by_cases hkl : k < len
      · obtain ⟨x, hx⟩ : ∃ x, L[k]? = some x := ⟨_, List.getElem?_eq_getElem (by rw [HL.out]; exact hkl)⟩
        obtain ⟨b, off, rfl, hblt, hcells⟩ := HH.out.resolve_left (by omega)
        have hc := hcells k x hx
        have HX := Lib.hid hx
        have hn63 := (HS.out x (List.mem_of_getElem? hx)).2.2
        obtain ⟨xa, n, xc, xz⟩ := x
        simp only [slv] at hc
        simp only at hn63
        obtain ⟨hn1, hn2⟩ := hn63
        clear hcells hx
        by_cases hn : n ≤ 400
        · have i2 : ¬ (n : Int) > 400 := by omega
          have i3 : s + n ≤ 8000 := by omega
          have HJ2 := Lib.hid (show ∀ (j : Nat) (x : Sl), j < k + 1 → L[j]? = some x → x.2.1 ≤ 400 from fun j x hj hjx => by
            by_cases e : j = k
            · subst e
              rw [HX.out] at hjx
              cases hjx
              exact hn
            · exact HJ.out j x (by omega) hjx)
          clear HJ HX
          go_wp2_with fail
          go_roundw
          case rel => exact ⟨k + 1, s + n, by omega, by go_num, by go_num, by omega, HJ2, by first | trivial | rfl⟩
          case measure => simp [intOf]; omega
        · have i2 : (n : Int) > 400 := by omega
          go_wp2_with fail
          go_ret
          exact ⟨false, rfl, rfl, fun e => by cases e⟩
      · have HE := Lib.hid (show ∀ s ∈ L, s.2.1 ≤ 400 from fun x hx => by
          obtain ⟨j, hj⟩ := List.mem_iff_getElem?.1 hx
          have h1 := (List.getElem?_eq_some_iff.1 hj).1
          exact HJ.out j x (by rw [HL.out] at h1; omega) hj)
        clear HJ
        go_wp2_with fail
        go_ret
        exact ⟨_, rfl, rfl, fun _ => ⟨h12, HE.out⟩⟩
  · have i1 : ¬ (len : Int) ≤ 12 := by omega
    have kH : ∀ W : World, (Instr.sliceAt 52 (.slice a len cap) none (some (.int .i64 12)) none).run Try.prog W = .ok (.slice a 12 cap) W := fun W => run_vheadAt W a len cap 12 (by omega)
    go_enter Try.func41, Try.ntmps41
    go_wp2_with fail
    go_loopw [3, 12] (fun v i wr => ∃ k s : Nat, k ≤ 12 ∧ i = .int .i64 k ∧ v = .int .i64 s ∧ s ≤ 400 * k ∧ w = wr) (fun _ i _ => 12 - (intOf i).toNat)
    case atStart => exact ⟨0, 0, Nat.zero_le _, rfl, rfl, by omega, rfl⟩
    case round =>
      obtain ⟨k, s, hk, rfl, rfl, hsk, rfl⟩ := hrel
      by_cases hkl : k < 12
      · obtain ⟨x, hx⟩ : ∃ x, L[k]? = some x := ⟨_, List.getElem?_eq_getElem (by rw [HL.out]; omega)⟩
        obtain ⟨b, off, rfl, hblt, hcells⟩ := HH.out.resolve_left (by omega)
        have hc := hcells k x hx
        have hn63 := (HS.out x (List.mem_of_getElem? hx)).2.2
        obtain ⟨xa, n, xc, xz⟩ := x
        simp only [slv] at hc
        simp only at hn63
        obtain ⟨hn1, hn2⟩ := hn63
        clear hcells hx
        by_cases hn : n ≤ 400
        · have i2 : ¬ (n : Int) > 400 := by omega
          have i3 : s + n ≤ 8000 := by omega
          go_wp2_with fail
          go_roundw
          case rel => exact ⟨k + 1, s + n, by omega, by go_num, by go_num, by omega, by first | trivial | rfl⟩
          case measure => simp [intOf]; omega
        · have i2 : (n : Int) > 400 := by omega
          go_wp2_with fail
          go_ret
          exact ⟨false, rfl, rfl, fun e => by cases e⟩
      · go_wp2_with fail
        go_ret
        exact ⟨false, rfl, rfl, fun e => by cases e⟩
end Go.Proofs.Ytjpcbmfnjifgfaa
