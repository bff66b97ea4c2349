/-
  The walk over the document's Tops.
-/
import Derived.Test.YtlnblfdddellmaaDoorTps
import Derived.Test.YtlnblfdddellmaaDoorLod
namespace Go.Proofs.YtlnblfdddellmaaDoor
open Go.RowKit
set_option linter.unusedVariables false
set_option maxRecDepth 100000 in
set_option maxHeartbeats 4000000 in
theorem rtopsl_c (n : Nat) (ds : Ds) (a : Option Addr) (cap : Nat) (w : World) (hr : DR w a n ds) (hlc : n ≤ cap) (hcm : cap ≤ 9223372036854775807) (hn : n ≤ 4398046511103) :
    Calls Tryd.prog 15 #[.slice a n cap] w (RetDs 31 (topsF 63 ds) w) := by
  obtain ⟨O, hO⟩ : ∃ O, O = topsF 63 ds := ⟨_, rfl⟩
  rw [← hO]
  have HOD := Lib.hid (show ∀ d ∈ O, D32 d from by rw [hO]; exact topsF_d32 63 ds hr.2.1)
  have HR := Lib.hid hr
  have HOE := Lib.hid hO.symm
  clear hr hO
  go_enter Tryd.func15, Tryd.ntmps15
  go_wp2_with fail
  go_loopw [0, 3, 4] (fun lv ov iv wr => ∃ (m n' c' : Nat) (a' : Option Addr) (ds' os : Ds), m ≤ 63 ∧ lv = .slice a' n' c' ∧ iv = .int .i64 ((m : Int) - 1) ∧ n' ≤ c' ∧ c' ≤ 9223372036854775807 ∧ Hid (DR w a' n' ds') ∧ Hid (OwnD wr w.heap.size 31 ov os) ∧ Hid (Below w.heap.size w wr) ∧ Hid (os ++ topsF m ds' = O) ∧ Hid (os.length + m ≤ 63)) (fun _ _ iv _ => (intOf iv + 1).toNat)
  case atStart => exact ⟨63, n, cap, a, ds, [], by omega, rfl, rfl, hlc, hcm, HR, Lib.hid (OwnD.nil w _ _), Lib.hid (Below.refl _ _), HOE, Lib.hid (by simp)⟩
  case round =>
    obtain ⟨m, n', c', a', ds', os, hm63, rfl, rfl, hnc, hcc, HD, HO, HB, HE, HL⟩ := hrel
    cases m with
    | zero =>
      have HO2 := Lib.hid (show OwnD wr w.heap.size 31 u3 O from by
        have := HO.out
        rwa [show os = O from by have := HE.out; rwa [topsF, List.append_nil] at this] at this)
      clear HO HE
      go_wp2
      go_ret
      exact ⟨_, rfl, HO2.out, HB.out⟩
    | succ m =>
      obtain ⟨K, hK⟩ : ∃ K, K = 2 ^ m := ⟨_, rfl⟩
      have hK63 : K < 9223372036854775808 := by rw [hK]; exact Nat.pow_lt_pow_right (a := 2) (n := 63) (by omega) (by omega)
      have hwp : wrap64 ((2 : Int) ^ m) = (K : Int) := by rw [hK]; exact wrap_pow m (by omega)
      have hwu : IntKind.u64.wrap (m : Int) = (m : Int) := by rw [IntKind.wrap_u64]; omega
      have e1 : ((m + 1 : Nat) : Int) - 1 = (m : Int) := by omega
      rw [e1]
      have HKE := Lib.hid hK
      have hm0 : (0 : Int) ≤ (m : Int) := by omega
      have hdl := HD.out.1
      clear hK e1
      by_cases hk : K ≤ n'
      · have hkI : (K : Int) ≤ (n' : Int) := by omega
        have kH := fun W => run_dheadAt dtR W a' n' c' K (by omega)
        have kT := fun W => run_dcutAt dtR W a' n' c' K hk
        obtain ⟨r, hr⟩ : ∃ r, r = rootS (ds'.take K) := ⟨_, rfl⟩
        have HRD := Lib.hid (show D32 r from by rw [hr]; exact d32_root _ (d32_take HD.out.2.1 _))
        have HROOT := Lib.hid (show Calls Tryd.prog 12 #[.slice a' K c'] wr (DigRet r wr) from by
          rw [hr]
          have h : DR wr a' n' ds' := HD.out.below HB.out
          exact rroot_c K (ds'.take K) a' c' wr (h.take K hk) (by omega) hcc)
        have HNX := Lib.hid (show (os ++ [r]) ++ topsF m (ds'.drop K) = O from by
          have h := HE.out
          rw [topsF, if_pos (by rw [hdl, ← HKE.out]; exact hk), ← HKE.out, ← hr] at h
          rw [List.append_assoc]
          exact h)
        have HLN := Lib.hid (show os.length + 1 ≤ 4398046511104 from by have := HL.out; omega)
        have HDN := Lib.hid (HD.out.drop c' K hk hnc)
        have HLL := Lib.hid (show (os ++ [r]).length + m ≤ 63 from by have := HL.out; simp; omega)
        have hsz := HB.out.size
        clear hr HE HL hdl
        go_wp2_with (first | (go_at_call 12; refine HROOT.out.mono ?_; rintro e2 w2 ⟨rfl, hb2⟩; have HO2 := Lib.hid (OwnD.below HO.out hb2 (Nat.le_refl _)); have HB2 := Lib.hid (HB.out.trans (hb2.mono hsz)); have hsz2 := HB2.out.size; clear hb2) | (refine wpList_dlay dtR (by rfl) (.tmp 21) (by rfl) w2.heap.size rfl (some 22) (by rfl) r HRD.out (by rfl) ?_) | (at_builtin; (refine wpList_dpush dtR (by rfl) (.tmp 17) (.tmp 22) (by rfl) w.heap.size _ os r HRD.out (by rfl) HO2.out hsz2 (by rfl) HLN.out ?_); intro v3 w3 hown3 hb3; have HO3 := Lib.hid hown3; have HB3 := Lib.hid (HB2.out.trans hb3); clear hown3 hb3))
        go_roundw
        case rel => exact ⟨m, n' - K, c' - K, sld a' c' K, ds'.drop K, os ++ [r], by omega, rfl, by go_num, by omega, by omega, HDN, HO3, HB3, HNX, HLL⟩
        case measure => first | (simp [intOf]; done) | (simp [intOf]; omega)
      · have hkI : ¬ (K : Int) ≤ (n' : Int) := by omega
        have HNX := Lib.hid (show os ++ topsF m ds' = O from by
          have h := HE.out
          rwa [topsF, if_neg (by rw [hdl, ← HKE.out]; exact hk)] at h)
        have HLL := Lib.hid (show os.length + m ≤ 63 from by have := HL.out; omega)
        clear HE HL hdl
        go_wp2_with fail
        go_roundw
        case rel => exact ⟨m, n', c', a', ds', os, by omega, rfl, by go_num, hnc, hcc, HD, HO, HB, HNX, HLL⟩
        case measure => first | (simp [intOf]; done) | (simp [intOf]; omega)
end Go.Proofs.YtlnblfdddellmaaDoor
