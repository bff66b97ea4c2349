/-
  The walk over MerkleFrontiers.
-/
import Derived.Test.YtlnblfdddellmaaDoorFrx
namespace Go.Proofs.YtlnblfdddellmaaDoor
open Go.RowKit
set_option linter.unusedVariables false
set_option maxRecDepth 100000 in
set_option maxHeartbeats 16000000 in
theorem mfronts_c (a : Option Addr) (l cap : Nat) (ds : Ds) (aS : Option Addr) (lS cS : Nat) (Bf : Nat → Bool) (w : World) (hin : DigsIn w a l cap ds) (hbs : BoolsIn w aS lS cS Bf) (ht : Tab w) :
    Calls Tryd.prog 3 #[.slice a l cap, .slice aS lS cS] w fun e w' => e = .returned (.bool true) ∧ Below w.heap.size w w' := by
  obtain ⟨hr, hnil, hlc, hcm⟩ := hin
  obtain ⟨_, _, _, hbc⟩ := hbs
  have HR := Lib.hid hr
  have HT := Lib.hid ht
  have HBC := Lib.hid hbc
  have hpos := ht.pos
  have HAW := Lib.hid (show ∀ W, Below w.heap.size w W → Calls Tryd.prog 6 #[] W (fun e w' => e = .returned (.bool true) ∧ Below W.heap.size W w') from fun W hW => awake3_c W (HT.out.below hW hpos))
  obtain ⟨m, hm⟩ : ∃ m, m = min l 70 := ⟨_, rfl⟩
  have HCUT := Lib.hid (show ∀ W, Below w.heap.size w W → Calls Tryd.prog 7 #[.slice a l cap, .int .i64 70] W (RetDs 31 (ds.take m) W) from fun W hW => cut_c l m 70 ds a cap W (HR.out.below hW) hlc hnil (by omega) (by omega))
  have hm70 : m ≤ 70 := by omega
  obtain ⟨D, hD⟩ : ∃ D, D = ds.take m := ⟨_, rfl⟩
  have HDD := Lib.hid (show ∀ d ∈ D, D32 d from by rw [hD]; exact d32_take hr.2.1 m)
  have HDL := Lib.hid (show D.length = m from by rw [hD, List.length_take, hr.1]; omega)
  rw [← hD] at HCUT
  clear hD hm hr ht hbc hlc hcm hnil
  go_enter Tryd.func3, Tryd.ntmps3
  go_upto_region 4 with (first | (go_at_call 6; refine (HAW.out _ (Below.refl _ _)).mono ?_; rintro e9 w9 ⟨rfl, hb9⟩; have HB9 := Lib.hid hb9; clear hb9) | (go_at_call 7; refine (HCUT.out _ HB9.out).mono ?_; rintro e2 wB ⟨v1, rfl, ho1, hb1⟩; obtain ⟨a1, l1, c1, rfl, hl1, hlc1, hcm1, hnil1, hr1⟩ := OwnD.form ho1 HDD.out; have HB := Lib.hid (HB9.out.trans (hb1.mono HB9.out.size)); have HD1 := Lib.hid hr1; clear hb1 ho1 hr1 HB9))
  obtain rfl : m = l1 := HDL.out.symm.trans hl1
  have hBw := HB.out.size
  have hDR := Lib.hid (fun W (hW : Below wB.heap.size wB W) => (HD1.out.below hW : DR W a1 m D))
  have HTW := Lib.hid (show ∀ W, Below wB.heap.size wB W → Tab W from fun W hW => HT.out.below (HB.out.trans (hW.mono hBw)) hpos)
  clear hl1 HAW HCUT hnil1
  go_upto_region 5 with (first | (go_at_call 8; refine (fnew_c _).mono ?_; rintro e3 w3 ⟨rfl, hF3, hb3⟩; have HS := Lib.hid (show FW wB wB.heap.size 0 (.slice none 0 0) (topsF 63 (D.take 0)) w3 from ⟨hb3, hF3, by rw [List.take_zero, topsF_nil]; exact OwnD.nil _ _ _, Nat.le_refl _⟩); clear hF3 hb3))
  have HS0 := Lib.hid (show FW wB wB.heap.size (min 0 m) (.slice none 0 0) (topsF 63 (D.take 0)) w3 from by rw [Nat.zero_min]; exact HS.out)
  clear HS
  go_wp2_with fail
  go_loopw [5, 6] (fun fv iv wr => ∃ (k g : Nat) (v : Value), fv = .pointer (some ⟨g, 0, none⟩) ∧ iv = .int .i64 (k : Int) ∧ k ≤ m + 1 ∧ Hid (FW wB g (min k m) v (topsF 63 (D.take k)) wr)) (fun _ iv _ => m + 1 - (intOf iv).toNat)
  case atStart => exact ⟨0, _, _, rfl, rfl, by omega, HS0⟩
  case round =>
    clear HS0
    obtain ⟨k, g, v, rfl, rfl, hk1, HS⟩ := hrel
    by_cases hk : k ≤ m
    · have hkI : (k : Int) ≤ (m : Int) := by omega
      have hkd : decide ((k : Int) ≤ (m : Int)) = true := decide_eq_true hkI
      have hkm : min k m = k := by omega
      rw [hkm] at HS
      obtain ⟨T, hT⟩ : ∃ T, T = topsF 63 (D.take k) := ⟨_, rfl⟩
      obtain ⟨X, hX⟩ : ∃ X, X = rootS (D.take k) := ⟨_, rfl⟩
      have hk63 : k < 2 ^ 63 := Nat.lt_of_lt_of_le (show k < 128 by omega) (by decide)
      have hKL : (D.take k).length = k := by rw [List.length_take, HDL.out]; omega
      have HTD := Lib.hid (show ∀ d ∈ T, D32 d from by rw [hT]; exact topsF_d32 63 _ (d32_take HDD.out k))
      have HTL := Lib.hid (show T.length = ones k from by rw [hT, topsF_len 63 _ (by rw [hKL]; exact hk63), hKL])
      have HT63 := Lib.hid (show T.length ≤ 63 from by rw [HTL.out]; exact ones_le63 k (by omega))
      have HXD := Lib.hid (show D32 X from by rw [hX]; exact d32_root _ (d32_take HDD.out k))
      rw [← hT] at HS
      have HFOLD := Lib.hid (show 0 < k → foldS T = X from fun h0 => by rw [hT, hX]; exact topsF_fold 63 _ (by rw [hKL]; exact h0) (by rw [hKL]; exact hk63))
      have HX0 := Lib.hid (show k = 0 → X = Sha.sum [] from fun h0 => by rw [hX, h0, List.take_zero]; exact rootS_nil)
      have HADDT := Lib.hid (show ∀ x, k < m → x = D.getD k [] → carryS 63 k T x = topsF 63 (D.take (k + 1)) from fun x hx hxe => by
        have h := topsF_add 63 63 (D.take k) x (by rw [hKL]; exact Nat.lt_of_lt_of_le (show k + 1 < 128 by omega) (by decide)) (by rw [hKL]; exact hk63)
        rw [hKL, ← hT, hxe, take_more D k (by rw [HDL.out]; exact hx)] at h
        rw [hxe]; exact h)
      have HSAME := Lib.hid (show k = m → T = topsF 63 (D.take (k + 1)) from fun h => by rw [hT, List.take_of_length_le (by rw [HDL.out]; omega), List.take_of_length_le (by rw [HDL.out]; omega)])
      have HRR := Lib.hid (show ∀ W, Below wB.heap.size wB W → Calls Tryd.prog 12 #[.slice a1 k c1] W (DigRet X W) from fun W hW => by rw [hX]; exact rroot_c k _ a1 c1 W ((hDR.out W hW).take k hk) (by omega) hcm1)
      have HRT := Lib.hid (show ∀ W, Below wB.heap.size wB W → Calls Tryd.prog 15 #[.slice a1 k c1] W (RetDs 31 T W) from fun W hW => by rw [hT]; exact rtopsl_c k _ a1 c1 W ((hDR.out W hW).take k hk) (by omega) hcm1 (by omega))
      have HTP := Lib.hid (show ∀ W, FW wB g k v T W → Calls Tryd.prog 9 #[.pointer (some ⟨g, 0, none⟩)] W (RetDs 32 T W) from fun W hW => tops_c g k wB.heap.size v T W hW.fr hW.own HTD.out (by have := HT63.out; omega))
      have HSZ := Lib.hid (show ∀ W, FW wB g k v T W → Calls Tryd.prog 10 #[.pointer (some ⟨g, 0, none⟩)] W (fun e w' => e = .returned (.int .i64 (k : Int)) ∧ W = w') from fun W hW => fsize_c g k v W hW.fr)
      have HRO := Lib.hid (show ∀ W, FW wB g k v T W → Calls Tryd.prog 11 #[.pointer (some ⟨g, 0, none⟩)] W (DigRet X W) from fun W hW => by
        by_cases h0 : k = 0
        · rw [HX0.out h0]
          exact froot_zero g v W (by have := hW.fr; rwa [h0] at this) (HTW.out W hW.bel)
        · rw [← HFOLD.out (by omega)]
          exact froot_c g k wB.heap.size v T W hW.fr hW.own HTD.out (by rw [HTL.out]; exact ones_ne k (by omega)) (by have := HT63.out; omega) h0 (HTW.out W hW.bel))
      have HEE := Lib.hid (show ∀ W, (Op.equalIn 10000 32 (.agg (cellsOf X).toArray) (.agg (cellsOf X).toArray)).run Tryd.prog W = .ok true W from fun W => by
        have := eq_dig 32 32 Tryd.underlying32 W X X HXD.out.1 HXD.out.1 HXD.out.2 HXD.out.2
        simpa using this)
      have HGT := Lib.hid (show Tryd.prog.eqGuardType Tryd.prog.depth 32 = false by kernel_rfl)
      have kH := fun W => run_dheadAt dtR W a1 m c1 k (by omega)
      have hself : ((k : Int) == (k : Int)) = true := by simp
      clear hT hX hkm hKL hk63 HFOLD HX0
      go_upto_region 9 with (first | (go_at_call 9; refine (HTP.out _ HS.out).mono ?_; rintro e7 w7 ⟨v7, rfl, ho7, hb7⟩; obtain ⟨a7, L, c7, rfl, hl7, hlc7, hcm7, hnil7, hr7⟩ := OwnD.form ho7 HTD.out; have HS7 := Lib.hid (FT.of HS.out ho7 hb7); clear ho7 hb7 hr7))
      have HL7 := Lib.hid hl7
      have hL63 : L ≤ 63 := by rw [← hl7]; exact HT63.out
      clear HS HTP hl7
      (try dsimp only [Act.put, List.setIfInBounds_toArray, List.set_cons_zero, List.set_cons_succ])
      have HS := Lib.hid HS7.out.drew
      clear HS7
      refine anyH_begin (S := FT wB g k v T a7 L c7) (by kernel_rfl) ?_
      refine anyH_pureG 0 (d := 24) (op := .move (.tmp 5)) (gd := none) (.pointer (some ⟨g, 0, none⟩)) (by rfl) (fun o ho => wanted_plain ho _) (by kernel_rfl) (by kernel_rfl) (by kernel_rfl) (fun _ _ _ h => h) (fun o ho W hW => by unfold execOp; simp only [ho]; go_simp) HS.out ?_
      simp only [Act.put, List.setIfInBounds_toArray, List.set_cons_zero, List.set_cons_succ]
      refine anyH_pureG 2 (d := 26) (op := .move (.tmp 6)) (gd := none) (.int .i64 (k : Int)) (by rfl) (fun o ho => wanted_plain ho _) (by kernel_rfl) (by kernel_rfl) (by kernel_rfl) (fun _ _ _ h => h) (fun o ho W hW => by unfold execOp; simp only [ho]; go_simp) HS.out ?_
      simp only [Act.put, List.setIfInBounds_toArray, List.set_cons_zero, List.set_cons_succ]
      refine anyH_callG 1 (d := some 25) (f := 10) (xs := #[(.tmp 24)]) (ts := #[26]) (gd := none) (vs := #[.pointer (some ⟨g, 0, none⟩)]) (by kernel_rfl) (by rfl) (fun o ho => wanted_plain ho _) (by go_simp) (by go_simp) (HSZ.out _ HS.out.fw) ?_
      rintro e71 w71 ⟨rfl, rfl⟩
      refine ⟨_, rfl, HS.out, fun hS71 => ?_⟩
      clear hS71
      simp only [Act.put, List.setIfInBounds_toArray, List.set_cons_zero, List.set_cons_succ]
      refine anyH_pureG 3 (d := 27) (op := .binOp .neq 3 (.tmp 25) (.tmp 26) 3) (gd := none) (.bool false) (by rfl) (fun o ho => wanted_plain ho _) (by kernel_rfl) (by kernel_rfl) (by kernel_rfl) (fun _ _ _ h => h) (fun o ho W hW => by unfold execOp; simp only [ho]; go_simp) HS.out ?_
      simp only [Act.put, List.setIfInBounds_toArray, List.set_cons_zero, List.set_cons_succ]
      refine anyH_pureG 4 (d := 28) (op := .move (.tmp 27)) (gd := none) (.bool false) (by rfl) (fun o ho => wanted_plain ho _) (by kernel_rfl) (by kernel_rfl) (by kernel_rfl) (fun _ _ _ h => h) (fun o ho W hW => by unfold execOp; simp only [ho]; go_simp) HS.out ?_
      simp only [Act.put, List.setIfInBounds_toArray, List.set_cons_zero, List.set_cons_succ]
      refine anyH_pureG 5 (d := 29) (op := .move (.tmp 5)) (gd := some (4, false)) (.pointer (some ⟨g, 0, none⟩)) (by rfl) (fun o ho => by simp only [Region.wanted, ho]; rfl) (by kernel_rfl) (by kernel_rfl) (by kernel_rfl) (fun _ _ _ h => h) (fun o ho W hW => by unfold execOp; simp only [ho]; go_simp) HS.out ?_
      simp only [Act.put, List.setIfInBounds_toArray, List.set_cons_zero, List.set_cons_succ]
      refine anyH_pureG 7 (d := 31) (op := .move (.tmp 0)) (gd := some (4, false)) (.slice a1 m c1) (by rfl) (fun o ho => by simp only [Region.wanted, ho]; rfl) (by kernel_rfl) (by kernel_rfl) (by kernel_rfl) (fun _ _ _ h => h) (fun o ho W hW => by unfold execOp; simp only [ho]; go_simp) HS.out ?_
      simp only [Act.put, List.setIfInBounds_toArray, List.set_cons_zero, List.set_cons_succ]
      refine anyH_pureG 8 (d := 32) (op := .move (.tmp 6)) (gd := some (4, false)) (.int .i64 (k : Int)) (by rfl) (fun o ho => by simp only [Region.wanted, ho]; rfl) (by kernel_rfl) (by kernel_rfl) (by kernel_rfl) (fun _ _ _ h => h) (fun o ho W hW => by unfold execOp; simp only [ho]; go_simp) HS.out ?_
      simp only [Act.put, List.setIfInBounds_toArray, List.set_cons_zero, List.set_cons_succ]
      refine anyH_pureG 9 (d := 33) (op := .slice 22 (.tmp 31) none (some (.tmp 32)) none) (gd := some (4, false)) (.slice a1 k c1) (by rfl) (fun o ho => by simp only [Region.wanted, ho]; rfl) (by kernel_rfl) (by kernel_rfl) (by kernel_rfl) (fun _ _ _ h => h) (fun o ho W hW => by unfold execOp; simp only [ho]; go_simp) HS.out ?_
      simp only [Act.put, List.setIfInBounds_toArray, List.set_cons_zero, List.set_cons_succ]
      refine anyH_callG 6 (d := some 30) (f := 11) (xs := #[(.tmp 29)]) (ts := #[26]) (gd := some (4, false)) (vs := #[.pointer (some ⟨g, 0, none⟩)]) (by kernel_rfl) (by rfl) (fun o ho => by simp only [Region.wanted, ho]; rfl) (by go_simp) (by go_simp) (HRO.out _ HS.out.fw) ?_
      rintro e3 w3 ⟨rfl, hb3⟩
      refine ⟨_, rfl, HS.out.step hb3, fun hS3 => ?_⟩
      have HS := Lib.hid hS3
      clear hS3
      clear hb3
      simp only [Act.put, List.setIfInBounds_toArray, List.set_cons_zero, List.set_cons_succ]
      refine anyH_callG 10 (d := some 34) (f := 12) (xs := #[(.tmp 33)]) (ts := #[22]) (gd := some (4, false)) (vs := #[.slice a1 k c1]) (by kernel_rfl) (by rfl) (fun o ho => by simp only [Region.wanted, ho]; rfl) (by go_simp) (by go_simp) (HRR.out _ HS.out.fw.bel) ?_
      rintro e4 w4 ⟨rfl, hb4⟩
      refine ⟨_, rfl, HS.out.step hb4, fun hS4 => ?_⟩
      have HS := Lib.hid hS4
      clear hS4
      simp only [Act.put, List.setIfInBounds_toArray, List.set_cons_zero, List.set_cons_succ]
      refine anyH_neqG 11 (d := 35) (t := 32) (t' := 32) (x := (.tmp 30)) (y := (.tmp 34)) (gd := some (4, false)) ((cellsOf X).toArray) ((cellsOf X).toArray) true (by rfl) (fun o ho => by simp only [Region.wanted, ho]; rfl) (by kernel_rfl) (by kernel_rfl) (by kernel_rfl) (fun _ _ _ h => h) (by rfl) (by rfl) HGT.out (fun W => HEE.out W) HS.out ?_
      simp only [Act.put, List.setIfInBounds_toArray, List.set_cons_zero, List.set_cons_succ]
      refine anyH_pureG 12 (d := 36) (op := .pick (.tmp 28) (.const (.bool true)) (.tmp 35)) (gd := none) (.bool false) (by rfl) (fun o ho => wanted_plain ho _) (by kernel_rfl) (by kernel_rfl) (by kernel_rfl) (fun _ _ _ h => h) (fun o ho W hW => by unfold execOp; simp only [ho]; go_simp) HS.out ?_
      simp only [Act.put, List.setIfInBounds_toArray, List.set_cons_zero, List.set_cons_succ]
      refine anyH_pureG 13 (d := 37) (op := .move (.tmp 36)) (gd := none) (.bool false) (by rfl) (fun o ho => wanted_plain ho _) (by kernel_rfl) (by kernel_rfl) (by kernel_rfl) (fun _ _ _ h => h) (fun o ho W hW => by unfold execOp; simp only [ho]; go_simp) HS.out ?_
      simp only [Act.put, List.setIfInBounds_toArray, List.set_cons_zero, List.set_cons_succ]
      refine anyH_pureG 14 (d := 38) (op := .move (.tmp 7)) (gd := some (13, false)) (.slice a7 L c7) (by rfl) (fun o ho => by simp only [Region.wanted, ho]; rfl) (by kernel_rfl) (by kernel_rfl) (by kernel_rfl) (fun _ _ _ h => h) (fun o ho W hW => by unfold execOp; simp only [ho]; go_simp) HS.out ?_
      simp only [Act.put, List.setIfInBounds_toArray, List.set_cons_zero, List.set_cons_succ]
      refine anyH_pureG 16 (d := 40) (op := .move (.tmp 0)) (gd := some (13, false)) (.slice a1 m c1) (by rfl) (fun o ho => by simp only [Region.wanted, ho]; rfl) (by kernel_rfl) (by kernel_rfl) (by kernel_rfl) (fun _ _ _ h => h) (fun o ho W hW => by unfold execOp; simp only [ho]; go_simp) HS.out ?_
      simp only [Act.put, List.setIfInBounds_toArray, List.set_cons_zero, List.set_cons_succ]
      refine anyH_pureG 17 (d := 41) (op := .move (.tmp 6)) (gd := some (13, false)) (.int .i64 (k : Int)) (by rfl) (fun o ho => by simp only [Region.wanted, ho]; rfl) (by kernel_rfl) (by kernel_rfl) (by kernel_rfl) (fun _ _ _ h => h) (fun o ho W hW => by unfold execOp; simp only [ho]; go_simp) HS.out ?_
      simp only [Act.put, List.setIfInBounds_toArray, List.set_cons_zero, List.set_cons_succ]
      refine anyH_pureG 18 (d := 42) (op := .slice 22 (.tmp 40) none (some (.tmp 41)) none) (gd := some (13, false)) (.slice a1 k c1) (by rfl) (fun o ho => by simp only [Region.wanted, ho]; rfl) (by kernel_rfl) (by kernel_rfl) (by kernel_rfl) (fun _ _ _ h => h) (fun o ho W hW => by unfold execOp; simp only [ho]; go_simp) HS.out ?_
      simp only [Act.put, List.setIfInBounds_toArray, List.set_cons_zero, List.set_cons_succ]
      refine anyH_callG 15 (d := some 39) (f := 14) (xs := #[(.tmp 38)]) (ts := #[28]) (gd := some (13, false)) (vs := #[.slice a7 L c7]) (by kernel_rfl) (by rfl) (fun o ho => by simp only [Region.wanted, ho]; rfl) (by go_simp) (by go_simp) (from_c L T a7 c7 _ (by obtain ⟨a', n', c', he, _, _, _, _, hr' ⟩ := OwnD.form HS.out.tp HTD.out; cases he; exact hr') (by omega)) ?_
      rintro e5 w5 ⟨v5, rfl, ho5, hb5⟩
      obtain ⟨a5, l5, c5, rfl, hl5, hlc5, hcm5, hnil5, hr5⟩ := OwnD.form ho5 HTD.out
      obtain rfl : L = l5 := HL7.out.symm.trans hl5
      have HR5 := Lib.hid hr5
      refine ⟨_, rfl, HS.out.step hb5, fun hS5 => ?_⟩
      have HS := Lib.hid hS5
      clear hS5
      clear ho5 hl5 hlc5 hcm5 hnil5 hr5
      simp only [Act.put, List.setIfInBounds_toArray, List.set_cons_zero, List.set_cons_succ]
      refine anyH_callG 19 (d := some 43) (f := 15) (xs := #[(.tmp 42)]) (ts := #[22]) (gd := some (13, false)) (vs := #[.slice a1 k c1]) (by kernel_rfl) (by rfl) (fun o ho => by simp only [Region.wanted, ho]; rfl) (by go_simp) (by go_simp) (HRT.out _ HS.out.fw.bel) ?_
      rintro e8 w8 ⟨v8, rfl, ho8, hb8⟩
      obtain ⟨a8, l8, c8, rfl, hl8, hlc8, hcm8, hnil8, hr8⟩ := OwnD.form ho8 HTD.out
      obtain rfl : L = l8 := HL7.out.symm.trans hl8
      have HR8 := Lib.hid hr8
      have HR5 := Lib.hid (HR5.out.below hb8)
      refine ⟨_, rfl, HS.out.step hb8, fun hS8 => ?_⟩
      have HS := Lib.hid hS8
      clear hS8
      clear ho8 hl8 hlc8 hcm8 hnil8 hr8
      simp only [Act.put, List.setIfInBounds_toArray, List.set_cons_zero, List.set_cons_succ]
      refine anyH_callG 20 (d := some 44) (f := 13) (xs := #[(.tmp 39), (.tmp 43)]) (ts := #[22, 22]) (gd := some (13, false)) (vs := #[.slice a5 L c5, .slice a8 L c8]) (by kernel_rfl) (by rfl) (fun o ho => by simp only [Region.wanted, ho]; rfl) (by go_simp) (by go_simp) (dsame_c L L (by omega) a5 a8 c5 c8 T T _ HR5.out HR8.out) ?_
      rintro e11 w11 ⟨rfl, hb11⟩
      refine ⟨_, rfl, HS.out.step hb11, fun hS11 => ?_⟩
      have HS := Lib.hid hS11
      clear hS11
      simp only [decide_true]
      clear hb11
      simp only [Act.put, List.setIfInBounds_toArray, List.set_cons_zero, List.set_cons_succ]
      refine anyH_pureG 21 (d := 45) (op := .unOp .not 4 (.tmp 44)) (gd := some (13, false)) (.bool false) (by rfl) (fun o ho => by simp only [Region.wanted, ho]; rfl) (by kernel_rfl) (by kernel_rfl) (by kernel_rfl) (fun _ _ _ h => h) (fun o ho W hW => by unfold execOp; simp only [ho]; go_simp) HS.out ?_
      simp only [Act.put, List.setIfInBounds_toArray, List.set_cons_zero, List.set_cons_succ]
      refine anyH_pureG 22 (d := 46) (op := .pick (.tmp 37) (.const (.bool true)) (.tmp 45)) (gd := none) (.bool false) (by rfl) (fun o ho => wanted_plain ho _) (by kernel_rfl) (by kernel_rfl) (by kernel_rfl) (fun _ _ _ h => h) (fun o ho W hW => by unfold execOp; simp only [ho]; go_simp) HS.out ?_
      simp only [Act.put, List.setIfInBounds_toArray, List.set_cons_zero, List.set_cons_succ]
      refine wpAnyH_done (by kernel_rfl) ?_ _
      simp only [Bool.not_true]
      clear HSZ HRO HRR HRT HEE HGT kH hself hb5 hb8 hb4
      by_cases hkS : k < lS
      · obtain ⟨bb, bo, rfl, hblt, hcells⟩ : ∃ b off, aS = some ⟨b, off, none⟩ ∧ b < w.heap.size ∧ ∀ i, i < lS → w.cell? ⟨b, off + i, none⟩ = some (.bool (Bf i)) := by
          rcases HBC.out with h0 | h
          · omega
          · exact h
        have hbx := fun W => run_bindex W bb bo lS cS k hkS
        have hkSd : decide ((k : Int) < (lS : Int)) = true := decide_eq_true (by omega)
        have HC := Lib.hid (show ∀ W, Below wB.heap.size wB W → W.cell? ⟨bb, bo + k, none⟩ = some (.bool (Bf k)) from fun W hW => ((HB.out.trans (hW.mono hBw)).cell (p := ⟨bb, bo + k, none⟩) hblt).trans (hcells k hkS))
        have hcc := HC.out _ HS.out.fw.bel
        clear hcells HC
        cases hBk : Bf k with
        | true =>
          rw [hBk] at hcc
          have HLO := Lib.hid (show ∀ W, FT wB g k v T a7 L c7 W → Calls Tryd.prog 16 #[.int .i64 (k : Int), .slice a7 L c7] W (LdRet k T W) from fun W hW => by
            obtain ⟨a', n', c', he, hl', _, _, hn', hr'⟩ := OwnD.form hW.tp HTD.out
            cases he
            exact load_c k L T a7 c7 W (by omega) hr' hn' (by rw [← HL7.out]; exact HTL.out))
          go_upto_region 16 with (first | (go_at_call 16; refine (HLO.out _ HS.out).mono ?_; rintro e6 w6 ⟨g2, v2, rfl, hg2, hf2, ho2, hb2⟩; have HS := Lib.hid (FT.loaded HS.out hg2 hf2 ho2 hb2); clear hg2 hf2 ho2 hb2))
          clear HLO hcc
          have HZ := Lib.hid (FT.zero HS.out HL7.out)
          clear HS
          go_wp2_with fail
          go_loopw [10, 68] (fun xv jv wr => ∃ j : Nat, jv = .int .i64 (j : Int) ∧ j ≤ L ∧ Hid (FZ wB g2 k v2 T a7 L wr)) (fun _ jv _ => L - (intOf jv).toNat)
          case atStart => exact ⟨0, rfl, by omega, HZ⟩
          case round =>
            clear HZ
            obtain ⟨j, rfl, hjL, HZ⟩ := hrel
            by_cases hj : j < L
            · have hjd : decide ((j : Int) < (L : Int)) = true := decide_eq_true (by omega)
              obtain ⟨gb, rfl⟩ := HZ.out.at (by omega)
              have hix := fun W => (by have h := run_dindex dtA W gb 0 L c7 j hj; rwa [Nat.zero_add] at h : (Instr.indexAt 28 (.slice (some ⟨gb, 0, none⟩) L c7) (.int .i64 (j : Int))).run Tryd.prog W = .ok (.pointer (some ⟨gb, j * 32, none⟩)) W)
              obtain ⟨ZA, hZA⟩ : ∃ ZA, ZA = (cellsOf zs32).toArray := ⟨_, rfl⟩
              have HZA := Lib.hid hZA
              have HZ1 := Lib.hid (show ZA.all (·.oneCell') = true from by rw [hZA]; exact cellsOf_all _)
              have HTH := Lib.hid (by have h := HZ.out.there j hj; rw [Nat.zero_add, ← hZA] at h; exact h : wr.there gb (j * 32) ZA.size)
              have HZ2 := Lib.hid (HZ.out.put (by omega) (j * 32) ZA.toList)
              have HZI := Lib.hid (by rw [hZA]; exact info32 dtA ⟨zs32_len, by decide⟩ : (Tryd.prog.info? 32).map (·.size) = some ZA.size)
              clear hZA
              go_wp2_with (first | (refine wpList_buildTo (by rfl) 32 _ (by rfl) (some 73) (by rfl) ZA (by rw [HZA.out]; kernel_rfl) ?_) | (refine wpList_store_mid (by rfl) 32 _ _ (by rfl) gb (j * 32) ZA (by rfl) (by first | rfl | (rw [HZA.out]; rfl)) HTH.out HZI.out HZ1.out ?_))
              go_roundw
              case rel => exact ⟨j + 1, by go_num, by omega, HZ2⟩
              case measure => first | (simp [intOf]; done) | (simp [intOf]; omega)
            · have hjd : decide ((j : Int) < (L : Int)) = false := decide_eq_false (by omega)
              by_cases hkm : k < m
              · have hkd2 : decide ((k : Int) < (m : Int)) = true := decide_eq_true (by omega)
                obtain ⟨b1, o1, rfl, _, _⟩ := HD1.out.at k hkm
                obtain ⟨x, hx⟩ : ∃ x, x = D.getD k [] := ⟨_, rfl⟩
                have HXX := Lib.hid (show D32 x from by rw [hx]; exact D32.get HDD.out k (by rw [HDL.out]; exact hkm))
                have hix := fun W => run_dindex dtR W b1 o1 m c1 k hkm
                have HLX := Lib.hid (show ∀ W, Below wB.heap.size wB W → (Instr.loadAt 31 (.pointer (some ⟨b1, o1 + k * 32, none⟩))).run Tryd.prog W = .ok (.agg (cellsOf x).toArray) W from fun W hW => run_dload dtR W b1 (o1 + k * 32) x HXX.out (by
                  obtain ⟨b', o', h1, _, h3⟩ := (hDR.out W hW).at k hkm
                  simp only [Option.some.injEq, Addr.mk.injEq, and_true] at h1
                  obtain ⟨rfl, rfl⟩ := h1
                  rw [hx]
                  exact h3))
                have HTX := Lib.hid (HADDT.out x hkm hx)
                have HAD := Lib.hid (show ∀ W, FW wB g2 k v2 T W → Calls Tryd.prog 17 #[.pointer (some ⟨g2, 0, none⟩), .agg (cellsOf x).toArray] W (fun e w' => e = .returned (.int .i64 0) ∧ ∃ v', FR w' g2 (k + 1) v' ∧ OwnD w' wB.heap.size 32 v' (topsF 63 (D.take (k + 1))) ∧ Kp g2 wB.heap.size W w') from fun W hW => by
                  rw [← HTX.out]
                  exact fadd63_c g2 k wB.heap.size v2 T x W hW.fr hW.own hW.bel.size HXX.out HTD.out HTL.out (by omega) (by omega) (HTW.out W hW.bel) (by have := hW.lo; omega))
                clear hx
                go_wp2_with (first | (refine wpList_loadg 31 (.tmp 84) (by rfl) (by rfl) (.pointer (some ⟨b1, o1 + k * 32, none⟩)) (by rfl) (.agg (cellsOf x).toArray) (HLX.out _ HZ.out.fw.bel) ?_) | (go_at_call 17; refine (HAD.out _ HZ.out.fw).mono ?_; rintro e10 w10 ⟨rfl, v10, hF10, hO10, hK10⟩; have HS10 := Lib.hid (show FW wB g2 (min (k + 1) m) v10 (topsF 63 (D.take (k + 1))) w10 from by rw [Nat.min_eq_left (show k + 1 ≤ m by omega)]; exact HZ.out.fw.add hF10 hO10 hK10); clear hF10 hO10 hK10))
                go_roundw
                case rel => exact ⟨k + 1, g2, v10, rfl, by go_num, by omega, HS10⟩
                case measure => first | (simp [intOf]; done) | (simp [intOf]; omega)
              · have hkd2 : decide ((k : Int) < (m : Int)) = false := decide_eq_false (by omega)
                have HS10 := Lib.hid (show FW wB g2 (min (k + 1) m) v2 (topsF 63 (D.take (k + 1))) wr from by rw [← HSAME.out (by omega), Nat.min_eq_right (show m ≤ k + 1 by omega), show m = k by omega]; exact HZ.out.fw)
                go_wp2_with fail
                go_roundw
                case rel => exact ⟨k + 1, g2, v2, rfl, by go_num, by omega, HS10⟩
                case measure => first | (simp [intOf]; done) | (simp [intOf]; omega)
        | false =>
          rw [hBk] at hcc
          go_upto_region 16 with fail
          clear hcc
          have HZ := Lib.hid (FT.zero HS.out HL7.out)
          clear HS
          go_wp2_with fail
          go_loopw [10, 68] (fun xv jv wr => ∃ j : Nat, jv = .int .i64 (j : Int) ∧ j ≤ L ∧ Hid (FZ wB g k v T a7 L wr)) (fun _ jv _ => L - (intOf jv).toNat)
          case atStart => exact ⟨0, rfl, by omega, HZ⟩
          case round =>
            clear HZ
            obtain ⟨j, rfl, hjL, HZ⟩ := hrel
            by_cases hj : j < L
            · have hjd : decide ((j : Int) < (L : Int)) = true := decide_eq_true (by omega)
              obtain ⟨gb, rfl⟩ := HZ.out.at (by omega)
              have hix := fun W => (by have h := run_dindex dtA W gb 0 L c7 j hj; rwa [Nat.zero_add] at h : (Instr.indexAt 28 (.slice (some ⟨gb, 0, none⟩) L c7) (.int .i64 (j : Int))).run Tryd.prog W = .ok (.pointer (some ⟨gb, j * 32, none⟩)) W)
              obtain ⟨ZA, hZA⟩ : ∃ ZA, ZA = (cellsOf zs32).toArray := ⟨_, rfl⟩
              have HZA := Lib.hid hZA
              have HZ1 := Lib.hid (show ZA.all (·.oneCell') = true from by rw [hZA]; exact cellsOf_all _)
              have HTH := Lib.hid (by have h := HZ.out.there j hj; rw [Nat.zero_add, ← hZA] at h; exact h : wr.there gb (j * 32) ZA.size)
              have HZ2 := Lib.hid (HZ.out.put (by omega) (j * 32) ZA.toList)
              have HZI := Lib.hid (by rw [hZA]; exact info32 dtA ⟨zs32_len, by decide⟩ : (Tryd.prog.info? 32).map (·.size) = some ZA.size)
              clear hZA
              go_wp2_with (first | (refine wpList_buildTo (by rfl) 32 _ (by rfl) (some 73) (by rfl) ZA (by rw [HZA.out]; kernel_rfl) ?_) | (refine wpList_store_mid (by rfl) 32 _ _ (by rfl) gb (j * 32) ZA (by rfl) (by first | rfl | (rw [HZA.out]; rfl)) HTH.out HZI.out HZ1.out ?_))
              go_roundw
              case rel => exact ⟨j + 1, by go_num, by omega, HZ2⟩
              case measure => first | (simp [intOf]; done) | (simp [intOf]; omega)
            · have hjd : decide ((j : Int) < (L : Int)) = false := decide_eq_false (by omega)
              by_cases hkm : k < m
              · have hkd2 : decide ((k : Int) < (m : Int)) = true := decide_eq_true (by omega)
                obtain ⟨b1, o1, rfl, _, _⟩ := HD1.out.at k hkm
                obtain ⟨x, hx⟩ : ∃ x, x = D.getD k [] := ⟨_, rfl⟩
                have HXX := Lib.hid (show D32 x from by rw [hx]; exact D32.get HDD.out k (by rw [HDL.out]; exact hkm))
                have hix := fun W => run_dindex dtR W b1 o1 m c1 k hkm
                have HLX := Lib.hid (show ∀ W, Below wB.heap.size wB W → (Instr.loadAt 31 (.pointer (some ⟨b1, o1 + k * 32, none⟩))).run Tryd.prog W = .ok (.agg (cellsOf x).toArray) W from fun W hW => run_dload dtR W b1 (o1 + k * 32) x HXX.out (by
                  obtain ⟨b', o', h1, _, h3⟩ := (hDR.out W hW).at k hkm
                  simp only [Option.some.injEq, Addr.mk.injEq, and_true] at h1
                  obtain ⟨rfl, rfl⟩ := h1
                  rw [hx]
                  exact h3))
                have HTX := Lib.hid (HADDT.out x hkm hx)
                have HAD := Lib.hid (show ∀ W, FW wB g k v T W → Calls Tryd.prog 17 #[.pointer (some ⟨g, 0, none⟩), .agg (cellsOf x).toArray] W (fun e w' => e = .returned (.int .i64 0) ∧ ∃ v', FR w' g (k + 1) v' ∧ OwnD w' wB.heap.size 32 v' (topsF 63 (D.take (k + 1))) ∧ Kp g wB.heap.size W w') from fun W hW => by
                  rw [← HTX.out]
                  exact fadd63_c g k wB.heap.size v T x W hW.fr hW.own hW.bel.size HXX.out HTD.out HTL.out (by omega) (by omega) (HTW.out W hW.bel) (by have := hW.lo; omega))
                clear hx
                go_wp2_with (first | (refine wpList_loadg 31 (.tmp 84) (by rfl) (by rfl) (.pointer (some ⟨b1, o1 + k * 32, none⟩)) (by rfl) (.agg (cellsOf x).toArray) (HLX.out _ HZ.out.fw.bel) ?_) | (go_at_call 17; refine (HAD.out _ HZ.out.fw).mono ?_; rintro e10 w10 ⟨rfl, v10, hF10, hO10, hK10⟩; have HS10 := Lib.hid (show FW wB g (min (k + 1) m) v10 (topsF 63 (D.take (k + 1))) w10 from by rw [Nat.min_eq_left (show k + 1 ≤ m by omega)]; exact HZ.out.fw.add hF10 hO10 hK10); clear hF10 hO10 hK10))
                go_roundw
                case rel => exact ⟨k + 1, g, v10, rfl, by go_num, by omega, HS10⟩
                case measure => first | (simp [intOf]; done) | (simp [intOf]; omega)
              · have hkd2 : decide ((k : Int) < (m : Int)) = false := decide_eq_false (by omega)
                have HS10 := Lib.hid (show FW wB g (min (k + 1) m) v (topsF 63 (D.take (k + 1))) wr from by rw [← HSAME.out (by omega), Nat.min_eq_right (show m ≤ k + 1 by omega), show m = k by omega]; exact HZ.out.fw)
                go_wp2_with fail
                go_roundw
                case rel => exact ⟨k + 1, g, v, rfl, by go_num, by omega, HS10⟩
                case measure => first | (simp [intOf]; done) | (simp [intOf]; omega)
      · have hkSd : decide ((k : Int) < (lS : Int)) = false := decide_eq_false (by omega)
        go_upto_region 16 with fail
        have HZ := Lib.hid (FT.zero HS.out HL7.out)
        clear HS
        go_wp2_with fail
        go_loopw [10, 68] (fun xv jv wr => ∃ j : Nat, jv = .int .i64 (j : Int) ∧ j ≤ L ∧ Hid (FZ wB g k v T a7 L wr)) (fun _ jv _ => L - (intOf jv).toNat)
        case atStart => exact ⟨0, rfl, by omega, HZ⟩
        case round =>
          clear HZ
          obtain ⟨j, rfl, hjL, HZ⟩ := hrel
          by_cases hj : j < L
          · have hjd : decide ((j : Int) < (L : Int)) = true := decide_eq_true (by omega)
            obtain ⟨gb, rfl⟩ := HZ.out.at (by omega)
            have hix := fun W => (by have h := run_dindex dtA W gb 0 L c7 j hj; rwa [Nat.zero_add] at h : (Instr.indexAt 28 (.slice (some ⟨gb, 0, none⟩) L c7) (.int .i64 (j : Int))).run Tryd.prog W = .ok (.pointer (some ⟨gb, j * 32, none⟩)) W)
            obtain ⟨ZA, hZA⟩ : ∃ ZA, ZA = (cellsOf zs32).toArray := ⟨_, rfl⟩
            have HZA := Lib.hid hZA
            have HZ1 := Lib.hid (show ZA.all (·.oneCell') = true from by rw [hZA]; exact cellsOf_all _)
            have HTH := Lib.hid (by have h := HZ.out.there j hj; rw [Nat.zero_add, ← hZA] at h; exact h : wr.there gb (j * 32) ZA.size)
            have HZ2 := Lib.hid (HZ.out.put (by omega) (j * 32) ZA.toList)
            have HZI := Lib.hid (by rw [hZA]; exact info32 dtA ⟨zs32_len, by decide⟩ : (Tryd.prog.info? 32).map (·.size) = some ZA.size)
            clear hZA
            go_wp2_with (first | (refine wpList_buildTo (by rfl) 32 _ (by rfl) (some 73) (by rfl) ZA (by rw [HZA.out]; kernel_rfl) ?_) | (refine wpList_store_mid (by rfl) 32 _ _ (by rfl) gb (j * 32) ZA (by rfl) (by first | rfl | (rw [HZA.out]; rfl)) HTH.out HZI.out HZ1.out ?_))
            go_roundw
            case rel => exact ⟨j + 1, by go_num, by omega, HZ2⟩
            case measure => first | (simp [intOf]; done) | (simp [intOf]; omega)
          · have hjd : decide ((j : Int) < (L : Int)) = false := decide_eq_false (by omega)
            by_cases hkm : k < m
            · have hkd2 : decide ((k : Int) < (m : Int)) = true := decide_eq_true (by omega)
              obtain ⟨b1, o1, rfl, _, _⟩ := HD1.out.at k hkm
              obtain ⟨x, hx⟩ : ∃ x, x = D.getD k [] := ⟨_, rfl⟩
              have HXX := Lib.hid (show D32 x from by rw [hx]; exact D32.get HDD.out k (by rw [HDL.out]; exact hkm))
              have hix := fun W => run_dindex dtR W b1 o1 m c1 k hkm
              have HLX := Lib.hid (show ∀ W, Below wB.heap.size wB W → (Instr.loadAt 31 (.pointer (some ⟨b1, o1 + k * 32, none⟩))).run Tryd.prog W = .ok (.agg (cellsOf x).toArray) W from fun W hW => run_dload dtR W b1 (o1 + k * 32) x HXX.out (by
                obtain ⟨b', o', h1, _, h3⟩ := (hDR.out W hW).at k hkm
                simp only [Option.some.injEq, Addr.mk.injEq, and_true] at h1
                obtain ⟨rfl, rfl⟩ := h1
                rw [hx]
                exact h3))
              have HTX := Lib.hid (HADDT.out x hkm hx)
              have HAD := Lib.hid (show ∀ W, FW wB g k v T W → Calls Tryd.prog 17 #[.pointer (some ⟨g, 0, none⟩), .agg (cellsOf x).toArray] W (fun e w' => e = .returned (.int .i64 0) ∧ ∃ v', FR w' g (k + 1) v' ∧ OwnD w' wB.heap.size 32 v' (topsF 63 (D.take (k + 1))) ∧ Kp g wB.heap.size W w') from fun W hW => by
                rw [← HTX.out]
                exact fadd63_c g k wB.heap.size v T x W hW.fr hW.own hW.bel.size HXX.out HTD.out HTL.out (by omega) (by omega) (HTW.out W hW.bel) (by have := hW.lo; omega))
              clear hx
              go_wp2_with (first | (refine wpList_loadg 31 (.tmp 84) (by rfl) (by rfl) (.pointer (some ⟨b1, o1 + k * 32, none⟩)) (by rfl) (.agg (cellsOf x).toArray) (HLX.out _ HZ.out.fw.bel) ?_) | (go_at_call 17; refine (HAD.out _ HZ.out.fw).mono ?_; rintro e10 w10 ⟨rfl, v10, hF10, hO10, hK10⟩; have HS10 := Lib.hid (show FW wB g (min (k + 1) m) v10 (topsF 63 (D.take (k + 1))) w10 from by rw [Nat.min_eq_left (show k + 1 ≤ m by omega)]; exact HZ.out.fw.add hF10 hO10 hK10); clear hF10 hO10 hK10))
              go_roundw
              case rel => exact ⟨k + 1, g, v10, rfl, by go_num, by omega, HS10⟩
              case measure => first | (simp [intOf]; done) | (simp [intOf]; omega)
            · have hkd2 : decide ((k : Int) < (m : Int)) = false := decide_eq_false (by omega)
              have HS10 := Lib.hid (show FW wB g (min (k + 1) m) v (topsF 63 (D.take (k + 1))) wr from by rw [← HSAME.out (by omega), Nat.min_eq_right (show m ≤ k + 1 by omega), show m = k by omega]; exact HZ.out.fw)
              go_wp2_with fail
              go_roundw
              case rel => exact ⟨k + 1, g, v, rfl, by go_num, by omega, HS10⟩
              case measure => first | (simp [intOf]; done) | (simp [intOf]; omega)
    · have hke : k = m + 1 := by omega
      have hkd : decide ((k : Int) ≤ (m : Int)) = false := decide_eq_false (by omega)
      go_wp2_with fail
      go_ret
      exact ⟨rfl, HB.out.trans (HS.out.bel.mono hBw)⟩
end Go.Proofs.YtlnblfdddellmaaDoor
