/-
  The walk over the document's Finds, to the right; and all of it.
-/
import Derived.Test.YtdcninfbpmhojaaDoorFds
namespace Go.Proofs.YtdcninfbpmhojaaDoor
open Go.RowKit
set_option linter.unusedVariables false
set_option maxRecDepth 100000 in
set_option maxHeartbeats 16000000 in
theorem fds_r (B n k i L : Nat) (ih : FIH n) (l : Ds) (leaf : List Nat) (way : Ds) (la : Option Addr) (lc : Nat) (wa : Option Addr) (wc : Nat) (w : World) (h2 : 2 ≤ n) (hn : n ≤ 9223372036854775807) (hi : i < n) (hk : Mk.half n = k) (hik : ¬ i < k) (hf : D32 leaf) (hl : DR w la n l) (hlc : n ≤ lc) (hlm : lc ≤ 9223372036854775807)
    (hw : DR w wa (L + 1) way) (hwc : L + 1 ≤ wc) (hwm : wc ≤ 9223372036854775807) (hab : ∀ b, blkOf wa = some b → b < B) (hB : B ≤ w.heap.size) (htop : topS n i leaf way = some (rootS l)) (hne : leaf ≠ l.getD i []) :
    Calls Tryd.prog 29 #[.slice la n lc, .int .i64 (i : Int), .agg (cellsOf leaf).toArray, .slice wa (L + 1) wc] w (RetTrue w) := by
  have hk0 : 0 < k := by rw [← hk]; exact Mk.half_pos n
  have hkn : k < n := by rw [← hk]; exact Mk.half_lt n h2
  obtain ⟨wb, wo, rfl, _, _⟩ := hw.at L (by omega)
  obtain ⟨s, hs⟩ : ∃ s, s = way.getD L [] := ⟨_, rfl⟩
  have HSD := Lib.hid (show D32 s from by rw [hs]; exact D32.get hw.2.1 L (by rw [hw.1]; omega))
  have hroot : rootS l = nodeS (rootS (l.take k)) (rootS (l.drop k)) := by rw [rootS_more l (by rw [hl.1]; omega), hl.1, hk]
  obtain ⟨d, hd, he⟩ : ∃ d, topS (n - k) (i - k) leaf (way.take L) = some d ∧ nodeS s d = nodeS (rootS (l.take k)) (rootS (l.drop k)) := by
    rw [way_snoc hw.1, ← hs, show topS n i leaf (way.take L ++ [s]) = _ from Mk.top_right _ _ _ _ _ _ h2 (by rw [hk]; exact hik), hk, hroot] at htop
    obtain ⟨d, h1, h3⟩ := Option.map_eq_some_iff.1 htop
    exact ⟨d, h1, h3⟩
  obtain ⟨A, hA⟩ : ∃ A, A = rootS (l.drop k) := ⟨_, rfl⟩
  obtain ⟨R, hR⟩ : ∃ R, R = rootS (l.take k) := ⟨_, rfl⟩
  rw [← hA, ← hR] at he
  have HAD := Lib.hid (show D32 A from by rw [hA]; exact d32_root _ (d32_drop hl.2.1 _))
  have HRD := Lib.hid (show D32 R from by rw [hR]; exact d32_root _ (d32_take hl.2.1 _))
  have HDD := Lib.hid (d32_top hd hf)
  have HE := Lib.hid (show s = R ∧ d = A ∨ (Sha.sum (pairL s d) = Sha.sum (pairL R A) ∧ pairL s d ≠ pairL R A) from by
    by_cases h : pairL s d = pairL R A
    · exact .inl (pairL_inj h (by rw [HSD.out.1, HRD.out.1]))
    · exact .inr ⟨he, h⟩)
  have HUP := Lib.hid (show ∀ W, Below w.heap.size w W → DR W (some ⟨wb, wo, none⟩) L (way.take L) → Calls Tryd.prog 43 #[.int .i64 ((n - k : Nat) : Int), .int .i64 ((i - k : Nat) : Int), .agg (cellsOf leaf).toArray, .slice (some ⟨wb, wo, none⟩) L wc] W (fun e w' => ∃ ra rl rc, e = .returned (.tuple #[.agg (cellsOf d).toArray, .slice ra rl rc, .bool true]) ∧ Below W.heap.size W w') from fun W hW hWD => by
    refine (rup_g (n - k) B (by omega) (by omega) (i - k) leaf (some ⟨wb, wo, none⟩) L wc (way.take L) W (by omega) hf hWD (by omega) hwm hab (Nat.le_trans hB hW.size)).mono ?_
    have hu : upS (n - k) (i - k) leaf (way.take L) = some (d, []) := (Mk.top_eq _ _ _ _ _ _).1 hd
    rintro e w' ⟨hb, ⟨h, _⟩ | ⟨d', rest, ra, rl, rc, h, _, _, _, _, _, rfl⟩⟩
    · rw [hu] at h; cases h
    · rw [hu] at h
      cases h
      exact ⟨ra, rl, rc, rfl, hb⟩)
  have HH := Lib.hid (fun W => rhalf_c n W h2 (by omega))
  rw [hk] at HH
  have HRA := Lib.hid (show ∀ W, DR W la n l → Calls Tryd.prog 19 #[.slice (sld la lc k) (n - k) (lc - k)] W (DigRet A W) from fun W hW => by rw [hA]; exact rroot_c (n - k) _ _ _ W (hW.drop lc k (by omega) hlc) (by omega) (by omega))
  have HRR := Lib.hid (show ∀ W, DR W la n l → Calls Tryd.prog 19 #[.slice la k lc] W (DigRet R W) from fun W hW => by rw [hR]; exact rroot_c k _ _ _ W (hW.take k (by omega)) (by omega) (by omega))
  have HREC := Lib.hid (show d = A → ∀ W, Below w.heap.size w W → DR W la n l → DR W (some ⟨wb, wo, none⟩) (L + 1) way → Calls Tryd.prog 29 #[.slice (sld la lc k) (n - k) (lc - k), .int .i64 ((i - k : Nat) : Int), .agg (cellsOf leaf).toArray, .slice (some ⟨wb, wo, none⟩) L wc] W (RetTrue W) from fun hdA W hW hWl hWw => ih B (n - k) (by omega) _ (i - k) leaf (way.take L) _ _ _ _ _ W (by omega) hf (hWl.drop lc k (by omega) hlc) (by omega) (by omega) (hWw.take L (by omega)) (by omega) hwm hab (Nat.le_trans hB hW.size) (by rw [hd, hdA, hA]) (by
    rw [show (l.drop k).getD (i - k) [] = l.getD i [] by simp [List.getD_eq_getElem?_getD, List.getElem?_drop, show k + (i - k) = i by omega]]
    exact hne))
  have HLF := Lib.hid hf
  have HL := Lib.hid hl
  have HW := Lib.hid hw
  have HSX := Lib.hid hs
  have q0 : ¬ (n : Int) < 2 := by omega
  have q1 : ¬ (i : Int) < (k : Int) := by omega
  have kI := fun W => run_dindex dtR W wb wo (L + 1) wc L (by omega)
  have kW := fun W => run_dheadAt dtR W (some ⟨wb, wo, none⟩) (L + 1) wc L (by omega)
  have kH := fun W => run_dheadAt dtR W la n lc k (by omega)
  have kT := fun W => run_dcutAt dtR W la n lc k (by omega)
  have HIS := Lib.hid (info32 dtR HSD.out)
  have HZS := Lib.hid (zsize HSD.out)
  have HID := Lib.hid (info32 dtR HDD.out)
  have HZD := Lib.hid (zsize HDD.out)
  have HIA := Lib.hid (info32 dtR HAD.out)
  have HZA := Lib.hid (zsize HAD.out)
  have HIL := Lib.hid (info32 dtR HLF.out)
  have HGT := Lib.hid (show Tryd.prog.eqGuardType Tryd.prog.depth 22 = false by kernel_rfl)
  have HDA := Lib.hid (fun W => eqDD dtR W HDD.out HAD.out)
  have HSR := Lib.hid (fun W => eqDD dtR W HSD.out HRD.out)
  clear ih hf hl hw hs hroot hd he hA hR hk hab htop hne
  go_enter Tryd.func29, Tryd.ntmps29
  go_upto_region 1 with fail
  refine gen_code (F := fun W => Brow W w.heap.size 22 leaf ∧ Below w.heap.size w W) ⟨heap_new _ _, (Below.refl _ _).alloc (Nat.le_refl _) _⟩ ?_
  rintro wA ⟨hb, hbw⟩
  have HB := Lib.hid hb
  have HBW := Lib.hid hbw
  have HLS := Lib.hid (run_dload dtR wA wb (wo + L * 32) s HSD.out (by
    obtain ⟨b', o', h1, _, h3⟩ := (HW.out.below hbw).at L (by omega)
    simp only [Option.some.injEq, Addr.mk.injEq, and_true] at h1
    obtain ⟨rfl, rfl⟩ := h1
    rw [HSX.out]
    exact h3))
  clear hb hbw
  go_upto_region 6 with (first | (go_at_call 33; refine (HH.out _).mono ?_; rintro e wb ⟨rfl, rfl⟩) | (refine wpList_loadg 22 _ (by rfl) (by rfl) (.pointer (some ⟨wb, wo + L * 32, none⟩)) (by rfl) (.agg (cellsOf s).toArray) HLS.out ?_) | (refine wpList_store_row (by rfl) 22 _ _ (by rfl) wA.heap.size (cellsOf s).toArray (by rfl) (by rfl) 22 (cellsOf zs32).toArray (by exact heap_new _ _) HIS.out HZS.out (cellsOf_all _) ?_))
  obtain ⟨g10, hg10⟩ : ∃ g, g = wA.heap.size := ⟨_, rfl⟩
  refine gen_code (F := FS w leaf g10 s la n l (some ⟨wb, wo, none⟩) L way) (by
    rw [hg10]
    obtain ⟨h1, h2⟩ := lay32 wA s _ rfl
    exact ⟨HB.out.below h2 HB.out.lt, h1, (HL.out.below HBW.out).below h2, (HW.out.below HBW.out).below h2, HBW.out.trans (h2.mono HBW.out.size)⟩) ?_
  rw [← hg10]
  intro w2 h2s
  have HS2 := Lib.hid h2s
  clear h2s HB HBW HLS hg10 kI HL HW
  have s1 : (n : Int) - (k : Int) = ((n - k : Nat) : Int) := by omega
  have s2 : (i : Int) - (k : Int) = ((i - k : Nat) : Int) := by omega
  go_wp2_with (first | (refine wpList_load_row (by rfl) 22 _ (by rfl) w.heap.size (by rfl) _ (cellsOf leaf).toArray (0, 0) _ HS2.out.1 Tryd.underlying22 (by rfl) HIL.out ?_))
  refine (HUP.out _ HS2.out.2.2.2.2 (HS2.out.2.2.2.1.take L (by omega))).mono ?_
  rintro e w3 ⟨ra, rl, rc, rfl, hb3⟩
  have HS3 := Lib.hid (HS2.out.step hb3)
  clear hb3 HS2
  go_upto_region 13 with (first | (refine wpList_store_row (by rfl) 22 _ _ (by rfl) w3.heap.size (cellsOf d).toArray (by rfl) (by rfl) 22 (cellsOf zs32).toArray (by exact heap_new _ _) HID.out HZD.out (cellsOf_all _) ?_))
  obtain ⟨g12, hg12⟩ : ∃ g, g = w3.heap.size := ⟨_, rfl⟩
  refine gen_code (F := fun W => FS w leaf g10 s la n l (some ⟨wb, wo, none⟩) L way W ∧ Brow W g12 22 d) (by
    rw [hg12]
    obtain ⟨h1, h2⟩ := lay32 w3 d _ rfl
    exact ⟨HS3.out.step h2, h1⟩) ?_
  rw [← hg12]
  rintro w4 ⟨hs4, hd4⟩
  have HS4 := Lib.hid hs4
  have HD4 := Lib.hid hd4
  clear hs4 hd4 HS3 hg12
  go_wp2_with fail
  refine (HRA.out _ HS4.out.2.2.1).mono ?_
  rintro e w5 ⟨rfl, hb5⟩
  have HS5 := Lib.hid (HS4.out.step hb5)
  have HD5 := Lib.hid (HD4.out.below hb5 HD4.out.lt)
  clear hb5 HS4 HD4
  go_upto_region 14 with (first | (refine wpList_store_row (by rfl) 22 _ _ (by rfl) w5.heap.size (cellsOf A).toArray (by rfl) (by rfl) 22 (cellsOf zs32).toArray (by exact heap_new _ _) HIA.out HZA.out (cellsOf_all _) ?_))
  obtain ⟨g15, hg15⟩ : ∃ g, g = w5.heap.size := ⟨_, rfl⟩
  refine gen_code (F := FD w leaf g10 s la n l (some ⟨wb, wo, none⟩) L way g12 d g15 A) (by
    rw [hg15]
    obtain ⟨h1, h2⟩ := lay32 w5 A _ rfl
    exact ⟨HS5.out.step h2, HD5.out.below h2 HD5.out.lt, h1⟩) ?_
  rw [← hg15]
  intro w6 h6
  have HS := Lib.hid h6.drew
  clear h6 HS5 HD5 hg15 kW kH kT
  have HLD := Lib.hid (fun W (hW : FD w leaf g10 s la n l (some ⟨wb, wo, none⟩) L way g12 d g15 A W) => run_dload dtR W g12 0 d HDD.out hW.2.1.range)
  have HLA := Lib.hid (fun W (hW : FD w leaf g10 s la n l (some ⟨wb, wo, none⟩) L way g12 d g15 A W) => run_dload dtR W g15 0 A HAD.out hW.2.2.range)
  have HLS := Lib.hid (fun W (hW : FD w leaf g10 s la n l (some ⟨wb, wo, none⟩) L way g12 d g15 A W) => run_dload dtR W g10 0 s HSD.out hW.1.2.1.range)
  have HLL := Lib.hid (fun W (hW : FD w leaf g10 s la n l (some ⟨wb, wo, none⟩) L way g12 d g15 A W) => run_dload dtR W w.heap.size 0 leaf HLF.out hW.1.1.range)
  (try dsimp only [Act.put, List.setIfInBounds_toArray, List.set_cons_zero, List.set_cons_succ])
  by_cases hdA : d = A
  · rw [decide_eq_true hdA] at HDA
    have HRC := Lib.hid (HREC.out hdA)
    by_cases hsR : s = R
    · rw [decide_eq_true hsR] at HSR
      clear HREC HE
      clear hdA hsR
      refine anyH_begin (S := FD w leaf g10 s la n l (some ⟨wb, wo, none⟩) L way g12 d g15 A) (by kernel_rfl) ?_
      refine anyH_pureG 0 (d := 110) (op := .move (.tmp 18)) (gd := none) (.bool true) (by rfl) (fun o ho => wanted_plain ho _) (by kernel_rfl) (by kernel_rfl) (by kernel_rfl) (fun _ _ _ h => h) (fun o ho W hW => by unfold execOp; simp only [ho]; go_simp) HS.out ?_
      simp only [Act.put, List.setIfInBounds_toArray, List.set_cons_zero, List.set_cons_succ]
      refine anyH_pureG 1 (d := 111) (op := .move (.tmp 110)) (gd := none) (.bool true) (by rfl) (fun o ho => wanted_plain ho _) (by kernel_rfl) (by kernel_rfl) (by kernel_rfl) (fun _ _ _ h => h) (fun o ho W hW => by unfold execOp; simp only [ho]; go_simp) HS.out ?_
      simp only [Act.put, List.setIfInBounds_toArray, List.set_cons_zero, List.set_cons_succ]
      refine anyH_loadG 2 (d := 112) (ty := 22) (x := (.tmp 16)) (gd := some (1, true)) (p := .pointer (some ⟨g12, 0, none⟩)) (.agg (cellsOf d).toArray) (by rfl) (fun o ho => by simp only [Region.wanted, ho]; rfl) (by kernel_rfl) (by kernel_rfl) (by kernel_rfl) (fun _ _ _ h => h) (by rfl) HLD.out HS.out ?_
      simp only [Act.put, List.setIfInBounds_toArray, List.set_cons_zero, List.set_cons_succ]
      refine anyH_loadG 3 (d := 113) (ty := 22) (x := (.tmp 19)) (gd := some (1, true)) (p := .pointer (some ⟨g15, 0, none⟩)) (.agg (cellsOf A).toArray) (by rfl) (fun o ho => by simp only [Region.wanted, ho]; rfl) (by kernel_rfl) (by kernel_rfl) (by kernel_rfl) (fun _ _ _ h => h) (by rfl) HLA.out HS.out ?_
      simp only [Act.put, List.setIfInBounds_toArray, List.set_cons_zero, List.set_cons_succ]
      refine anyH_neqG 4 (d := 114) (t := 22) (t' := 22) (x := (.tmp 112)) (y := (.tmp 113)) (gd := some (1, true)) ((cellsOf d).toArray) ((cellsOf A).toArray) true (by rfl) (fun o ho => by simp only [Region.wanted, ho]; rfl) (by kernel_rfl) (by kernel_rfl) (by kernel_rfl) (fun _ _ _ h => h) (by rfl) (by rfl) HGT.out HDA.out HS.out ?_
      simp only [Act.put, List.setIfInBounds_toArray, List.set_cons_zero, List.set_cons_succ]
      refine anyH_pureG 5 (d := 115) (op := .move (.tmp 114)) (gd := some (1, true)) (.bool false) (by rfl) (fun o ho => by simp only [Region.wanted, ho]; rfl) (by kernel_rfl) (by kernel_rfl) (by kernel_rfl) (fun _ _ _ h => h) (fun o ho W hW => by unfold execOp; simp only [ho]; go_simp) HS.out ?_
      simp only [Act.put, List.setIfInBounds_toArray, List.set_cons_zero, List.set_cons_succ]
      refine anyH_loadG 6 (d := 116) (ty := 22) (x := (.tmp 10)) (gd := some (5, false)) (p := .pointer (some ⟨g10, 0, none⟩)) (.agg (cellsOf s).toArray) (by rfl) (fun o ho => by simp only [Region.wanted, ho]; rfl) (by kernel_rfl) (by kernel_rfl) (by kernel_rfl) (fun _ _ _ h => h) (by rfl) HLS.out HS.out ?_
      simp only [Act.put, List.setIfInBounds_toArray, List.set_cons_zero, List.set_cons_succ]
      refine anyH_pureG 7 (d := 117) (op := .move (.tmp 0)) (gd := some (5, false)) (.slice la n lc) (by rfl) (fun o ho => by simp only [Region.wanted, ho]; rfl) (by kernel_rfl) (by kernel_rfl) (by kernel_rfl) (fun _ _ _ h => h) (fun o ho W hW => by unfold execOp; simp only [ho]; go_simp) HS.out ?_
      simp only [Act.put, List.setIfInBounds_toArray, List.set_cons_zero, List.set_cons_succ]
      refine anyH_pureG 8 (d := 118) (op := .move (.tmp 9)) (gd := some (5, false)) (.int .i64 (k : Int)) (by rfl) (fun o ho => by simp only [Region.wanted, ho]; rfl) (by kernel_rfl) (by kernel_rfl) (by kernel_rfl) (fun _ _ _ h => h) (fun o ho W hW => by unfold execOp; simp only [ho]; go_simp) HS.out ?_
      simp only [Act.put, List.setIfInBounds_toArray, List.set_cons_zero, List.set_cons_succ]
      refine anyH_pureG 9 (d := 119) (op := .slice 24 (.tmp 117) none (some (.tmp 118)) none) (gd := some (5, false)) (.slice la k lc) (by rfl) (fun o ho => by simp only [Region.wanted, ho]; rfl) (by kernel_rfl) (by kernel_rfl) (by kernel_rfl) (fun _ _ _ h => h) (fun o ho W hW => exec_dhead dtR (x := .tmp 117) (y := .tmp 118) la n lc k (by omega) _ (by rfl) (by rfl) o ho W) HS.out ?_
      simp only [Act.put, List.setIfInBounds_toArray, List.set_cons_zero, List.set_cons_succ]
      refine anyH_callG 10 (d := some 120) (f := 19) (xs := #[(.tmp 119)]) (ts := #[24]) (gd := some (5, false)) (vs := #[.slice la k lc]) (by kernel_rfl) (by rfl) (fun o ho => by simp only [Region.wanted, ho]; rfl) (by go_simp) (by go_simp) (HRR.out _ HS.out.1.2.2.1) ?_
      rintro e81 w81 ⟨rfl, hb81⟩
      refine ⟨_, rfl, HS.out.step hb81, fun hS81 => ?_⟩
      have HS := Lib.hid hS81
      clear hS81 hb81
      simp only [Act.put, List.setIfInBounds_toArray, List.set_cons_zero, List.set_cons_succ]
      refine anyH_neqG 11 (d := 121) (t := 22) (t' := 22) (x := (.tmp 116)) (y := (.tmp 120)) (gd := some (5, false)) ((cellsOf s).toArray) ((cellsOf R).toArray) true (by rfl) (fun o ho => by simp only [Region.wanted, ho]; rfl) (by kernel_rfl) (by kernel_rfl) (by kernel_rfl) (fun _ _ _ h => h) (by rfl) (by rfl) HGT.out HSR.out HS.out ?_
      simp only [Act.put, List.setIfInBounds_toArray, List.set_cons_zero, List.set_cons_succ]
      refine anyH_pureG 12 (d := 122) (op := .pick (.tmp 115) (.const (.bool true)) (.tmp 121)) (gd := some (1, true)) (.bool false) (by rfl) (fun o ho => by simp only [Region.wanted, ho]; rfl) (by kernel_rfl) (by kernel_rfl) (by kernel_rfl) (fun _ _ _ h => h) (fun o ho W hW => by unfold execOp; simp only [ho]; go_simp) HS.out ?_
      simp only [Act.put, List.setIfInBounds_toArray, List.set_cons_zero, List.set_cons_succ]
      refine anyH_pureG 13 (d := 123) (op := .pick (.tmp 111) (.tmp 122) (.const (.bool false))) (gd := none) (.bool false) (by rfl) (fun o ho => wanted_plain ho _) (by kernel_rfl) (by kernel_rfl) (by kernel_rfl) (fun _ _ _ h => h) (fun o ho W hW => by unfold execOp; simp only [ho]; go_simp) HS.out ?_
      simp only [Act.put, List.setIfInBounds_toArray, List.set_cons_zero, List.set_cons_succ]
      refine wpAnyH_done (by kernel_rfl) ?_ _
      go_upto_region 16 with fail
      (try dsimp only [Act.put, List.setIfInBounds_toArray, List.set_cons_zero, List.set_cons_succ])
      have HS := Lib.hid HS.out.drew
      have s1 : (i : Int) - (k : Int) = ((i - k : Nat) : Int) := by omega
      have hw4 : IntKind.i64.wrap ((i - k : Nat) : Int) = ((i - k : Nat) : Int) := by simp [IntKind.wrap, IntKind.bits, IntKind.signed]; omega
      refine anyH_begin (S := FD w leaf g10 s la n l (some ⟨wb, wo, none⟩) L way g12 d g15 A) (by kernel_rfl) ?_
      refine anyH_pureG 0 (d := 134) (op := .move (.tmp 18)) (gd := none) (.bool true) (by rfl) (fun o ho => wanted_plain ho _) (by kernel_rfl) (by kernel_rfl) (by kernel_rfl) (fun _ _ _ h => h) (fun o ho W hW => by unfold execOp; simp only [ho]; go_simp) HS.out ?_
      simp only [Act.put, List.setIfInBounds_toArray, List.set_cons_zero, List.set_cons_succ]
      refine anyH_pureG 1 (d := 135) (op := .move (.tmp 134)) (gd := none) (.bool true) (by rfl) (fun o ho => wanted_plain ho _) (by kernel_rfl) (by kernel_rfl) (by kernel_rfl) (fun _ _ _ h => h) (fun o ho W hW => by unfold execOp; simp only [ho]; go_simp) HS.out ?_
      simp only [Act.put, List.setIfInBounds_toArray, List.set_cons_zero, List.set_cons_succ]
      refine anyH_pureG 2 (d := 136) (op := .move (.tmp 0)) (gd := some (1, true)) (.slice la n lc) (by rfl) (fun o ho => by simp only [Region.wanted, ho]; rfl) (by kernel_rfl) (by kernel_rfl) (by kernel_rfl) (fun _ _ _ h => h) (fun o ho W hW => by unfold execOp; simp only [ho]; go_simp) HS.out ?_
      simp only [Act.put, List.setIfInBounds_toArray, List.set_cons_zero, List.set_cons_succ]
      refine anyH_pureG 3 (d := 137) (op := .move (.tmp 9)) (gd := some (1, true)) (.int .i64 (k : Int)) (by rfl) (fun o ho => by simp only [Region.wanted, ho]; rfl) (by kernel_rfl) (by kernel_rfl) (by kernel_rfl) (fun _ _ _ h => h) (fun o ho W hW => by unfold execOp; simp only [ho]; go_simp) HS.out ?_
      simp only [Act.put, List.setIfInBounds_toArray, List.set_cons_zero, List.set_cons_succ]
      refine anyH_pureG 4 (d := 138) (op := .slice 24 (.tmp 136) (some (.tmp 137)) none none) (gd := some (1, true)) (.slice (sld la lc k) (n - k) (lc - k)) (by rfl) (fun o ho => by simp only [Region.wanted, ho]; rfl) (by kernel_rfl) (by kernel_rfl) (by kernel_rfl) (fun _ _ _ h => h) (fun o ho W hW => exec_dcut dtR (x := .tmp 136) (y := .tmp 137) la n lc k (by omega) _ (by rfl) (by rfl) o ho W) HS.out ?_
      simp only [Act.put, List.setIfInBounds_toArray, List.set_cons_zero, List.set_cons_succ]
      refine anyH_pureG 5 (d := 139) (op := .move (.tmp 1)) (gd := some (1, true)) (.int .i64 (i : Int)) (by rfl) (fun o ho => by simp only [Region.wanted, ho]; rfl) (by kernel_rfl) (by kernel_rfl) (by kernel_rfl) (fun _ _ _ h => h) (fun o ho W hW => by unfold execOp; simp only [ho]; go_simp) HS.out ?_
      simp only [Act.put, List.setIfInBounds_toArray, List.set_cons_zero, List.set_cons_succ]
      refine anyH_pureG 6 (d := 140) (op := .move (.tmp 9)) (gd := some (1, true)) (.int .i64 (k : Int)) (by rfl) (fun o ho => by simp only [Region.wanted, ho]; rfl) (by kernel_rfl) (by kernel_rfl) (by kernel_rfl) (fun _ _ _ h => h) (fun o ho W hW => by unfold execOp; simp only [ho]; go_simp) HS.out ?_
      simp only [Act.put, List.setIfInBounds_toArray, List.set_cons_zero, List.set_cons_succ]
      refine anyH_pureG 7 (d := 141) (op := .binOp .sub 3 (.tmp 139) (.tmp 140) 3) (gd := some (1, true)) (.int .i64 ((i - k : Nat) : Int)) (by rfl) (fun o ho => by simp only [Region.wanted, ho]; rfl) (by kernel_rfl) (by kernel_rfl) (by kernel_rfl) (fun _ _ _ h => h) (fun o ho W hW => by unfold execOp; simp only [ho]; go_simp) HS.out ?_
      simp only [Act.put, List.setIfInBounds_toArray, List.set_cons_zero, List.set_cons_succ]
      refine anyH_loadG 8 (d := 142) (ty := 22) (x := (.tmp 6)) (gd := some (1, true)) (p := .pointer (some ⟨w.heap.size, 0, none⟩)) (.agg (cellsOf leaf).toArray) (by rfl) (fun o ho => by simp only [Region.wanted, ho]; rfl) (by kernel_rfl) (by kernel_rfl) (by kernel_rfl) (fun _ _ _ h => h) (by rfl) HLL.out HS.out ?_
      simp only [Act.put, List.setIfInBounds_toArray, List.set_cons_zero, List.set_cons_succ]
      refine anyH_pureG 9 (d := 143) (op := .move (.tmp 11)) (gd := some (1, true)) (.slice (some ⟨wb, wo, none⟩) L wc) (by rfl) (fun o ho => by simp only [Region.wanted, ho]; rfl) (by kernel_rfl) (by kernel_rfl) (by kernel_rfl) (fun _ _ _ h => h) (fun o ho W hW => by unfold execOp; simp only [ho]; go_simp) HS.out ?_
      simp only [Act.put, List.setIfInBounds_toArray, List.set_cons_zero, List.set_cons_succ]
      refine anyH_callG 10 (d := some 144) (f := 29) (xs := #[(.tmp 138), (.tmp 141), (.tmp 142), (.tmp 143)]) (ts := #[24, 3, 22, 24]) (gd := some (1, true)) (vs := #[.slice (sld la lc k) (n - k) (lc - k), .int .i64 ((i - k : Nat) : Int), .agg (cellsOf leaf).toArray, .slice (some ⟨wb, wo, none⟩) L wc]) (by kernel_rfl) (by rfl) (fun o ho => by simp only [Region.wanted, ho]; rfl) (by go_simp) (by go_simp) (HRC.out _ HS.out.1.2.2.2.2 HS.out.1.2.2.1 HS.out.1.2.2.2.1) ?_
      rintro e86 w86 ⟨rfl, hb86⟩
      refine ⟨_, rfl, HS.out.step hb86, fun hS86 => ?_⟩
      have HS := Lib.hid hS86
      clear hS86 hb86
      simp only [Act.put, List.setIfInBounds_toArray, List.set_cons_zero, List.set_cons_succ]
      refine anyH_pureG 11 (d := 145) (op := .pick (.tmp 135) (.tmp 144) (.const (.bool false))) (gd := none) (.bool true) (by rfl) (fun o ho => wanted_plain ho _) (by kernel_rfl) (by kernel_rfl) (by kernel_rfl) (fun _ _ _ h => h) (fun o ho W hW => by unfold execOp; simp only [ho]; go_simp) HS.out ?_
      simp only [Act.put, List.setIfInBounds_toArray, List.set_cons_zero, List.set_cons_succ]
      refine anyH_pureG 12 (d := 8) (op := .assign (.tmp 145)) (gd := none) (.bool true) (by rfl) (fun o ho => wanted_plain ho _) (by kernel_rfl) (by kernel_rfl) (by kernel_rfl) (fun _ _ _ h => h) (fun o ho W hW => by unfold execOp; simp only [ho]; go_simp) HS.out ?_
      simp only [Act.put, List.setIfInBounds_toArray, List.set_cons_zero, List.set_cons_succ]
      refine wpAnyH_done (by kernel_rfl) ?_ _
      go_wp2
      go_ret
      exact ⟨rfl, HS.out.1.2.2.2.2⟩
    · rw [decide_eq_false hsR] at HSR
      obtain ⟨hsum, hneq⟩ := HE.out.resolve_left (fun h => hsR h.1)
      have HSUM := Lib.hid hsum
      have HNEQ := Lib.hid hneq
      clear hsum hneq HE HREC HRC
      clear hdA hsR
      refine anyH_begin (S := FD w leaf g10 s la n l (some ⟨wb, wo, none⟩) L way g12 d g15 A) (by kernel_rfl) ?_
      refine anyH_pureG 0 (d := 110) (op := .move (.tmp 18)) (gd := none) (.bool true) (by rfl) (fun o ho => wanted_plain ho _) (by kernel_rfl) (by kernel_rfl) (by kernel_rfl) (fun _ _ _ h => h) (fun o ho W hW => by unfold execOp; simp only [ho]; go_simp) HS.out ?_
      simp only [Act.put, List.setIfInBounds_toArray, List.set_cons_zero, List.set_cons_succ]
      refine anyH_pureG 1 (d := 111) (op := .move (.tmp 110)) (gd := none) (.bool true) (by rfl) (fun o ho => wanted_plain ho _) (by kernel_rfl) (by kernel_rfl) (by kernel_rfl) (fun _ _ _ h => h) (fun o ho W hW => by unfold execOp; simp only [ho]; go_simp) HS.out ?_
      simp only [Act.put, List.setIfInBounds_toArray, List.set_cons_zero, List.set_cons_succ]
      refine anyH_loadG 2 (d := 112) (ty := 22) (x := (.tmp 16)) (gd := some (1, true)) (p := .pointer (some ⟨g12, 0, none⟩)) (.agg (cellsOf d).toArray) (by rfl) (fun o ho => by simp only [Region.wanted, ho]; rfl) (by kernel_rfl) (by kernel_rfl) (by kernel_rfl) (fun _ _ _ h => h) (by rfl) HLD.out HS.out ?_
      simp only [Act.put, List.setIfInBounds_toArray, List.set_cons_zero, List.set_cons_succ]
      refine anyH_loadG 3 (d := 113) (ty := 22) (x := (.tmp 19)) (gd := some (1, true)) (p := .pointer (some ⟨g15, 0, none⟩)) (.agg (cellsOf A).toArray) (by rfl) (fun o ho => by simp only [Region.wanted, ho]; rfl) (by kernel_rfl) (by kernel_rfl) (by kernel_rfl) (fun _ _ _ h => h) (by rfl) HLA.out HS.out ?_
      simp only [Act.put, List.setIfInBounds_toArray, List.set_cons_zero, List.set_cons_succ]
      refine anyH_neqG 4 (d := 114) (t := 22) (t' := 22) (x := (.tmp 112)) (y := (.tmp 113)) (gd := some (1, true)) ((cellsOf d).toArray) ((cellsOf A).toArray) true (by rfl) (fun o ho => by simp only [Region.wanted, ho]; rfl) (by kernel_rfl) (by kernel_rfl) (by kernel_rfl) (fun _ _ _ h => h) (by rfl) (by rfl) HGT.out HDA.out HS.out ?_
      simp only [Act.put, List.setIfInBounds_toArray, List.set_cons_zero, List.set_cons_succ]
      refine anyH_pureG 5 (d := 115) (op := .move (.tmp 114)) (gd := some (1, true)) (.bool false) (by rfl) (fun o ho => by simp only [Region.wanted, ho]; rfl) (by kernel_rfl) (by kernel_rfl) (by kernel_rfl) (fun _ _ _ h => h) (fun o ho W hW => by unfold execOp; simp only [ho]; go_simp) HS.out ?_
      simp only [Act.put, List.setIfInBounds_toArray, List.set_cons_zero, List.set_cons_succ]
      refine anyH_loadG 6 (d := 116) (ty := 22) (x := (.tmp 10)) (gd := some (5, false)) (p := .pointer (some ⟨g10, 0, none⟩)) (.agg (cellsOf s).toArray) (by rfl) (fun o ho => by simp only [Region.wanted, ho]; rfl) (by kernel_rfl) (by kernel_rfl) (by kernel_rfl) (fun _ _ _ h => h) (by rfl) HLS.out HS.out ?_
      simp only [Act.put, List.setIfInBounds_toArray, List.set_cons_zero, List.set_cons_succ]
      refine anyH_pureG 7 (d := 117) (op := .move (.tmp 0)) (gd := some (5, false)) (.slice la n lc) (by rfl) (fun o ho => by simp only [Region.wanted, ho]; rfl) (by kernel_rfl) (by kernel_rfl) (by kernel_rfl) (fun _ _ _ h => h) (fun o ho W hW => by unfold execOp; simp only [ho]; go_simp) HS.out ?_
      simp only [Act.put, List.setIfInBounds_toArray, List.set_cons_zero, List.set_cons_succ]
      refine anyH_pureG 8 (d := 118) (op := .move (.tmp 9)) (gd := some (5, false)) (.int .i64 (k : Int)) (by rfl) (fun o ho => by simp only [Region.wanted, ho]; rfl) (by kernel_rfl) (by kernel_rfl) (by kernel_rfl) (fun _ _ _ h => h) (fun o ho W hW => by unfold execOp; simp only [ho]; go_simp) HS.out ?_
      simp only [Act.put, List.setIfInBounds_toArray, List.set_cons_zero, List.set_cons_succ]
      refine anyH_pureG 9 (d := 119) (op := .slice 24 (.tmp 117) none (some (.tmp 118)) none) (gd := some (5, false)) (.slice la k lc) (by rfl) (fun o ho => by simp only [Region.wanted, ho]; rfl) (by kernel_rfl) (by kernel_rfl) (by kernel_rfl) (fun _ _ _ h => h) (fun o ho W hW => exec_dhead dtR (x := .tmp 117) (y := .tmp 118) la n lc k (by omega) _ (by rfl) (by rfl) o ho W) HS.out ?_
      simp only [Act.put, List.setIfInBounds_toArray, List.set_cons_zero, List.set_cons_succ]
      refine anyH_callG 10 (d := some 120) (f := 19) (xs := #[(.tmp 119)]) (ts := #[24]) (gd := some (5, false)) (vs := #[.slice la k lc]) (by kernel_rfl) (by rfl) (fun o ho => by simp only [Region.wanted, ho]; rfl) (by go_simp) (by go_simp) (HRR.out _ HS.out.1.2.2.1) ?_
      rintro e81 w81 ⟨rfl, hb81⟩
      refine ⟨_, rfl, HS.out.step hb81, fun hS81 => ?_⟩
      have HS := Lib.hid hS81
      clear hS81 hb81
      simp only [Act.put, List.setIfInBounds_toArray, List.set_cons_zero, List.set_cons_succ]
      refine anyH_neqG 11 (d := 121) (t := 22) (t' := 22) (x := (.tmp 116)) (y := (.tmp 120)) (gd := some (5, false)) ((cellsOf s).toArray) ((cellsOf R).toArray) false (by rfl) (fun o ho => by simp only [Region.wanted, ho]; rfl) (by kernel_rfl) (by kernel_rfl) (by kernel_rfl) (fun _ _ _ h => h) (by rfl) (by rfl) HGT.out HSR.out HS.out ?_
      simp only [Act.put, List.setIfInBounds_toArray, List.set_cons_zero, List.set_cons_succ]
      refine anyH_pureG 12 (d := 122) (op := .pick (.tmp 115) (.const (.bool true)) (.tmp 121)) (gd := some (1, true)) (.bool true) (by rfl) (fun o ho => by simp only [Region.wanted, ho]; rfl) (by kernel_rfl) (by kernel_rfl) (by kernel_rfl) (fun _ _ _ h => h) (fun o ho W hW => by unfold execOp; simp only [ho]; go_simp) HS.out ?_
      simp only [Act.put, List.setIfInBounds_toArray, List.set_cons_zero, List.set_cons_succ]
      refine anyH_pureG 13 (d := 123) (op := .pick (.tmp 111) (.tmp 122) (.const (.bool false))) (gd := none) (.bool true) (by rfl) (fun o ho => wanted_plain ho _) (by kernel_rfl) (by kernel_rfl) (by kernel_rfl) (fun _ _ _ h => h) (fun o ho W hW => by unfold execOp; simp only [ho]; go_simp) HS.out ?_
      simp only [Act.put, List.setIfInBounds_toArray, List.set_cons_zero, List.set_cons_succ]
      refine wpAnyH_done (by kernel_rfl) ?_ _
      go_upto_region 15 with fail
      (try dsimp only [Act.put, List.setIfInBounds_toArray, List.set_cons_zero, List.set_cons_succ])
      have HS := Lib.hid HS.out.drew
      refine anyH_begin (S := FD w leaf g10 s la n l (some ⟨wb, wo, none⟩) L way g12 d g15 A) (by kernel_rfl) ?_
      refine anyH_loadG 0 (d := 124) (ty := 22) (x := (.tmp 10)) (gd := none) (p := .pointer (some ⟨g10, 0, none⟩)) (.agg (cellsOf s).toArray) (by rfl) (fun o ho => wanted_plain ho _) (by kernel_rfl) (by kernel_rfl) (by kernel_rfl) (fun _ _ _ h => h) (by rfl) HLS.out HS.out ?_
      simp only [Act.put, List.setIfInBounds_toArray, List.set_cons_zero, List.set_cons_succ]
      refine anyH_loadG 1 (d := 125) (ty := 22) (x := (.tmp 16)) (gd := none) (p := .pointer (some ⟨g12, 0, none⟩)) (.agg (cellsOf d).toArray) (by rfl) (fun o ho => wanted_plain ho _) (by kernel_rfl) (by kernel_rfl) (by kernel_rfl) (fun _ _ _ h => h) (by rfl) HLD.out HS.out ?_
      simp only [Act.put, List.setIfInBounds_toArray, List.set_cons_zero, List.set_cons_succ]
      refine anyH_pureG 3 (d := 127) (op := .move (.tmp 0)) (gd := none) (.slice la n lc) (by rfl) (fun o ho => wanted_plain ho _) (by kernel_rfl) (by kernel_rfl) (by kernel_rfl) (fun _ _ _ h => h) (fun o ho W hW => by unfold execOp; simp only [ho]; go_simp) HS.out ?_
      simp only [Act.put, List.setIfInBounds_toArray, List.set_cons_zero, List.set_cons_succ]
      refine anyH_pureG 4 (d := 128) (op := .move (.tmp 9)) (gd := none) (.int .i64 (k : Int)) (by rfl) (fun o ho => wanted_plain ho _) (by kernel_rfl) (by kernel_rfl) (by kernel_rfl) (fun _ _ _ h => h) (fun o ho W hW => by unfold execOp; simp only [ho]; go_simp) HS.out ?_
      simp only [Act.put, List.setIfInBounds_toArray, List.set_cons_zero, List.set_cons_succ]
      refine anyH_pureG 5 (d := 129) (op := .slice 24 (.tmp 127) none (some (.tmp 128)) none) (gd := none) (.slice la k lc) (by rfl) (fun o ho => wanted_plain ho _) (by kernel_rfl) (by kernel_rfl) (by kernel_rfl) (fun _ _ _ h => h) (fun o ho W hW => exec_dhead dtR (x := .tmp 127) (y := .tmp 128) la n lc k (by omega) _ (by rfl) (by rfl) o ho W) HS.out ?_
      simp only [Act.put, List.setIfInBounds_toArray, List.set_cons_zero, List.set_cons_succ]
      refine anyH_loadG 7 (d := 131) (ty := 22) (x := (.tmp 19)) (gd := none) (p := .pointer (some ⟨g15, 0, none⟩)) (.agg (cellsOf A).toArray) (by rfl) (fun o ho => wanted_plain ho _) (by kernel_rfl) (by kernel_rfl) (by kernel_rfl) (fun _ _ _ h => h) (by rfl) HLA.out HS.out ?_
      simp only [Act.put, List.setIfInBounds_toArray, List.set_cons_zero, List.set_cons_succ]
      refine anyH_callG 2 (d := some 126) (f := 41) (xs := #[(.tmp 124), (.tmp 125)]) (ts := #[22, 22]) (gd := none) (vs := #[.agg (cellsOf s).toArray, .agg (cellsOf d).toArray]) (by kernel_rfl) (by rfl) (fun o ho => wanted_plain ho _) (by go_simp) (by go_simp) (pairR_c s d _ HSD.out HDD.out) ?_
      rintro e82 w82 ⟨p1, q1, rfl, hrd82, hb82⟩
      refine ⟨_, rfl, HS.out.step hb82, fun hS82 => ?_⟩
      have HS := Lib.hid hS82
      have HP1 := Lib.hid hrd82
      clear hS82 hb82 hrd82
      simp only [Act.put, List.setIfInBounds_toArray, List.set_cons_zero, List.set_cons_succ]
      refine anyH_callG 6 (d := some 130) (f := 19) (xs := #[(.tmp 129)]) (ts := #[24]) (gd := none) (vs := #[.slice la k lc]) (by kernel_rfl) (by rfl) (fun o ho => wanted_plain ho _) (by go_simp) (by go_simp) (HRR.out _ HS.out.1.2.2.1) ?_
      rintro e83 w83 ⟨rfl, hb83⟩
      refine ⟨_, rfl, HS.out.step hb83, fun hS83 => ?_⟩
      have HS := Lib.hid hS83
      have HP1 := Lib.hid (HP1.out.below hb83)
      clear hS83 hb83
      simp only [Act.put, List.setIfInBounds_toArray, List.set_cons_zero, List.set_cons_succ]
      refine anyH_callG 8 (d := some 132) (f := 41) (xs := #[(.tmp 130), (.tmp 131)]) (ts := #[22, 22]) (gd := none) (vs := #[.agg (cellsOf R).toArray, .agg (cellsOf A).toArray]) (by kernel_rfl) (by rfl) (fun o ho => wanted_plain ho _) (by go_simp) (by go_simp) (pairR_c R A _ HRD.out HAD.out) ?_
      rintro e84 w84 ⟨p2, q2, rfl, hrd84, hb84⟩
      refine ⟨_, rfl, HS.out.step hb84, fun hS84 => ?_⟩
      have HS := Lib.hid hS84
      have HP2 := Lib.hid hrd84
      have HP1 := Lib.hid (HP1.out.below hb84)
      clear hS84 hb84 hrd84
      simp only [Act.put, List.setIfInBounds_toArray, List.set_cons_zero, List.set_cons_succ]
      refine anyH_callG 9 (d := some 133) (f := 44) (xs := #[(.tmp 126), (.tmp 132)]) (ts := #[75, 75]) (gd := none) (vs := #[.slice p1 65 q1, .slice p2 65 q2]) (by kernel_rfl) (by rfl) (fun o ho => wanted_plain ho _) (by go_simp) (by go_simp) (apart_c p1 p2 65 q1 q2 _ _ _ HP1.out HP2.out HSUM.out HNEQ.out (by omega)) ?_
      rintro e85 w85 ⟨rfl, hb85⟩
      refine ⟨_, rfl, HS.out.step hb85, fun hS85 => ?_⟩
      have HS := Lib.hid hS85
      clear hS85 hb85
      simp only [Act.put, List.setIfInBounds_toArray, List.set_cons_zero, List.set_cons_succ]
      refine anyH_pureG 10 (d := 8) (op := .assign (.tmp 133)) (gd := none) (.bool true) (by rfl) (fun o ho => wanted_plain ho _) (by kernel_rfl) (by kernel_rfl) (by kernel_rfl) (fun _ _ _ h => h) (fun o ho W hW => by unfold execOp; simp only [ho]; go_simp) HS.out ?_
      simp only [Act.put, List.setIfInBounds_toArray, List.set_cons_zero, List.set_cons_succ]
      refine wpAnyH_done (by kernel_rfl) ?_ _
      go_wp2
      go_ret
      exact ⟨rfl, HS.out.1.2.2.2.2⟩
  · rw [decide_eq_false hdA] at HDA
    obtain ⟨hsum, hneq⟩ := HE.out.resolve_left (fun h => hdA h.2)
    have HSUM := Lib.hid hsum
    have HNEQ := Lib.hid hneq
    clear hsum hneq HE HREC
    clear hdA
    refine anyH_begin (S := FD w leaf g10 s la n l (some ⟨wb, wo, none⟩) L way g12 d g15 A) (by kernel_rfl) ?_
    refine anyH_pureG 0 (d := 110) (op := .move (.tmp 18)) (gd := none) (.bool true) (by rfl) (fun o ho => wanted_plain ho _) (by kernel_rfl) (by kernel_rfl) (by kernel_rfl) (fun _ _ _ h => h) (fun o ho W hW => by unfold execOp; simp only [ho]; go_simp) HS.out ?_
    simp only [Act.put, List.setIfInBounds_toArray, List.set_cons_zero, List.set_cons_succ]
    refine anyH_pureG 1 (d := 111) (op := .move (.tmp 110)) (gd := none) (.bool true) (by rfl) (fun o ho => wanted_plain ho _) (by kernel_rfl) (by kernel_rfl) (by kernel_rfl) (fun _ _ _ h => h) (fun o ho W hW => by unfold execOp; simp only [ho]; go_simp) HS.out ?_
    simp only [Act.put, List.setIfInBounds_toArray, List.set_cons_zero, List.set_cons_succ]
    refine anyH_loadG 2 (d := 112) (ty := 22) (x := (.tmp 16)) (gd := some (1, true)) (p := .pointer (some ⟨g12, 0, none⟩)) (.agg (cellsOf d).toArray) (by rfl) (fun o ho => by simp only [Region.wanted, ho]; rfl) (by kernel_rfl) (by kernel_rfl) (by kernel_rfl) (fun _ _ _ h => h) (by rfl) HLD.out HS.out ?_
    simp only [Act.put, List.setIfInBounds_toArray, List.set_cons_zero, List.set_cons_succ]
    refine anyH_loadG 3 (d := 113) (ty := 22) (x := (.tmp 19)) (gd := some (1, true)) (p := .pointer (some ⟨g15, 0, none⟩)) (.agg (cellsOf A).toArray) (by rfl) (fun o ho => by simp only [Region.wanted, ho]; rfl) (by kernel_rfl) (by kernel_rfl) (by kernel_rfl) (fun _ _ _ h => h) (by rfl) HLA.out HS.out ?_
    simp only [Act.put, List.setIfInBounds_toArray, List.set_cons_zero, List.set_cons_succ]
    refine anyH_neqG 4 (d := 114) (t := 22) (t' := 22) (x := (.tmp 112)) (y := (.tmp 113)) (gd := some (1, true)) ((cellsOf d).toArray) ((cellsOf A).toArray) false (by rfl) (fun o ho => by simp only [Region.wanted, ho]; rfl) (by kernel_rfl) (by kernel_rfl) (by kernel_rfl) (fun _ _ _ h => h) (by rfl) (by rfl) HGT.out HDA.out HS.out ?_
    simp only [Act.put, List.setIfInBounds_toArray, List.set_cons_zero, List.set_cons_succ]
    refine anyH_pureG 5 (d := 115) (op := .move (.tmp 114)) (gd := some (1, true)) (.bool true) (by rfl) (fun o ho => by simp only [Region.wanted, ho]; rfl) (by kernel_rfl) (by kernel_rfl) (by kernel_rfl) (fun _ _ _ h => h) (fun o ho W hW => by unfold execOp; simp only [ho]; go_simp) HS.out ?_
    simp only [Act.put, List.setIfInBounds_toArray, List.set_cons_zero, List.set_cons_succ]
    refine anyH_skip 6 (d := 116) (op := .load 22 (.tmp 10)) (gd := some (5, false)) (by rfl) (fun o ho => by simp only [Region.wanted, ho]; rfl) (by kernel_rfl) (by kernel_rfl) (by kernel_rfl) (fun _ _ _ h => h) HS.out ?_
    simp only [Act.put, List.setIfInBounds_toArray, List.set_cons_zero, List.set_cons_succ]
    refine anyH_skip 7 (d := 117) (op := .move (.tmp 0)) (gd := some (5, false)) (by rfl) (fun o ho => by simp only [Region.wanted, ho]; rfl) (by kernel_rfl) (by kernel_rfl) (by kernel_rfl) (fun _ _ _ h => h) HS.out ?_
    simp only [Act.put, List.setIfInBounds_toArray, List.set_cons_zero, List.set_cons_succ]
    refine anyH_skip 8 (d := 118) (op := .move (.tmp 9)) (gd := some (5, false)) (by rfl) (fun o ho => by simp only [Region.wanted, ho]; rfl) (by kernel_rfl) (by kernel_rfl) (by kernel_rfl) (fun _ _ _ h => h) HS.out ?_
    simp only [Act.put, List.setIfInBounds_toArray, List.set_cons_zero, List.set_cons_succ]
    refine anyH_skip 9 (d := 119) (op := .slice 24 (.tmp 117) none (some (.tmp 118)) none) (gd := some (5, false)) (by rfl) (fun o ho => by simp only [Region.wanted, ho]; rfl) (by kernel_rfl) (by kernel_rfl) (by kernel_rfl) (fun _ _ _ h => h) HS.out ?_
    simp only [Act.put, List.setIfInBounds_toArray, List.set_cons_zero, List.set_cons_succ]
    refine anyH_skip 10 (d := 120) (op := .call { callee := .value (.func 19), args := #[(.tmp 119)], argTypes := #[24] }) (gd := some (5, false)) (by rfl) (fun o ho => by simp only [Region.wanted, ho]; rfl) (by kernel_rfl) (by kernel_rfl) (by kernel_rfl) (fun _ _ _ h => h) HS.out ?_
    simp only [Act.put, List.setIfInBounds_toArray, List.set_cons_zero, List.set_cons_succ]
    refine anyH_skip 11 (d := 121) (op := .binOp .neq 22 (.tmp 116) (.tmp 120) 22) (gd := some (5, false)) (by rfl) (fun o ho => by simp only [Region.wanted, ho]; rfl) (by kernel_rfl) (by kernel_rfl) (by kernel_rfl) (fun _ _ _ h => h) HS.out ?_
    simp only [Act.put, List.setIfInBounds_toArray, List.set_cons_zero, List.set_cons_succ]
    refine anyH_pureG 12 (d := 122) (op := .pick (.tmp 115) (.const (.bool true)) (.tmp 121)) (gd := some (1, true)) (.bool true) (by rfl) (fun o ho => by simp only [Region.wanted, ho]; rfl) (by kernel_rfl) (by kernel_rfl) (by kernel_rfl) (fun _ _ _ h => h) (fun o ho W hW => by unfold execOp; simp only [ho]; go_simp) HS.out ?_
    simp only [Act.put, List.setIfInBounds_toArray, List.set_cons_zero, List.set_cons_succ]
    refine anyH_pureG 13 (d := 123) (op := .pick (.tmp 111) (.tmp 122) (.const (.bool false))) (gd := none) (.bool true) (by rfl) (fun o ho => wanted_plain ho _) (by kernel_rfl) (by kernel_rfl) (by kernel_rfl) (fun _ _ _ h => h) (fun o ho W hW => by unfold execOp; simp only [ho]; go_simp) HS.out ?_
    simp only [Act.put, List.setIfInBounds_toArray, List.set_cons_zero, List.set_cons_succ]
    refine wpAnyH_done (by kernel_rfl) ?_ _
    go_upto_region 15 with fail
    (try dsimp only [Act.put, List.setIfInBounds_toArray, List.set_cons_zero, List.set_cons_succ])
    have HS := Lib.hid HS.out.drew
    refine anyH_begin (S := FD w leaf g10 s la n l (some ⟨wb, wo, none⟩) L way g12 d g15 A) (by kernel_rfl) ?_
    refine anyH_loadG 0 (d := 124) (ty := 22) (x := (.tmp 10)) (gd := none) (p := .pointer (some ⟨g10, 0, none⟩)) (.agg (cellsOf s).toArray) (by rfl) (fun o ho => wanted_plain ho _) (by kernel_rfl) (by kernel_rfl) (by kernel_rfl) (fun _ _ _ h => h) (by rfl) HLS.out HS.out ?_
    simp only [Act.put, List.setIfInBounds_toArray, List.set_cons_zero, List.set_cons_succ]
    refine anyH_loadG 1 (d := 125) (ty := 22) (x := (.tmp 16)) (gd := none) (p := .pointer (some ⟨g12, 0, none⟩)) (.agg (cellsOf d).toArray) (by rfl) (fun o ho => wanted_plain ho _) (by kernel_rfl) (by kernel_rfl) (by kernel_rfl) (fun _ _ _ h => h) (by rfl) HLD.out HS.out ?_
    simp only [Act.put, List.setIfInBounds_toArray, List.set_cons_zero, List.set_cons_succ]
    refine anyH_pureG 3 (d := 127) (op := .move (.tmp 0)) (gd := none) (.slice la n lc) (by rfl) (fun o ho => wanted_plain ho _) (by kernel_rfl) (by kernel_rfl) (by kernel_rfl) (fun _ _ _ h => h) (fun o ho W hW => by unfold execOp; simp only [ho]; go_simp) HS.out ?_
    simp only [Act.put, List.setIfInBounds_toArray, List.set_cons_zero, List.set_cons_succ]
    refine anyH_pureG 4 (d := 128) (op := .move (.tmp 9)) (gd := none) (.int .i64 (k : Int)) (by rfl) (fun o ho => wanted_plain ho _) (by kernel_rfl) (by kernel_rfl) (by kernel_rfl) (fun _ _ _ h => h) (fun o ho W hW => by unfold execOp; simp only [ho]; go_simp) HS.out ?_
    simp only [Act.put, List.setIfInBounds_toArray, List.set_cons_zero, List.set_cons_succ]
    refine anyH_pureG 5 (d := 129) (op := .slice 24 (.tmp 127) none (some (.tmp 128)) none) (gd := none) (.slice la k lc) (by rfl) (fun o ho => wanted_plain ho _) (by kernel_rfl) (by kernel_rfl) (by kernel_rfl) (fun _ _ _ h => h) (fun o ho W hW => exec_dhead dtR (x := .tmp 127) (y := .tmp 128) la n lc k (by omega) _ (by rfl) (by rfl) o ho W) HS.out ?_
    simp only [Act.put, List.setIfInBounds_toArray, List.set_cons_zero, List.set_cons_succ]
    refine anyH_loadG 7 (d := 131) (ty := 22) (x := (.tmp 19)) (gd := none) (p := .pointer (some ⟨g15, 0, none⟩)) (.agg (cellsOf A).toArray) (by rfl) (fun o ho => wanted_plain ho _) (by kernel_rfl) (by kernel_rfl) (by kernel_rfl) (fun _ _ _ h => h) (by rfl) HLA.out HS.out ?_
    simp only [Act.put, List.setIfInBounds_toArray, List.set_cons_zero, List.set_cons_succ]
    refine anyH_callG 2 (d := some 126) (f := 41) (xs := #[(.tmp 124), (.tmp 125)]) (ts := #[22, 22]) (gd := none) (vs := #[.agg (cellsOf s).toArray, .agg (cellsOf d).toArray]) (by kernel_rfl) (by rfl) (fun o ho => wanted_plain ho _) (by go_simp) (by go_simp) (pairR_c s d _ HSD.out HDD.out) ?_
    rintro e82 w82 ⟨p1, q1, rfl, hrd82, hb82⟩
    refine ⟨_, rfl, HS.out.step hb82, fun hS82 => ?_⟩
    have HS := Lib.hid hS82
    have HP1 := Lib.hid hrd82
    clear hS82 hb82 hrd82
    simp only [Act.put, List.setIfInBounds_toArray, List.set_cons_zero, List.set_cons_succ]
    refine anyH_callG 6 (d := some 130) (f := 19) (xs := #[(.tmp 129)]) (ts := #[24]) (gd := none) (vs := #[.slice la k lc]) (by kernel_rfl) (by rfl) (fun o ho => wanted_plain ho _) (by go_simp) (by go_simp) (HRR.out _ HS.out.1.2.2.1) ?_
    rintro e83 w83 ⟨rfl, hb83⟩
    refine ⟨_, rfl, HS.out.step hb83, fun hS83 => ?_⟩
    have HS := Lib.hid hS83
    have HP1 := Lib.hid (HP1.out.below hb83)
    clear hS83 hb83
    simp only [Act.put, List.setIfInBounds_toArray, List.set_cons_zero, List.set_cons_succ]
    refine anyH_callG 8 (d := some 132) (f := 41) (xs := #[(.tmp 130), (.tmp 131)]) (ts := #[22, 22]) (gd := none) (vs := #[.agg (cellsOf R).toArray, .agg (cellsOf A).toArray]) (by kernel_rfl) (by rfl) (fun o ho => wanted_plain ho _) (by go_simp) (by go_simp) (pairR_c R A _ HRD.out HAD.out) ?_
    rintro e84 w84 ⟨p2, q2, rfl, hrd84, hb84⟩
    refine ⟨_, rfl, HS.out.step hb84, fun hS84 => ?_⟩
    have HS := Lib.hid hS84
    have HP2 := Lib.hid hrd84
    have HP1 := Lib.hid (HP1.out.below hb84)
    clear hS84 hb84 hrd84
    simp only [Act.put, List.setIfInBounds_toArray, List.set_cons_zero, List.set_cons_succ]
    refine anyH_callG 9 (d := some 133) (f := 44) (xs := #[(.tmp 126), (.tmp 132)]) (ts := #[75, 75]) (gd := none) (vs := #[.slice p1 65 q1, .slice p2 65 q2]) (by kernel_rfl) (by rfl) (fun o ho => wanted_plain ho _) (by go_simp) (by go_simp) (apart_c p1 p2 65 q1 q2 _ _ _ HP1.out HP2.out HSUM.out HNEQ.out (by omega)) ?_
    rintro e85 w85 ⟨rfl, hb85⟩
    refine ⟨_, rfl, HS.out.step hb85, fun hS85 => ?_⟩
    have HS := Lib.hid hS85
    clear hS85 hb85
    simp only [Act.put, List.setIfInBounds_toArray, List.set_cons_zero, List.set_cons_succ]
    refine anyH_pureG 10 (d := 8) (op := .assign (.tmp 133)) (gd := none) (.bool true) (by rfl) (fun o ho => wanted_plain ho _) (by kernel_rfl) (by kernel_rfl) (by kernel_rfl) (fun _ _ _ h => h) (fun o ho W hW => by unfold execOp; simp only [ho]; go_simp) HS.out ?_
    simp only [Act.put, List.setIfInBounds_toArray, List.set_cons_zero, List.set_cons_succ]
    refine wpAnyH_done (by kernel_rfl) ?_ _
    go_wp2
    go_ret
    exact ⟨rfl, HS.out.1.2.2.2.2⟩
theorem finds_c : ∀ (n : Nat), n ≤ 9223372036854775807 → FIH (n + 1) := by
  intro n
  induction n using Nat.strongRecOn with
  | ind n ih =>
    intro hn B q hq l i leaf way la lc wa wl wc w hi hf hl hlc hlm hw hwc hwm hab hB htop hne
    by_cases hqn : q < n
    · exact ih q hqn (by omega) B q (by omega) l i leaf way la lc wa wl wc w hi hf hl hlc hlm hw hwc hwm hab hB htop hne
    obtain rfl : q = n := by omega
    by_cases h1 : q < 2
    · exfalso
      rw [top_less_S h1] at htop
      split at htop
      · have hl1 := hl.1
        match l, hl1 with
        | [d], hl1 =>
          obtain rfl : i = 0 := by rw [List.length_singleton] at hl1; omega
          rw [rootS_one] at htop
          exact hne (Option.some.inj htop)
        | [], hl1 => simp at hl1; omega
        | _ :: _ :: _, hl1 => simp at hl1; omega
      · cases htop
    · have ih' : FIH q := by
        intro B p hp l i leaf way la lc wa wl wc w
        exact ih p hp (by omega) B p (by omega) l i leaf way la lc wa wl wc w
      cases wl with
      | zero =>
        rw [hw.zero, show topS q i leaf [] = none from Mk.top_nil _ _ _ _ (by omega)] at htop
        cases htop
      | succ L =>
        by_cases hik : i < Mk.half q
        · exact fds_l B q _ i L ih' l leaf way la lc wa wc w (by omega) hn hi rfl hik hf hl hlc hlm hw hwc hwm hab hB htop hne
        · exact fds_r B q _ i L ih' l leaf way la lc wa wc w (by omega) hn hi rfl hik hf hl hlc hlm hw hwc hwm hab hB htop hne
end Go.Proofs.YtdcninfbpmhojaaDoor
