/-
  The walk over the document's Strays, to the right; and all of it.
-/
import Derived.Test.YtoknjhpdbigbhaaDoorStl
namespace Go.Proofs.YtoknjhpdbigbhaaDoor
open Go.RowKit
set_option linter.unusedVariables false
set_option maxRecDepth 100000 in
set_option maxHeartbeats 16000000 in
theorem str_r (B n k m L : Nat) (ih : SIH n) (a b way : Ds) (whole : Bool) (aa : Option Addr) (ac : Nat) (ba : Option Addr) (bc : Nat) (wa : Option Addr) (wcp : Nat) (w : World) (h2 : 2 ≤ n) (hn : n ≤ 4398046511104) (hk : Mk.half n = k) (h1 : 1 ≤ m) (hmn : m < n) (hmk : ¬ m ≤ k) (ha : DR w aa m a) (hac : m ≤ ac) (ham : ac ≤ 9223372036854775807) (hb : DR w ba n b) (hbc : n ≤ bc) (hbm : bc ≤ 9223372036854775807)
    (hw : DR w wa (L + 1) way) (hwc : L + 1 ≤ wcp) (hwm : wcp ≤ 9223372036854775807) (hab : ∀ b, blkOf wa = some b → b < B) (hB : B ≤ w.heap.size) (htop : bothS (rootS a) m n whole way = some (rootS a, rootS b)) (hne : a ≠ b.take m) :
    Calls Tryd.prog 23 #[.slice aa m ac, .slice ba n bc, .bool whole, .slice wa (L + 1) wcp] w (RetTrue w) := by
  have hk0 : 0 < k := by rw [← hk]; exact Mk.half_pos n
  have hkn : k < n := by rw [← hk]; exact Mk.half_lt n h2
  have h2k : n ≤ 2 * k := by rw [← hk]; exact Mk.half_two n h2
  obtain ⟨wb, wo, rfl, _, _⟩ := hw.at L (by omega)
  obtain ⟨s, hs⟩ : ∃ s, s = way.getD L [] := ⟨_, rfl⟩
  have HSD := Lib.hid (show D32 s from by rw [hs]; exact D32.get hw.2.1 L (by rw [hw.1]; omega))
  have hlow : ∀ d ∈ way.take L, D32 d := d32_take hw.2.1 L
  have hrb : rootS b = nodeS (rootS (b.take k)) (rootS (b.drop k)) := by rw [rootS_more b (by rw [hb.1]; omega), hb.1, hk]
  rw [way_snoc hw.1, ← hs] at htop
  have HH := Lib.hid (fun W => rhalf_c n W h2 (by omega))
  rw [hk] at HH
  obtain ⟨U, hU⟩ : ∃ U, U = rootS (b.take k) := ⟨_, rfl⟩
  obtain ⟨V, hV⟩ : ∃ V, V = rootS (b.drop k) := ⟨_, rfl⟩
  have HUD := Lib.hid (show D32 U from by rw [hU]; exact d32_root _ (d32_take hb.2.1 _))
  have HVD := Lib.hid (show D32 V from by rw [hV]; exact d32_root _ (d32_drop hb.2.1 _))
  have HU := Lib.hid (show ∀ W, Below w.heap.size w W → Calls Tryd.prog 12 #[.slice ba k bc] W (DigRet U W) from fun W hW => by rw [hU]; exact rroot_c k _ _ _ W ((hb.below hW).take k (by omega)) (by omega) (by omega))
  have HV := Lib.hid (show ∀ W, Below w.heap.size w W → Calls Tryd.prog 12 #[.slice (sld ba bc k) (n - k) (bc - k)] W (DigRet V W) from fun W hW => by rw [hV]; exact rroot_c (n - k) _ _ _ W ((hb.below hW).drop bc k (by omega) hbc) (by omega) (by omega))
  have HGT := Lib.hid (show Tryd.prog.eqGuardType Tryd.prog.depth 31 = false by kernel_rfl)
  have HIS := Lib.hid (info32 dtR HSD.out)
  have HZS := Lib.hid (zsize HSD.out)
  have hmk2 : Mk.half m = k := by
    rw [← hk]
    exact Mk.half_eq m (Nat.log2 (n - 1)) (by show Mk.half n < m; omega) (by show m ≤ 2 * Mk.half n; omega)
  have hra : rootS a = nodeS (rootS (a.take k)) (rootS (a.drop k)) := by rw [rootS_more a (by rw [ha.1]; omega), ha.1, hmk2]
  obtain ⟨P, hP⟩ : ∃ P, P = rootS (a.take k) := ⟨_, rfl⟩
  obtain ⟨Q, hQ⟩ : ∃ Q, Q = rootS (a.drop k) := ⟨_, rfl⟩
  have HPD := Lib.hid (show D32 P from by rw [hP]; exact d32_root _ (d32_take ha.2.1 _))
  have HQD := Lib.hid (show D32 Q from by rw [hQ]; exact d32_root _ (d32_drop ha.2.1 _))
  have HP := Lib.hid (show ∀ W, Below w.heap.size w W → Calls Tryd.prog 12 #[.slice aa k ac] W (DigRet P W) from fun W hW => by rw [hP]; exact rroot_c k _ _ _ W ((ha.below hW).take k (by omega)) (by omega) (by omega))
  have HQ := Lib.hid (show ∀ W, Below w.heap.size w W → Calls Tryd.prog 12 #[.slice (sld aa ac k) (m - k) (ac - k)] W (DigRet Q W) from fun W hW => by rw [hQ]; exact rroot_c (m - k) _ _ _ W ((ha.below hW).drop ac k (by omega) hac) (by omega) (by omega))
  obtain ⟨XX, Y, hq, hx, he⟩ : ∃ x y, bothS zs32 (m - k) (n - k) false (way.take L) = some (x, y) ∧ nodeS s x = rootS a ∧ nodeS s y = rootS b := by
    rw [show bothS (rootS a) m n whole (way.take L ++ [s]) = _ from Mk.both_right _ _ _ _ _ _ _ h1 hmn (by rw [hk]; exact hmk), hk] at htop
    obtain ⟨⟨x, y⟩, h, e⟩ := Option.map_eq_some_iff.1 htop
    simp only [Prod.mk.injEq] at e
    exact ⟨x, y, by rw [both_old (p := rootS a)]; exact h, e.1, e.2⟩
  have hzd : D32 zs32 := ⟨zs32_len, by decide⟩
  have hxy := d32_both (n - k) zs32 (m - k) false (way.take L) XX Y (by omega) (by omega) hzd hlow hq
  have HXD := Lib.hid hxy.1
  have HYD := Lib.hid hxy.2
  rw [hrb, ← hU, ← hV] at he
  rw [hra, ← hP, ← hQ] at hx
  have HR := Lib.hid (show Sha.sum (pairL s Y) = Sha.sum (pairL U V) from he)
  have HR2 := Lib.hid (show Sha.sum (pairL s XX) = Sha.sum (pairL P Q) from hx)
  have HNEQ := Lib.hid (show s ≠ U ∨ Y ≠ V → pairL s Y ≠ pairL U V from fun h he => by
    obtain ⟨e1, e2⟩ := pairL_inj he (by rw [HSD.out.1, HUD.out.1])
    exact h.elim (· e1) (· e2))
  have HNEQ2 := Lib.hid (show s ≠ P ∨ XX ≠ Q → pairL s XX ≠ pairL P Q from fun h he => by
    obtain ⟨e1, e2⟩ := pairL_inj he (by rw [HSD.out.1, HPD.out.1])
    exact h.elim (· e1) (· e2))
  have HG := Lib.hid (show ∀ W, Below w.heap.size w W → Calls Tryd.prog 36 #[.agg (cellsOf zs32).toArray, .int .i64 ((m - k : Nat) : Int), .int .i64 ((n - k : Nat) : Int), .bool false, .slice (some ⟨wb, wo, none⟩) L wcp] W (fun e w' => ∃ ra rl rc, e = .returned (.agg (bothC XX Y (.slice ra rl rc) true)) ∧ Below W.heap.size W w') from fun W hW => by
    refine (rgrow_c (n - k) (by omega) B (n - k) (by omega) zs32 (m - k) false _ L wcp (way.take L) W (by omega) (by omega) hzd ((hw.below hW).take L (by omega)) (by omega) hwm hab (Nat.le_trans hB hW.size)).mono ?_
    have hg := both_grow hq
    rintro e w' ⟨hb, ⟨hu, rfl⟩ | ⟨x', y', rest, ra, rl, rc, hu, hx, hy, _, _, _, _, rfl⟩⟩
    · rw [hg] at hu; cases hu
    · rw [hg] at hu
      cases hu
      exact ⟨ra, rl, rc, rfl, hb⟩)
  have HREC := Lib.hid (show Y = V → XX = Q → a.take k = b.take k → ∀ W, Below w.heap.size w W → Calls Tryd.prog 23 #[.slice (sld aa ac k) (m - k) (ac - k), .slice (sld ba bc k) (n - k) (bc - k), .bool false, .slice (some ⟨wb, wo, none⟩) L wcp] W (RetTrue W) from fun e1 e2 e3 W hW => ih B (n - k) (by omega) (m - k) (a.drop k) (b.drop k) (way.take L) false _ _ _ _ _ _ _ W (by omega) (by omega) ((ha.below hW).drop ac k (by omega) hac) (by omega) (by omega) ((hb.below hW).drop bc k (by omega) hbc) (by omega) (by omega) ((hw.below hW).take L (by omega)) (by omega) hwm hab (Nat.le_trans hB hW.size) (by rw [both_old (p := zs32), ← hQ, ← hV, ← e1, ← e2]; exact hq) (fun h6 => hne (by
    rw [← List.take_append_drop k a, e3, h6, ← List.take_add, show k + (m - k) = m by omega])))
  have HDIF := Lib.hid (show s = U → s = P → a.take k ≠ b.take k → ∀ W, Below w.heap.size w W → Calls Tryd.prog 35 #[.slice aa k ac, .slice ba k bc] W (RetTrue W) from fun e1 e2 e3 W hW => differ_c k (by omega) k (by omega) _ _ _ _ _ _ W ((ha.below hW).take k (by omega)) (by omega) ham ((hb.below hW).take k (by omega)) (by omega) hbm (by rw [← hP, ← hU, ← e1, ← e2]) e3)
  have HSAME := Lib.hid (show ∀ W, Below w.heap.size w W → Calls Tryd.prog 13 #[.slice aa k ac, .slice ba k bc] W (fun e w' => e = .returned (.bool (decide (a.take k = b.take k))) ∧ Below W.heap.size W w') from fun W hW => dsame_c k k (by omega) aa ba ac bc _ _ W ((ha.below hW).take k (by omega)) ((hb.below hW).take k (by omega)))
  have HQ1 := Lib.hid (fun W => eqDD dtR W HSD.out HUD.out)
  have HQ2 := Lib.hid (fun W => eqDD dtR W HYD.out HVD.out)
  have HQ3 := Lib.hid (fun W => eqDD dtR W HSD.out HPD.out)
  have HQ4 := Lib.hid (fun W => eqDD dtR W HXD.out HQD.out)
  have q1 : ¬ (m : Int) ≤ (k : Int) := by omega
  have s1 : (m : Int) - (k : Int) = ((m - k : Nat) : Int) := by omega
  have s2 : (n : Int) - (k : Int) = ((n - k : Nat) : Int) := by omega
  have HLS := Lib.hid (run_dload dtR w wb (wo + L * 32) s HSD.out (by
    obtain ⟨b', o', h1, _, h3⟩ := hw.at L (by omega)
    simp only [Option.some.injEq, Addr.mk.injEq, and_true] at h1
    obtain ⟨rfl, rfl⟩ := h1
    rw [hs]
    exact h3))
  have q2 : ¬ m = n := by omega
  have q3 : ¬ (m : Int) = (n : Int) := by omega
  have kI := fun W => run_dindex dtR W wb wo (L + 1) wcp L (by omega)
  have kW := fun W => run_dheadAt dtR W (some ⟨wb, wo, none⟩) (L + 1) wcp L (by omega)
  have kH := fun W => run_dheadAt dtR W ba n bc k (by omega)
  clear ih ha hb hw hs hlow hrb hra hmk2 hU hV hP hQ hq hx he hab htop hne hk hxy
  go_enter Tryd.func23, Tryd.ntmps23
  go_upto_region 7 with (first | (go_at_call 30; refine (HH.out _).mono ?_; rintro e wb ⟨rfl, rfl⟩) | (refine wpList_loadg 31 _ (by rfl) (by rfl) (.pointer (some ⟨wb, wo + L * 32, none⟩)) (by rfl) (.agg (cellsOf s).toArray) HLS.out ?_) | (refine wpList_store_row (by rfl) 31 _ _ (by rfl) w.heap.size (cellsOf s).toArray (by rfl) (by rfl) 31 (cellsOf zs32).toArray (by exact heap_new _ _) HIS.out HZS.out (cellsOf_all _) ?_))
  obtain ⟨g10, hg10⟩ : ∃ g, g = w.heap.size := ⟨_, rfl⟩
  refine gen_code (F := SA w g10 s) (by
    rw [hg10]
    exact lay32 w s _ rfl) ?_
  rw [← hg10]
  rintro w2 ⟨h2a, h2b⟩
  have HA2 := Lib.hid h2a
  have HW2 := Lib.hid h2b
  clear h2a h2b HLS kI hg10
  go_wp2_with (first | (refine wpList_buildTo (by rfl) 31 _ (by rfl) (some 90) (by rfl) (cellsOf zs32).toArray (by simp only [List.map_toArray, List.map_nil]; exact built_dzR) ?_))
  refine (HG.out _ HW2.out).mono ?_
  rintro e w6 ⟨ra, rl, rc, rfl, hb6⟩
  have HAx := HA2
  have HWx := HW2
  clear HA2 HW2 HG
  have HCI := Lib.hid (info_bothC HXD.out HYD.out (.slice ra rl rc) true)
  have HCO := Lib.hid (bothC_one XX Y ra rl rc true)
  have HCS := Lib.hid (show noC.size = (bothC XX Y (.slice ra rl rc) true).size from by rw [bothC_size HXD.out HYD.out, noC_size])
  have HA6 := Lib.hid (HAx.out.below hb6 HAx.out.lt)
  have HW6 := Lib.hid (HWx.out.trans (hb6.mono HWx.out.size))
  clear hb6 HAx HWx
  go_upto_region 17 with (first | (refine wpList_storeB w6.heap.size (bothC XX Y (.slice ra rl rc) true) noC (.tmp 15) (.tmp 100) (by rfl) (by rfl) (by rfl) (by rfl) (by exact heap_newB _ _ (by kernel_rfl)) HCI.out HCS.out HCO.out ?_))
  refine gen_code (F := SB w (w6.heap.size + 1) [(g10, s)] w6.heap.size (bothC XX Y (.slice ra rl rc) true)) (SB.lay HA6.out HW6.out _ (by kernel_rfl)) ?_
  clear HA6 HW6
  obtain ⟨g12, hg12⟩ : ∃ g, g = w6.heap.size := ⟨_, rfl⟩
  rw [← hg12]
  obtain ⟨B1, hB1⟩ : ∃ B, B = g12 + 1 := ⟨_, rfl⟩
  rw [← hB1]
  intro w7 h7
  have hok := h7.2.2.2.2.2.okc HXD.out HYD.out
  have HLX := Lib.hid (fun W (hW : BR W g12 (bothC XX Y (.slice ra rl rc) true)) => hW.lfirst HXD.out)
  have HLY := Lib.hid (fun W (hW : BR W g12 (bothC XX Y (.slice ra rl rc) true)) => hW.lsecond HXD.out HYD.out)
  obtain ⟨CX, hCX⟩ : ∃ C, C = (bothC XX Y (.slice ra rl rc) true) := ⟨_, rfl⟩
  rw [← hCX] at HLX HLY h7
  have HS := Lib.hid h7
  clear h7 hg12 hB1 hCX HCI HCO HCS
  go_upto_region 19 with fail
  have HS := Lib.hid HS.out.drew
  clear hok
  have hg10 : g10 < B1 := (HS.out.2.1 (g10, s) (by simp)).1
  have hg12 : g12 < B1 := HS.out.2.2.2.2.1
  have hwB : w.heap.size ≤ B1 := HS.out.2.2.2.1
  go_cut [16, 17] from 18 (fun s16 s17 wx => ∃ g16 g17 : Nat, s16 = .pointer (some ⟨g16, 0, none⟩) ∧ s17 = .pointer (some ⟨g17, 0, none⟩) ∧ (B1 ≤ g16 ∧ B1 ≤ g17 ∧ g16 ≠ g17) ∧ Hid (SB w B1 [(g10, s)] g12 CX wx ∧ Brow wx g16 31 U ∧ Brow wx g17 31 V))
  case first =>
    (try dsimp only [Act.put, List.setIfInBounds_toArray, List.set_cons_zero, List.set_cons_succ])
    refine anyH_begin (S := SB w B1 [(g10, s)] g12 CX) (by kernel_rfl) ?_
    refine anyH_pureG 0 (d := 104) (op := .move (.tmp 1)) (gd := none) (.slice ba n bc) (by rfl) (fun o ho => wanted_plain ho _) (by kernel_rfl) (by kernel_rfl) (by kernel_rfl) (fun _ _ _ h => h) (fun o ho W hW => by unfold execOp; simp only [ho]; go_simp) HS.out ?_
    simp only [Act.put, List.setIfInBounds_toArray, List.set_cons_zero, List.set_cons_succ]
    refine anyH_pureG 1 (d := 105) (op := .move (.tmp 9)) (gd := none) (.int .i64 (k : Int)) (by rfl) (fun o ho => wanted_plain ho _) (by kernel_rfl) (by kernel_rfl) (by kernel_rfl) (fun _ _ _ h => h) (fun o ho W hW => by unfold execOp; simp only [ho]; go_simp) HS.out ?_
    simp only [Act.put, List.setIfInBounds_toArray, List.set_cons_zero, List.set_cons_succ]
    refine anyH_pureG 2 (d := 106) (op := .slice 22 (.tmp 104) none (some (.tmp 105)) none) (gd := none) (.slice ba k bc) (by rfl) (fun o ho => wanted_plain ho _) (by kernel_rfl) (by kernel_rfl) (by kernel_rfl) (fun _ _ _ h => h) (fun o ho W hW => exec_dhead dtR (x := .tmp 104) (y := .tmp 105) ba n bc k (by omega) _ (by rfl) (by rfl) o ho W) HS.out ?_
    simp only [Act.put, List.setIfInBounds_toArray, List.set_cons_zero, List.set_cons_succ]
    refine anyH_pureG 4 (d := 108) (op := .move (.tmp 1)) (gd := none) (.slice ba n bc) (by rfl) (fun o ho => wanted_plain ho _) (by kernel_rfl) (by kernel_rfl) (by kernel_rfl) (fun _ _ _ h => h) (fun o ho W hW => by unfold execOp; simp only [ho]; go_simp) HS.out ?_
    simp only [Act.put, List.setIfInBounds_toArray, List.set_cons_zero, List.set_cons_succ]
    refine anyH_pureG 5 (d := 109) (op := .move (.tmp 9)) (gd := none) (.int .i64 (k : Int)) (by rfl) (fun o ho => wanted_plain ho _) (by kernel_rfl) (by kernel_rfl) (by kernel_rfl) (fun _ _ _ h => h) (fun o ho W hW => by unfold execOp; simp only [ho]; go_simp) HS.out ?_
    simp only [Act.put, List.setIfInBounds_toArray, List.set_cons_zero, List.set_cons_succ]
    refine anyH_pureG 6 (d := 110) (op := .slice 22 (.tmp 108) (some (.tmp 109)) none none) (gd := none) (.slice (sld ba bc k) (n - k) (bc - k)) (by rfl) (fun o ho => wanted_plain ho _) (by kernel_rfl) (by kernel_rfl) (by kernel_rfl) (fun _ _ _ h => h) (fun o ho W hW => exec_dcut dtR (x := .tmp 108) (y := .tmp 109) ba n bc k (by omega) _ (by rfl) (by rfl) o ho W) HS.out ?_
    simp only [Act.put, List.setIfInBounds_toArray, List.set_cons_zero, List.set_cons_succ]
    refine wpAnyH_all (rs := [3, 8, 9]) (by kernel_rfl) (by simp) ?_
    intro k hk; simp only [List.mem_cons, List.not_mem_nil, or_false] at hk; rcases hk with rfl | rfl | rfl
    · refine op_at 3 (d := some 107) (op := .call { callee := .value (.func 12), args := #[(.tmp 106)], argTypes := #[22] }) (by rfl) ?_
      intro o0 hod hoo
      refine wp_call_fn (R := _) hoo (vs := #[.slice ba k bc]) (by go_simp) (by go_simp) (HU.out w7.drew HS.out.1) ?_
      rintro e w59 ⟨rfl, hb⟩
      refine ⟨_, rfl, HS.out.step hb, ?_⟩
      rw [hod]
      have HS := Lib.hid (HS.out.step hb)
      clear hod hoo hb
      simp only [Act.put, List.setIfInBounds_toArray, List.set_cons_zero, List.set_cons_succ]
      refine wpAnyH_all (rs := [7, 8, 9]) (by kernel_rfl) (by simp) ?_
      intro k hk; simp only [List.mem_cons, List.not_mem_nil, or_false] at hk; rcases hk with rfl | rfl | rfl
      · refine op_at 7 (d := some 111) (op := .call { callee := .value (.func 12), args := #[(.tmp 110)], argTypes := #[22] }) (by rfl) ?_
        intro o0 hod hoo
        refine wp_call_fn (R := _) hoo (vs := #[.slice (sld ba bc k) (n - k) (bc - k)]) (by go_simp) (by go_simp) (HV.out w59 HS.out.1) ?_
        rintro e w60 ⟨rfl, hb⟩
        refine ⟨_, rfl, HS.out.step hb, ?_⟩
        rw [hod]
        have HS := Lib.hid (HS.out.step hb)
        clear hod hoo hb
        simp only [Act.put, List.setIfInBounds_toArray, List.set_cons_zero, List.set_cons_succ]
        refine wpAnyH_all (rs := [8, 9]) (by kernel_rfl) (by simp) ?_
        intro k hk; simp only [List.mem_cons, List.not_mem_nil, or_false] at hk; rcases hk with rfl | rfl
        · refine op_at 8 (d := some 16) (op := .alloc 31) (by rfl) ?_
          intro o0 hod hoo
          refine wp_alloc_32 hoo ?_
          have hb : Below w60.heap.size w60 (w60.alloc (.cells (cellsOf zs32).toArray 31)) := (Below.refl _ _).alloc (Nat.le_refl _) _
          refine ⟨HS.out.step hb, ?_⟩
          rw [hod]
          obtain ⟨g16, hg16⟩ : ∃ g, g = w60.heap.size := ⟨_, rfl⟩
          rw [← hg16]
          refine gen_anyH (F := fun W => Brow W g16 31 zs32 ∧ SB w B1 [(g10, s)] g12 CX W) ⟨(by rw [hg16]; exact heap_new _ _), (HS.out.step hb)⟩ ?_
          have hNg16 : B1 ≤ g16 := by have := HS.out.2.2.1; omega
          rintro w61 ⟨ha, hs⟩
          clear hg16 hb hod hoo HS
          have H16 := Lib.hid ha
          have HS := Lib.hid hs
          clear ha hs
          simp only [Act.put, List.setIfInBounds_toArray, List.set_cons_zero, List.set_cons_succ]
          refine wpAnyH_all (rs := [9]) (by kernel_rfl) (by simp) ?_
          intro k hk; simp only [List.mem_cons, List.not_mem_nil, or_false] at hk; subst hk
          refine op_at 9 (d := some 17) (op := .alloc 31) (by rfl) ?_
          intro o0 hod hoo
          refine wp_alloc_32 hoo ?_
          have hb : Below w61.heap.size w61 (w61.alloc (.cells (cellsOf zs32).toArray 31)) := (Below.refl _ _).alloc (Nat.le_refl _) _
          refine ⟨HS.out.step hb, ?_⟩
          rw [hod]
          obtain ⟨g17, hg17⟩ : ∃ g, g = w61.heap.size := ⟨_, rfl⟩
          rw [← hg17]
          refine gen_anyH (F := fun W => Brow W g17 31 zs32 ∧ SB w B1 [(g10, s)] g12 CX W ∧ Brow W g16 31 zs32) ⟨(by rw [hg17]; exact heap_new _ _), (HS.out.step hb), (H16.out.below hb H16.out.lt)⟩ ?_
          have hneg16 : g16 ≠ g17 := by have := H16.out.lt; omega
          have hNg17 : B1 ≤ g17 := by have := HS.out.2.2.1; omega
          rintro w62 ⟨ha, hs, hH16⟩
          clear hg17 hb hod hoo HS
          have H17 := Lib.hid ha
          have HS := Lib.hid hs
          have H16 := Lib.hid hH16
          clear ha hs hH16
          simp only [Act.put, List.setIfInBounds_toArray, List.set_cons_zero, List.set_cons_succ]
          have hdd : g16 ≠ g17 := by first | assumption | (intro h; exact absurd h.symm (by assumption))
          refine wpAnyH_all (rs := [10]) (by kernel_rfl) (by simp) ?_
          intro k hk; simp only [List.mem_cons, List.not_mem_nil, or_false] at hk; subst hk
          refine op_at 10 (d := none) (op := .store 31 (.tmp 16) (.tmp 107)) (by rfl) ?_
          intro o0 hod hoo
          refine wp_store_mid 31 (.tmp 16) (.tmp 107) hoo g16 0 (cellsOf U).toArray (by rfl) (by rfl) (H16.out.there _ (by rw [cellsOf_size, HUD.out.1]; first | rfl | exact HUD.out.1.symm | exact HVD.out.1.symm | (rw [cellsOf_size]; first | exact HUD.out.1.symm | exact HVD.out.1.symm))) (info32 dtR HUD.out) (cellsOf_all _) ?_
          rw [hod, List.toList_toArray]
          have ho : Only g16 w62 (w62.setCells g16 0 (cellsOf U)) := Only.setCells (cellsOf U) 0 (Only.refl _ _)
          refine ⟨HS.out.only ho hNg16, ?_⟩
          refine gen_anyH (F := fun W => SB w B1 [(g10, s)] g12 CX W ∧ Brow W g16 31 U ∧ Brow W g17 31 zs32) ⟨HS.out.only ho hNg16, H16.out.setAll (by rw [HUD.out.1]; first | rfl | exact HUD.out.1.symm), H17.out.only ho (Ne.symm hdd)⟩ ?_
          rintro w63 ⟨hs, ha, hb⟩
          clear hod hoo ho HS H16 H17
          have HS := Lib.hid hs
          have H16 := Lib.hid ha
          have H17 := Lib.hid hb
          clear hs ha hb
          simp only [Act.put]
          refine wpAnyH_all (rs := [11]) (by kernel_rfl) (by simp) ?_
          intro k hk; simp only [List.mem_cons, List.not_mem_nil, or_false] at hk; subst hk
          refine op_at 11 (d := none) (op := .store 31 (.tmp 17) (.tmp 111)) (by rfl) ?_
          intro o0 hod hoo
          refine wp_store_mid 31 (.tmp 17) (.tmp 111) hoo g17 0 (cellsOf V).toArray (by rfl) (by rfl) (H17.out.there _ (by rw [cellsOf_size, HVD.out.1]; first | rfl | exact HUD.out.1.symm | exact HVD.out.1.symm | (rw [cellsOf_size]; first | exact HUD.out.1.symm | exact HVD.out.1.symm))) (info32 dtR HVD.out) (cellsOf_all _) ?_
          rw [hod, List.toList_toArray]
          have ho : Only g17 w63 (w63.setCells g17 0 (cellsOf V)) := Only.setCells (cellsOf V) 0 (Only.refl _ _)
          refine ⟨HS.out.only ho hNg17, ?_⟩
          refine gen_anyH (F := fun W => SB w B1 [(g10, s)] g12 CX W ∧ Brow W g16 31 U ∧ Brow W g17 31 V) ⟨HS.out.only ho hNg17, H16.out.only ho hdd, H17.out.setAll (by rw [HVD.out.1]; first | rfl | exact HVD.out.1.symm)⟩ ?_
          intro w64 hf
          have HF := Lib.hid hf
          clear hod hoo ho hf HS H16 H17
          simp only [Act.put]
          refine wpAnyH_done (by kernel_rfl) ?_ _
          go_wp2_with fail
          go_meet
          exact ⟨g16, g17, rfl, rfl, ⟨hNg16, hNg17, hdd⟩, HF⟩
        · refine op_at 9 (d := some 17) (op := .alloc 31) (by rfl) ?_
          intro o0 hod hoo
          refine wp_alloc_32 hoo ?_
          have hb : Below w60.heap.size w60 (w60.alloc (.cells (cellsOf zs32).toArray 31)) := (Below.refl _ _).alloc (Nat.le_refl _) _
          refine ⟨HS.out.step hb, ?_⟩
          rw [hod]
          obtain ⟨g17, hg17⟩ : ∃ g, g = w60.heap.size := ⟨_, rfl⟩
          rw [← hg17]
          refine gen_anyH (F := fun W => Brow W g17 31 zs32 ∧ SB w B1 [(g10, s)] g12 CX W) ⟨(by rw [hg17]; exact heap_new _ _), (HS.out.step hb)⟩ ?_
          have hNg17 : B1 ≤ g17 := by have := HS.out.2.2.1; omega
          rintro w65 ⟨ha, hs⟩
          clear hg17 hb hod hoo HS
          have H17 := Lib.hid ha
          have HS := Lib.hid hs
          clear ha hs
          simp only [Act.put, List.setIfInBounds_toArray, List.set_cons_zero, List.set_cons_succ]
          refine wpAnyH_all (rs := [8]) (by kernel_rfl) (by simp) ?_
          intro k hk; simp only [List.mem_cons, List.not_mem_nil, or_false] at hk; subst hk
          refine op_at 8 (d := some 16) (op := .alloc 31) (by rfl) ?_
          intro o0 hod hoo
          refine wp_alloc_32 hoo ?_
          have hb : Below w65.heap.size w65 (w65.alloc (.cells (cellsOf zs32).toArray 31)) := (Below.refl _ _).alloc (Nat.le_refl _) _
          refine ⟨HS.out.step hb, ?_⟩
          rw [hod]
          obtain ⟨g16, hg16⟩ : ∃ g, g = w65.heap.size := ⟨_, rfl⟩
          rw [← hg16]
          refine gen_anyH (F := fun W => Brow W g16 31 zs32 ∧ SB w B1 [(g10, s)] g12 CX W ∧ Brow W g17 31 zs32) ⟨(by rw [hg16]; exact heap_new _ _), (HS.out.step hb), (H17.out.below hb H17.out.lt)⟩ ?_
          have hneg17 : g17 ≠ g16 := by have := H17.out.lt; omega
          have hNg16 : B1 ≤ g16 := by have := HS.out.2.2.1; omega
          rintro w66 ⟨ha, hs, hH17⟩
          clear hg16 hb hod hoo HS
          have H16 := Lib.hid ha
          have HS := Lib.hid hs
          have H17 := Lib.hid hH17
          clear ha hs hH17
          simp only [Act.put, List.setIfInBounds_toArray, List.set_cons_zero, List.set_cons_succ]
          have hdd : g16 ≠ g17 := by first | assumption | (intro h; exact absurd h.symm (by assumption))
          refine wpAnyH_all (rs := [10]) (by kernel_rfl) (by simp) ?_
          intro k hk; simp only [List.mem_cons, List.not_mem_nil, or_false] at hk; subst hk
          refine op_at 10 (d := none) (op := .store 31 (.tmp 16) (.tmp 107)) (by rfl) ?_
          intro o0 hod hoo
          refine wp_store_mid 31 (.tmp 16) (.tmp 107) hoo g16 0 (cellsOf U).toArray (by rfl) (by rfl) (H16.out.there _ (by rw [cellsOf_size, HUD.out.1]; first | rfl | exact HUD.out.1.symm | exact HVD.out.1.symm | (rw [cellsOf_size]; first | exact HUD.out.1.symm | exact HVD.out.1.symm))) (info32 dtR HUD.out) (cellsOf_all _) ?_
          rw [hod, List.toList_toArray]
          have ho : Only g16 w66 (w66.setCells g16 0 (cellsOf U)) := Only.setCells (cellsOf U) 0 (Only.refl _ _)
          refine ⟨HS.out.only ho hNg16, ?_⟩
          refine gen_anyH (F := fun W => SB w B1 [(g10, s)] g12 CX W ∧ Brow W g16 31 U ∧ Brow W g17 31 zs32) ⟨HS.out.only ho hNg16, H16.out.setAll (by rw [HUD.out.1]; first | rfl | exact HUD.out.1.symm), H17.out.only ho (Ne.symm hdd)⟩ ?_
          rintro w67 ⟨hs, ha, hb⟩
          clear hod hoo ho HS H16 H17
          have HS := Lib.hid hs
          have H16 := Lib.hid ha
          have H17 := Lib.hid hb
          clear hs ha hb
          simp only [Act.put]
          refine wpAnyH_all (rs := [11]) (by kernel_rfl) (by simp) ?_
          intro k hk; simp only [List.mem_cons, List.not_mem_nil, or_false] at hk; subst hk
          refine op_at 11 (d := none) (op := .store 31 (.tmp 17) (.tmp 111)) (by rfl) ?_
          intro o0 hod hoo
          refine wp_store_mid 31 (.tmp 17) (.tmp 111) hoo g17 0 (cellsOf V).toArray (by rfl) (by rfl) (H17.out.there _ (by rw [cellsOf_size, HVD.out.1]; first | rfl | exact HUD.out.1.symm | exact HVD.out.1.symm | (rw [cellsOf_size]; first | exact HUD.out.1.symm | exact HVD.out.1.symm))) (info32 dtR HVD.out) (cellsOf_all _) ?_
          rw [hod, List.toList_toArray]
          have ho : Only g17 w67 (w67.setCells g17 0 (cellsOf V)) := Only.setCells (cellsOf V) 0 (Only.refl _ _)
          refine ⟨HS.out.only ho hNg17, ?_⟩
          refine gen_anyH (F := fun W => SB w B1 [(g10, s)] g12 CX W ∧ Brow W g16 31 U ∧ Brow W g17 31 V) ⟨HS.out.only ho hNg17, H16.out.only ho hdd, H17.out.setAll (by rw [HVD.out.1]; first | rfl | exact HVD.out.1.symm)⟩ ?_
          intro w68 hf
          have HF := Lib.hid hf
          clear hod hoo ho hf HS H16 H17
          simp only [Act.put]
          refine wpAnyH_done (by kernel_rfl) ?_ _
          go_wp2_with fail
          go_meet
          exact ⟨g16, g17, rfl, rfl, ⟨hNg16, hNg17, hdd⟩, HF⟩
      · refine op_at 8 (d := some 16) (op := .alloc 31) (by rfl) ?_
        intro o0 hod hoo
        refine wp_alloc_32 hoo ?_
        have hb : Below w59.heap.size w59 (w59.alloc (.cells (cellsOf zs32).toArray 31)) := (Below.refl _ _).alloc (Nat.le_refl _) _
        refine ⟨HS.out.step hb, ?_⟩
        rw [hod]
        obtain ⟨g16, hg16⟩ : ∃ g, g = w59.heap.size := ⟨_, rfl⟩
        rw [← hg16]
        refine gen_anyH (F := fun W => Brow W g16 31 zs32 ∧ SB w B1 [(g10, s)] g12 CX W) ⟨(by rw [hg16]; exact heap_new _ _), (HS.out.step hb)⟩ ?_
        have hNg16 : B1 ≤ g16 := by have := HS.out.2.2.1; omega
        rintro w69 ⟨ha, hs⟩
        clear hg16 hb hod hoo HS
        have H16 := Lib.hid ha
        have HS := Lib.hid hs
        clear ha hs
        simp only [Act.put, List.setIfInBounds_toArray, List.set_cons_zero, List.set_cons_succ]
        refine wpAnyH_all (rs := [7, 9]) (by kernel_rfl) (by simp) ?_
        intro k hk; simp only [List.mem_cons, List.not_mem_nil, or_false] at hk; rcases hk with rfl | rfl
        · refine op_at 7 (d := some 111) (op := .call { callee := .value (.func 12), args := #[(.tmp 110)], argTypes := #[22] }) (by rfl) ?_
          intro o0 hod hoo
          refine wp_call_fn (R := _) hoo (vs := #[.slice (sld ba bc k) (n - k) (bc - k)]) (by go_simp) (by go_simp) (HV.out w69 HS.out.1) ?_
          rintro e w70 ⟨rfl, hb⟩
          refine ⟨_, rfl, HS.out.step hb, ?_⟩
          rw [hod]
          have H16 := Lib.hid (H16.out.below hb H16.out.lt)
          have HS := Lib.hid (HS.out.step hb)
          clear hod hoo hb
          simp only [Act.put, List.setIfInBounds_toArray, List.set_cons_zero, List.set_cons_succ]
          refine wpAnyH_all (rs := [9]) (by kernel_rfl) (by simp) ?_
          intro k hk; simp only [List.mem_cons, List.not_mem_nil, or_false] at hk; subst hk
          refine op_at 9 (d := some 17) (op := .alloc 31) (by rfl) ?_
          intro o0 hod hoo
          refine wp_alloc_32 hoo ?_
          have hb : Below w70.heap.size w70 (w70.alloc (.cells (cellsOf zs32).toArray 31)) := (Below.refl _ _).alloc (Nat.le_refl _) _
          refine ⟨HS.out.step hb, ?_⟩
          rw [hod]
          obtain ⟨g17, hg17⟩ : ∃ g, g = w70.heap.size := ⟨_, rfl⟩
          rw [← hg17]
          refine gen_anyH (F := fun W => Brow W g17 31 zs32 ∧ SB w B1 [(g10, s)] g12 CX W ∧ Brow W g16 31 zs32) ⟨(by rw [hg17]; exact heap_new _ _), (HS.out.step hb), (H16.out.below hb H16.out.lt)⟩ ?_
          have hneg16 : g16 ≠ g17 := by have := H16.out.lt; omega
          have hNg17 : B1 ≤ g17 := by have := HS.out.2.2.1; omega
          rintro w71 ⟨ha, hs, hH16⟩
          clear hg17 hb hod hoo HS
          have H17 := Lib.hid ha
          have HS := Lib.hid hs
          have H16 := Lib.hid hH16
          clear ha hs hH16
          simp only [Act.put, List.setIfInBounds_toArray, List.set_cons_zero, List.set_cons_succ]
          have hdd : g16 ≠ g17 := by first | assumption | (intro h; exact absurd h.symm (by assumption))
          refine wpAnyH_all (rs := [10]) (by kernel_rfl) (by simp) ?_
          intro k hk; simp only [List.mem_cons, List.not_mem_nil, or_false] at hk; subst hk
          refine op_at 10 (d := none) (op := .store 31 (.tmp 16) (.tmp 107)) (by rfl) ?_
          intro o0 hod hoo
          refine wp_store_mid 31 (.tmp 16) (.tmp 107) hoo g16 0 (cellsOf U).toArray (by rfl) (by rfl) (H16.out.there _ (by rw [cellsOf_size, HUD.out.1]; first | rfl | exact HUD.out.1.symm | exact HVD.out.1.symm | (rw [cellsOf_size]; first | exact HUD.out.1.symm | exact HVD.out.1.symm))) (info32 dtR HUD.out) (cellsOf_all _) ?_
          rw [hod, List.toList_toArray]
          have ho : Only g16 w71 (w71.setCells g16 0 (cellsOf U)) := Only.setCells (cellsOf U) 0 (Only.refl _ _)
          refine ⟨HS.out.only ho hNg16, ?_⟩
          refine gen_anyH (F := fun W => SB w B1 [(g10, s)] g12 CX W ∧ Brow W g16 31 U ∧ Brow W g17 31 zs32) ⟨HS.out.only ho hNg16, H16.out.setAll (by rw [HUD.out.1]; first | rfl | exact HUD.out.1.symm), H17.out.only ho (Ne.symm hdd)⟩ ?_
          rintro w72 ⟨hs, ha, hb⟩
          clear hod hoo ho HS H16 H17
          have HS := Lib.hid hs
          have H16 := Lib.hid ha
          have H17 := Lib.hid hb
          clear hs ha hb
          simp only [Act.put]
          refine wpAnyH_all (rs := [11]) (by kernel_rfl) (by simp) ?_
          intro k hk; simp only [List.mem_cons, List.not_mem_nil, or_false] at hk; subst hk
          refine op_at 11 (d := none) (op := .store 31 (.tmp 17) (.tmp 111)) (by rfl) ?_
          intro o0 hod hoo
          refine wp_store_mid 31 (.tmp 17) (.tmp 111) hoo g17 0 (cellsOf V).toArray (by rfl) (by rfl) (H17.out.there _ (by rw [cellsOf_size, HVD.out.1]; first | rfl | exact HUD.out.1.symm | exact HVD.out.1.symm | (rw [cellsOf_size]; first | exact HUD.out.1.symm | exact HVD.out.1.symm))) (info32 dtR HVD.out) (cellsOf_all _) ?_
          rw [hod, List.toList_toArray]
          have ho : Only g17 w72 (w72.setCells g17 0 (cellsOf V)) := Only.setCells (cellsOf V) 0 (Only.refl _ _)
          refine ⟨HS.out.only ho hNg17, ?_⟩
          refine gen_anyH (F := fun W => SB w B1 [(g10, s)] g12 CX W ∧ Brow W g16 31 U ∧ Brow W g17 31 V) ⟨HS.out.only ho hNg17, H16.out.only ho hdd, H17.out.setAll (by rw [HVD.out.1]; first | rfl | exact HVD.out.1.symm)⟩ ?_
          intro w73 hf
          have HF := Lib.hid hf
          clear hod hoo ho hf HS H16 H17
          simp only [Act.put]
          refine wpAnyH_done (by kernel_rfl) ?_ _
          go_wp2_with fail
          go_meet
          exact ⟨g16, g17, rfl, rfl, ⟨hNg16, hNg17, hdd⟩, HF⟩
        · refine op_at 9 (d := some 17) (op := .alloc 31) (by rfl) ?_
          intro o0 hod hoo
          refine wp_alloc_32 hoo ?_
          have hb : Below w69.heap.size w69 (w69.alloc (.cells (cellsOf zs32).toArray 31)) := (Below.refl _ _).alloc (Nat.le_refl _) _
          refine ⟨HS.out.step hb, ?_⟩
          rw [hod]
          obtain ⟨g17, hg17⟩ : ∃ g, g = w69.heap.size := ⟨_, rfl⟩
          rw [← hg17]
          refine gen_anyH (F := fun W => Brow W g17 31 zs32 ∧ SB w B1 [(g10, s)] g12 CX W ∧ Brow W g16 31 zs32) ⟨(by rw [hg17]; exact heap_new _ _), (HS.out.step hb), (H16.out.below hb H16.out.lt)⟩ ?_
          have hneg16 : g16 ≠ g17 := by have := H16.out.lt; omega
          have hNg17 : B1 ≤ g17 := by have := HS.out.2.2.1; omega
          rintro w74 ⟨ha, hs, hH16⟩
          clear hg17 hb hod hoo HS
          have H17 := Lib.hid ha
          have HS := Lib.hid hs
          have H16 := Lib.hid hH16
          clear ha hs hH16
          simp only [Act.put, List.setIfInBounds_toArray, List.set_cons_zero, List.set_cons_succ]
          refine wpAnyH_all (rs := [7]) (by kernel_rfl) (by simp) ?_
          intro k hk; simp only [List.mem_cons, List.not_mem_nil, or_false] at hk; subst hk
          refine op_at 7 (d := some 111) (op := .call { callee := .value (.func 12), args := #[(.tmp 110)], argTypes := #[22] }) (by rfl) ?_
          intro o0 hod hoo
          refine wp_call_fn (R := _) hoo (vs := #[.slice (sld ba bc k) (n - k) (bc - k)]) (by go_simp) (by go_simp) (HV.out w74 HS.out.1) ?_
          rintro e w75 ⟨rfl, hb⟩
          refine ⟨_, rfl, HS.out.step hb, ?_⟩
          rw [hod]
          have H16 := Lib.hid (H16.out.below hb H16.out.lt)
          have H17 := Lib.hid (H17.out.below hb H17.out.lt)
          have HS := Lib.hid (HS.out.step hb)
          clear hod hoo hb
          simp only [Act.put, List.setIfInBounds_toArray, List.set_cons_zero, List.set_cons_succ]
          have hdd : g16 ≠ g17 := by first | assumption | (intro h; exact absurd h.symm (by assumption))
          refine wpAnyH_all (rs := [10]) (by kernel_rfl) (by simp) ?_
          intro k hk; simp only [List.mem_cons, List.not_mem_nil, or_false] at hk; subst hk
          refine op_at 10 (d := none) (op := .store 31 (.tmp 16) (.tmp 107)) (by rfl) ?_
          intro o0 hod hoo
          refine wp_store_mid 31 (.tmp 16) (.tmp 107) hoo g16 0 (cellsOf U).toArray (by rfl) (by rfl) (H16.out.there _ (by rw [cellsOf_size, HUD.out.1]; first | rfl | exact HUD.out.1.symm | exact HVD.out.1.symm | (rw [cellsOf_size]; first | exact HUD.out.1.symm | exact HVD.out.1.symm))) (info32 dtR HUD.out) (cellsOf_all _) ?_
          rw [hod, List.toList_toArray]
          have ho : Only g16 w75 (w75.setCells g16 0 (cellsOf U)) := Only.setCells (cellsOf U) 0 (Only.refl _ _)
          refine ⟨HS.out.only ho hNg16, ?_⟩
          refine gen_anyH (F := fun W => SB w B1 [(g10, s)] g12 CX W ∧ Brow W g16 31 U ∧ Brow W g17 31 zs32) ⟨HS.out.only ho hNg16, H16.out.setAll (by rw [HUD.out.1]; first | rfl | exact HUD.out.1.symm), H17.out.only ho (Ne.symm hdd)⟩ ?_
          rintro w76 ⟨hs, ha, hb⟩
          clear hod hoo ho HS H16 H17
          have HS := Lib.hid hs
          have H16 := Lib.hid ha
          have H17 := Lib.hid hb
          clear hs ha hb
          simp only [Act.put]
          refine wpAnyH_all (rs := [11]) (by kernel_rfl) (by simp) ?_
          intro k hk; simp only [List.mem_cons, List.not_mem_nil, or_false] at hk; subst hk
          refine op_at 11 (d := none) (op := .store 31 (.tmp 17) (.tmp 111)) (by rfl) ?_
          intro o0 hod hoo
          refine wp_store_mid 31 (.tmp 17) (.tmp 111) hoo g17 0 (cellsOf V).toArray (by rfl) (by rfl) (H17.out.there _ (by rw [cellsOf_size, HVD.out.1]; first | rfl | exact HUD.out.1.symm | exact HVD.out.1.symm | (rw [cellsOf_size]; first | exact HUD.out.1.symm | exact HVD.out.1.symm))) (info32 dtR HVD.out) (cellsOf_all _) ?_
          rw [hod, List.toList_toArray]
          have ho : Only g17 w76 (w76.setCells g17 0 (cellsOf V)) := Only.setCells (cellsOf V) 0 (Only.refl _ _)
          refine ⟨HS.out.only ho hNg17, ?_⟩
          refine gen_anyH (F := fun W => SB w B1 [(g10, s)] g12 CX W ∧ Brow W g16 31 U ∧ Brow W g17 31 V) ⟨HS.out.only ho hNg17, H16.out.only ho hdd, H17.out.setAll (by rw [HVD.out.1]; first | rfl | exact HVD.out.1.symm)⟩ ?_
          intro w77 hf
          have HF := Lib.hid hf
          clear hod hoo ho hf HS H16 H17
          simp only [Act.put]
          refine wpAnyH_done (by kernel_rfl) ?_ _
          go_wp2_with fail
          go_meet
          exact ⟨g16, g17, rfl, rfl, ⟨hNg16, hNg17, hdd⟩, HF⟩
      · refine op_at 9 (d := some 17) (op := .alloc 31) (by rfl) ?_
        intro o0 hod hoo
        refine wp_alloc_32 hoo ?_
        have hb : Below w59.heap.size w59 (w59.alloc (.cells (cellsOf zs32).toArray 31)) := (Below.refl _ _).alloc (Nat.le_refl _) _
        refine ⟨HS.out.step hb, ?_⟩
        rw [hod]
        obtain ⟨g17, hg17⟩ : ∃ g, g = w59.heap.size := ⟨_, rfl⟩
        rw [← hg17]
        refine gen_anyH (F := fun W => Brow W g17 31 zs32 ∧ SB w B1 [(g10, s)] g12 CX W) ⟨(by rw [hg17]; exact heap_new _ _), (HS.out.step hb)⟩ ?_
        have hNg17 : B1 ≤ g17 := by have := HS.out.2.2.1; omega
        rintro w78 ⟨ha, hs⟩
        clear hg17 hb hod hoo HS
        have H17 := Lib.hid ha
        have HS := Lib.hid hs
        clear ha hs
        simp only [Act.put, List.setIfInBounds_toArray, List.set_cons_zero, List.set_cons_succ]
        refine wpAnyH_all (rs := [7, 8]) (by kernel_rfl) (by simp) ?_
        intro k hk; simp only [List.mem_cons, List.not_mem_nil, or_false] at hk; rcases hk with rfl | rfl
        · refine op_at 7 (d := some 111) (op := .call { callee := .value (.func 12), args := #[(.tmp 110)], argTypes := #[22] }) (by rfl) ?_
          intro o0 hod hoo
          refine wp_call_fn (R := _) hoo (vs := #[.slice (sld ba bc k) (n - k) (bc - k)]) (by go_simp) (by go_simp) (HV.out w78 HS.out.1) ?_
          rintro e w79 ⟨rfl, hb⟩
          refine ⟨_, rfl, HS.out.step hb, ?_⟩
          rw [hod]
          have H17 := Lib.hid (H17.out.below hb H17.out.lt)
          have HS := Lib.hid (HS.out.step hb)
          clear hod hoo hb
          simp only [Act.put, List.setIfInBounds_toArray, List.set_cons_zero, List.set_cons_succ]
          refine wpAnyH_all (rs := [8]) (by kernel_rfl) (by simp) ?_
          intro k hk; simp only [List.mem_cons, List.not_mem_nil, or_false] at hk; subst hk
          refine op_at 8 (d := some 16) (op := .alloc 31) (by rfl) ?_
          intro o0 hod hoo
          refine wp_alloc_32 hoo ?_
          have hb : Below w79.heap.size w79 (w79.alloc (.cells (cellsOf zs32).toArray 31)) := (Below.refl _ _).alloc (Nat.le_refl _) _
          refine ⟨HS.out.step hb, ?_⟩
          rw [hod]
          obtain ⟨g16, hg16⟩ : ∃ g, g = w79.heap.size := ⟨_, rfl⟩
          rw [← hg16]
          refine gen_anyH (F := fun W => Brow W g16 31 zs32 ∧ SB w B1 [(g10, s)] g12 CX W ∧ Brow W g17 31 zs32) ⟨(by rw [hg16]; exact heap_new _ _), (HS.out.step hb), (H17.out.below hb H17.out.lt)⟩ ?_
          have hneg17 : g17 ≠ g16 := by have := H17.out.lt; omega
          have hNg16 : B1 ≤ g16 := by have := HS.out.2.2.1; omega
          rintro w80 ⟨ha, hs, hH17⟩
          clear hg16 hb hod hoo HS
          have H16 := Lib.hid ha
          have HS := Lib.hid hs
          have H17 := Lib.hid hH17
          clear ha hs hH17
          simp only [Act.put, List.setIfInBounds_toArray, List.set_cons_zero, List.set_cons_succ]
          have hdd : g16 ≠ g17 := by first | assumption | (intro h; exact absurd h.symm (by assumption))
          refine wpAnyH_all (rs := [10]) (by kernel_rfl) (by simp) ?_
          intro k hk; simp only [List.mem_cons, List.not_mem_nil, or_false] at hk; subst hk
          refine op_at 10 (d := none) (op := .store 31 (.tmp 16) (.tmp 107)) (by rfl) ?_
          intro o0 hod hoo
          refine wp_store_mid 31 (.tmp 16) (.tmp 107) hoo g16 0 (cellsOf U).toArray (by rfl) (by rfl) (H16.out.there _ (by rw [cellsOf_size, HUD.out.1]; first | rfl | exact HUD.out.1.symm | exact HVD.out.1.symm | (rw [cellsOf_size]; first | exact HUD.out.1.symm | exact HVD.out.1.symm))) (info32 dtR HUD.out) (cellsOf_all _) ?_
          rw [hod, List.toList_toArray]
          have ho : Only g16 w80 (w80.setCells g16 0 (cellsOf U)) := Only.setCells (cellsOf U) 0 (Only.refl _ _)
          refine ⟨HS.out.only ho hNg16, ?_⟩
          refine gen_anyH (F := fun W => SB w B1 [(g10, s)] g12 CX W ∧ Brow W g16 31 U ∧ Brow W g17 31 zs32) ⟨HS.out.only ho hNg16, H16.out.setAll (by rw [HUD.out.1]; first | rfl | exact HUD.out.1.symm), H17.out.only ho (Ne.symm hdd)⟩ ?_
          rintro w81 ⟨hs, ha, hb⟩
          clear hod hoo ho HS H16 H17
          have HS := Lib.hid hs
          have H16 := Lib.hid ha
          have H17 := Lib.hid hb
          clear hs ha hb
          simp only [Act.put]
          refine wpAnyH_all (rs := [11]) (by kernel_rfl) (by simp) ?_
          intro k hk; simp only [List.mem_cons, List.not_mem_nil, or_false] at hk; subst hk
          refine op_at 11 (d := none) (op := .store 31 (.tmp 17) (.tmp 111)) (by rfl) ?_
          intro o0 hod hoo
          refine wp_store_mid 31 (.tmp 17) (.tmp 111) hoo g17 0 (cellsOf V).toArray (by rfl) (by rfl) (H17.out.there _ (by rw [cellsOf_size, HVD.out.1]; first | rfl | exact HUD.out.1.symm | exact HVD.out.1.symm | (rw [cellsOf_size]; first | exact HUD.out.1.symm | exact HVD.out.1.symm))) (info32 dtR HVD.out) (cellsOf_all _) ?_
          rw [hod, List.toList_toArray]
          have ho : Only g17 w81 (w81.setCells g17 0 (cellsOf V)) := Only.setCells (cellsOf V) 0 (Only.refl _ _)
          refine ⟨HS.out.only ho hNg17, ?_⟩
          refine gen_anyH (F := fun W => SB w B1 [(g10, s)] g12 CX W ∧ Brow W g16 31 U ∧ Brow W g17 31 V) ⟨HS.out.only ho hNg17, H16.out.only ho hdd, H17.out.setAll (by rw [HVD.out.1]; first | rfl | exact HVD.out.1.symm)⟩ ?_
          intro w82 hf
          have HF := Lib.hid hf
          clear hod hoo ho hf HS H16 H17
          simp only [Act.put]
          refine wpAnyH_done (by kernel_rfl) ?_ _
          go_wp2_with fail
          go_meet
          exact ⟨g16, g17, rfl, rfl, ⟨hNg16, hNg17, hdd⟩, HF⟩
        · refine op_at 8 (d := some 16) (op := .alloc 31) (by rfl) ?_
          intro o0 hod hoo
          refine wp_alloc_32 hoo ?_
          have hb : Below w78.heap.size w78 (w78.alloc (.cells (cellsOf zs32).toArray 31)) := (Below.refl _ _).alloc (Nat.le_refl _) _
          refine ⟨HS.out.step hb, ?_⟩
          rw [hod]
          obtain ⟨g16, hg16⟩ : ∃ g, g = w78.heap.size := ⟨_, rfl⟩
          rw [← hg16]
          refine gen_anyH (F := fun W => Brow W g16 31 zs32 ∧ SB w B1 [(g10, s)] g12 CX W ∧ Brow W g17 31 zs32) ⟨(by rw [hg16]; exact heap_new _ _), (HS.out.step hb), (H17.out.below hb H17.out.lt)⟩ ?_
          have hneg17 : g17 ≠ g16 := by have := H17.out.lt; omega
          have hNg16 : B1 ≤ g16 := by have := HS.out.2.2.1; omega
          rintro w83 ⟨ha, hs, hH17⟩
          clear hg16 hb hod hoo HS
          have H16 := Lib.hid ha
          have HS := Lib.hid hs
          have H17 := Lib.hid hH17
          clear ha hs hH17
          simp only [Act.put, List.setIfInBounds_toArray, List.set_cons_zero, List.set_cons_succ]
          refine wpAnyH_all (rs := [7]) (by kernel_rfl) (by simp) ?_
          intro k hk; simp only [List.mem_cons, List.not_mem_nil, or_false] at hk; subst hk
          refine op_at 7 (d := some 111) (op := .call { callee := .value (.func 12), args := #[(.tmp 110)], argTypes := #[22] }) (by rfl) ?_
          intro o0 hod hoo
          refine wp_call_fn (R := _) hoo (vs := #[.slice (sld ba bc k) (n - k) (bc - k)]) (by go_simp) (by go_simp) (HV.out w83 HS.out.1) ?_
          rintro e w84 ⟨rfl, hb⟩
          refine ⟨_, rfl, HS.out.step hb, ?_⟩
          rw [hod]
          have H16 := Lib.hid (H16.out.below hb H16.out.lt)
          have H17 := Lib.hid (H17.out.below hb H17.out.lt)
          have HS := Lib.hid (HS.out.step hb)
          clear hod hoo hb
          simp only [Act.put, List.setIfInBounds_toArray, List.set_cons_zero, List.set_cons_succ]
          have hdd : g16 ≠ g17 := by first | assumption | (intro h; exact absurd h.symm (by assumption))
          refine wpAnyH_all (rs := [10]) (by kernel_rfl) (by simp) ?_
          intro k hk; simp only [List.mem_cons, List.not_mem_nil, or_false] at hk; subst hk
          refine op_at 10 (d := none) (op := .store 31 (.tmp 16) (.tmp 107)) (by rfl) ?_
          intro o0 hod hoo
          refine wp_store_mid 31 (.tmp 16) (.tmp 107) hoo g16 0 (cellsOf U).toArray (by rfl) (by rfl) (H16.out.there _ (by rw [cellsOf_size, HUD.out.1]; first | rfl | exact HUD.out.1.symm | exact HVD.out.1.symm | (rw [cellsOf_size]; first | exact HUD.out.1.symm | exact HVD.out.1.symm))) (info32 dtR HUD.out) (cellsOf_all _) ?_
          rw [hod, List.toList_toArray]
          have ho : Only g16 w84 (w84.setCells g16 0 (cellsOf U)) := Only.setCells (cellsOf U) 0 (Only.refl _ _)
          refine ⟨HS.out.only ho hNg16, ?_⟩
          refine gen_anyH (F := fun W => SB w B1 [(g10, s)] g12 CX W ∧ Brow W g16 31 U ∧ Brow W g17 31 zs32) ⟨HS.out.only ho hNg16, H16.out.setAll (by rw [HUD.out.1]; first | rfl | exact HUD.out.1.symm), H17.out.only ho (Ne.symm hdd)⟩ ?_
          rintro w85 ⟨hs, ha, hb⟩
          clear hod hoo ho HS H16 H17
          have HS := Lib.hid hs
          have H16 := Lib.hid ha
          have H17 := Lib.hid hb
          clear hs ha hb
          simp only [Act.put]
          refine wpAnyH_all (rs := [11]) (by kernel_rfl) (by simp) ?_
          intro k hk; simp only [List.mem_cons, List.not_mem_nil, or_false] at hk; subst hk
          refine op_at 11 (d := none) (op := .store 31 (.tmp 17) (.tmp 111)) (by rfl) ?_
          intro o0 hod hoo
          refine wp_store_mid 31 (.tmp 17) (.tmp 111) hoo g17 0 (cellsOf V).toArray (by rfl) (by rfl) (H17.out.there _ (by rw [cellsOf_size, HVD.out.1]; first | rfl | exact HUD.out.1.symm | exact HVD.out.1.symm | (rw [cellsOf_size]; first | exact HUD.out.1.symm | exact HVD.out.1.symm))) (info32 dtR HVD.out) (cellsOf_all _) ?_
          rw [hod, List.toList_toArray]
          have ho : Only g17 w85 (w85.setCells g17 0 (cellsOf V)) := Only.setCells (cellsOf V) 0 (Only.refl _ _)
          refine ⟨HS.out.only ho hNg17, ?_⟩
          refine gen_anyH (F := fun W => SB w B1 [(g10, s)] g12 CX W ∧ Brow W g16 31 U ∧ Brow W g17 31 V) ⟨HS.out.only ho hNg17, H16.out.only ho hdd, H17.out.setAll (by rw [HVD.out.1]; first | rfl | exact HVD.out.1.symm)⟩ ?_
          intro w86 hf
          have HF := Lib.hid hf
          clear hod hoo ho hf HS H16 H17
          simp only [Act.put]
          refine wpAnyH_done (by kernel_rfl) ?_ _
          go_wp2_with fail
          go_meet
          exact ⟨g16, g17, rfl, rfl, ⟨hNg16, hNg17, hdd⟩, HF⟩
    · refine op_at 8 (d := some 16) (op := .alloc 31) (by rfl) ?_
      intro o0 hod hoo
      refine wp_alloc_32 hoo ?_
      have hb : Below w7.drew.heap.size w7.drew (w7.drew.alloc (.cells (cellsOf zs32).toArray 31)) := (Below.refl _ _).alloc (Nat.le_refl _) _
      refine ⟨HS.out.step hb, ?_⟩
      rw [hod]
      obtain ⟨g16, hg16⟩ : ∃ g, g = w7.drew.heap.size := ⟨_, rfl⟩
      rw [← hg16]
      refine gen_anyH (F := fun W => Brow W g16 31 zs32 ∧ SB w B1 [(g10, s)] g12 CX W) ⟨(by rw [hg16]; exact heap_new _ _), (HS.out.step hb)⟩ ?_
      have hNg16 : B1 ≤ g16 := by have := HS.out.2.2.1; omega
      rintro w87 ⟨ha, hs⟩
      clear hg16 hb hod hoo HS
      have H16 := Lib.hid ha
      have HS := Lib.hid hs
      clear ha hs
      simp only [Act.put, List.setIfInBounds_toArray, List.set_cons_zero, List.set_cons_succ]
      refine wpAnyH_all (rs := [3, 9]) (by kernel_rfl) (by simp) ?_
      intro k hk; simp only [List.mem_cons, List.not_mem_nil, or_false] at hk; rcases hk with rfl | rfl
      · refine op_at 3 (d := some 107) (op := .call { callee := .value (.func 12), args := #[(.tmp 106)], argTypes := #[22] }) (by rfl) ?_
        intro o0 hod hoo
        refine wp_call_fn (R := _) hoo (vs := #[.slice ba k bc]) (by go_simp) (by go_simp) (HU.out w87 HS.out.1) ?_
        rintro e w88 ⟨rfl, hb⟩
        refine ⟨_, rfl, HS.out.step hb, ?_⟩
        rw [hod]
        have H16 := Lib.hid (H16.out.below hb H16.out.lt)
        have HS := Lib.hid (HS.out.step hb)
        clear hod hoo hb
        simp only [Act.put, List.setIfInBounds_toArray, List.set_cons_zero, List.set_cons_succ]
        refine wpAnyH_all (rs := [7, 9]) (by kernel_rfl) (by simp) ?_
        intro k hk; simp only [List.mem_cons, List.not_mem_nil, or_false] at hk; rcases hk with rfl | rfl
        · refine op_at 7 (d := some 111) (op := .call { callee := .value (.func 12), args := #[(.tmp 110)], argTypes := #[22] }) (by rfl) ?_
          intro o0 hod hoo
          refine wp_call_fn (R := _) hoo (vs := #[.slice (sld ba bc k) (n - k) (bc - k)]) (by go_simp) (by go_simp) (HV.out w88 HS.out.1) ?_
          rintro e w89 ⟨rfl, hb⟩
          refine ⟨_, rfl, HS.out.step hb, ?_⟩
          rw [hod]
          have H16 := Lib.hid (H16.out.below hb H16.out.lt)
          have HS := Lib.hid (HS.out.step hb)
          clear hod hoo hb
          simp only [Act.put, List.setIfInBounds_toArray, List.set_cons_zero, List.set_cons_succ]
          refine wpAnyH_all (rs := [9]) (by kernel_rfl) (by simp) ?_
          intro k hk; simp only [List.mem_cons, List.not_mem_nil, or_false] at hk; subst hk
          refine op_at 9 (d := some 17) (op := .alloc 31) (by rfl) ?_
          intro o0 hod hoo
          refine wp_alloc_32 hoo ?_
          have hb : Below w89.heap.size w89 (w89.alloc (.cells (cellsOf zs32).toArray 31)) := (Below.refl _ _).alloc (Nat.le_refl _) _
          refine ⟨HS.out.step hb, ?_⟩
          rw [hod]
          obtain ⟨g17, hg17⟩ : ∃ g, g = w89.heap.size := ⟨_, rfl⟩
          rw [← hg17]
          refine gen_anyH (F := fun W => Brow W g17 31 zs32 ∧ SB w B1 [(g10, s)] g12 CX W ∧ Brow W g16 31 zs32) ⟨(by rw [hg17]; exact heap_new _ _), (HS.out.step hb), (H16.out.below hb H16.out.lt)⟩ ?_
          have hneg16 : g16 ≠ g17 := by have := H16.out.lt; omega
          have hNg17 : B1 ≤ g17 := by have := HS.out.2.2.1; omega
          rintro w90 ⟨ha, hs, hH16⟩
          clear hg17 hb hod hoo HS
          have H17 := Lib.hid ha
          have HS := Lib.hid hs
          have H16 := Lib.hid hH16
          clear ha hs hH16
          simp only [Act.put, List.setIfInBounds_toArray, List.set_cons_zero, List.set_cons_succ]
          have hdd : g16 ≠ g17 := by first | assumption | (intro h; exact absurd h.symm (by assumption))
          refine wpAnyH_all (rs := [10]) (by kernel_rfl) (by simp) ?_
          intro k hk; simp only [List.mem_cons, List.not_mem_nil, or_false] at hk; subst hk
          refine op_at 10 (d := none) (op := .store 31 (.tmp 16) (.tmp 107)) (by rfl) ?_
          intro o0 hod hoo
          refine wp_store_mid 31 (.tmp 16) (.tmp 107) hoo g16 0 (cellsOf U).toArray (by rfl) (by rfl) (H16.out.there _ (by rw [cellsOf_size, HUD.out.1]; first | rfl | exact HUD.out.1.symm | exact HVD.out.1.symm | (rw [cellsOf_size]; first | exact HUD.out.1.symm | exact HVD.out.1.symm))) (info32 dtR HUD.out) (cellsOf_all _) ?_
          rw [hod, List.toList_toArray]
          have ho : Only g16 w90 (w90.setCells g16 0 (cellsOf U)) := Only.setCells (cellsOf U) 0 (Only.refl _ _)
          refine ⟨HS.out.only ho hNg16, ?_⟩
          refine gen_anyH (F := fun W => SB w B1 [(g10, s)] g12 CX W ∧ Brow W g16 31 U ∧ Brow W g17 31 zs32) ⟨HS.out.only ho hNg16, H16.out.setAll (by rw [HUD.out.1]; first | rfl | exact HUD.out.1.symm), H17.out.only ho (Ne.symm hdd)⟩ ?_
          rintro w91 ⟨hs, ha, hb⟩
          clear hod hoo ho HS H16 H17
          have HS := Lib.hid hs
          have H16 := Lib.hid ha
          have H17 := Lib.hid hb
          clear hs ha hb
          simp only [Act.put]
          refine wpAnyH_all (rs := [11]) (by kernel_rfl) (by simp) ?_
          intro k hk; simp only [List.mem_cons, List.not_mem_nil, or_false] at hk; subst hk
          refine op_at 11 (d := none) (op := .store 31 (.tmp 17) (.tmp 111)) (by rfl) ?_
          intro o0 hod hoo
          refine wp_store_mid 31 (.tmp 17) (.tmp 111) hoo g17 0 (cellsOf V).toArray (by rfl) (by rfl) (H17.out.there _ (by rw [cellsOf_size, HVD.out.1]; first | rfl | exact HUD.out.1.symm | exact HVD.out.1.symm | (rw [cellsOf_size]; first | exact HUD.out.1.symm | exact HVD.out.1.symm))) (info32 dtR HVD.out) (cellsOf_all _) ?_
          rw [hod, List.toList_toArray]
          have ho : Only g17 w91 (w91.setCells g17 0 (cellsOf V)) := Only.setCells (cellsOf V) 0 (Only.refl _ _)
          refine ⟨HS.out.only ho hNg17, ?_⟩
          refine gen_anyH (F := fun W => SB w B1 [(g10, s)] g12 CX W ∧ Brow W g16 31 U ∧ Brow W g17 31 V) ⟨HS.out.only ho hNg17, H16.out.only ho hdd, H17.out.setAll (by rw [HVD.out.1]; first | rfl | exact HVD.out.1.symm)⟩ ?_
          intro w92 hf
          have HF := Lib.hid hf
          clear hod hoo ho hf HS H16 H17
          simp only [Act.put]
          refine wpAnyH_done (by kernel_rfl) ?_ _
          go_wp2_with fail
          go_meet
          exact ⟨g16, g17, rfl, rfl, ⟨hNg16, hNg17, hdd⟩, HF⟩
        · refine op_at 9 (d := some 17) (op := .alloc 31) (by rfl) ?_
          intro o0 hod hoo
          refine wp_alloc_32 hoo ?_
          have hb : Below w88.heap.size w88 (w88.alloc (.cells (cellsOf zs32).toArray 31)) := (Below.refl _ _).alloc (Nat.le_refl _) _
          refine ⟨HS.out.step hb, ?_⟩
          rw [hod]
          obtain ⟨g17, hg17⟩ : ∃ g, g = w88.heap.size := ⟨_, rfl⟩
          rw [← hg17]
          refine gen_anyH (F := fun W => Brow W g17 31 zs32 ∧ SB w B1 [(g10, s)] g12 CX W ∧ Brow W g16 31 zs32) ⟨(by rw [hg17]; exact heap_new _ _), (HS.out.step hb), (H16.out.below hb H16.out.lt)⟩ ?_
          have hneg16 : g16 ≠ g17 := by have := H16.out.lt; omega
          have hNg17 : B1 ≤ g17 := by have := HS.out.2.2.1; omega
          rintro w93 ⟨ha, hs, hH16⟩
          clear hg17 hb hod hoo HS
          have H17 := Lib.hid ha
          have HS := Lib.hid hs
          have H16 := Lib.hid hH16
          clear ha hs hH16
          simp only [Act.put, List.setIfInBounds_toArray, List.set_cons_zero, List.set_cons_succ]
          refine wpAnyH_all (rs := [7]) (by kernel_rfl) (by simp) ?_
          intro k hk; simp only [List.mem_cons, List.not_mem_nil, or_false] at hk; subst hk
          refine op_at 7 (d := some 111) (op := .call { callee := .value (.func 12), args := #[(.tmp 110)], argTypes := #[22] }) (by rfl) ?_
          intro o0 hod hoo
          refine wp_call_fn (R := _) hoo (vs := #[.slice (sld ba bc k) (n - k) (bc - k)]) (by go_simp) (by go_simp) (HV.out w93 HS.out.1) ?_
          rintro e w94 ⟨rfl, hb⟩
          refine ⟨_, rfl, HS.out.step hb, ?_⟩
          rw [hod]
          have H16 := Lib.hid (H16.out.below hb H16.out.lt)
          have H17 := Lib.hid (H17.out.below hb H17.out.lt)
          have HS := Lib.hid (HS.out.step hb)
          clear hod hoo hb
          simp only [Act.put, List.setIfInBounds_toArray, List.set_cons_zero, List.set_cons_succ]
          have hdd : g16 ≠ g17 := by first | assumption | (intro h; exact absurd h.symm (by assumption))
          refine wpAnyH_all (rs := [10]) (by kernel_rfl) (by simp) ?_
          intro k hk; simp only [List.mem_cons, List.not_mem_nil, or_false] at hk; subst hk
          refine op_at 10 (d := none) (op := .store 31 (.tmp 16) (.tmp 107)) (by rfl) ?_
          intro o0 hod hoo
          refine wp_store_mid 31 (.tmp 16) (.tmp 107) hoo g16 0 (cellsOf U).toArray (by rfl) (by rfl) (H16.out.there _ (by rw [cellsOf_size, HUD.out.1]; first | rfl | exact HUD.out.1.symm | exact HVD.out.1.symm | (rw [cellsOf_size]; first | exact HUD.out.1.symm | exact HVD.out.1.symm))) (info32 dtR HUD.out) (cellsOf_all _) ?_
          rw [hod, List.toList_toArray]
          have ho : Only g16 w94 (w94.setCells g16 0 (cellsOf U)) := Only.setCells (cellsOf U) 0 (Only.refl _ _)
          refine ⟨HS.out.only ho hNg16, ?_⟩
          refine gen_anyH (F := fun W => SB w B1 [(g10, s)] g12 CX W ∧ Brow W g16 31 U ∧ Brow W g17 31 zs32) ⟨HS.out.only ho hNg16, H16.out.setAll (by rw [HUD.out.1]; first | rfl | exact HUD.out.1.symm), H17.out.only ho (Ne.symm hdd)⟩ ?_
          rintro w95 ⟨hs, ha, hb⟩
          clear hod hoo ho HS H16 H17
          have HS := Lib.hid hs
          have H16 := Lib.hid ha
          have H17 := Lib.hid hb
          clear hs ha hb
          simp only [Act.put]
          refine wpAnyH_all (rs := [11]) (by kernel_rfl) (by simp) ?_
          intro k hk; simp only [List.mem_cons, List.not_mem_nil, or_false] at hk; subst hk
          refine op_at 11 (d := none) (op := .store 31 (.tmp 17) (.tmp 111)) (by rfl) ?_
          intro o0 hod hoo
          refine wp_store_mid 31 (.tmp 17) (.tmp 111) hoo g17 0 (cellsOf V).toArray (by rfl) (by rfl) (H17.out.there _ (by rw [cellsOf_size, HVD.out.1]; first | rfl | exact HUD.out.1.symm | exact HVD.out.1.symm | (rw [cellsOf_size]; first | exact HUD.out.1.symm | exact HVD.out.1.symm))) (info32 dtR HVD.out) (cellsOf_all _) ?_
          rw [hod, List.toList_toArray]
          have ho : Only g17 w95 (w95.setCells g17 0 (cellsOf V)) := Only.setCells (cellsOf V) 0 (Only.refl _ _)
          refine ⟨HS.out.only ho hNg17, ?_⟩
          refine gen_anyH (F := fun W => SB w B1 [(g10, s)] g12 CX W ∧ Brow W g16 31 U ∧ Brow W g17 31 V) ⟨HS.out.only ho hNg17, H16.out.only ho hdd, H17.out.setAll (by rw [HVD.out.1]; first | rfl | exact HVD.out.1.symm)⟩ ?_
          intro w96 hf
          have HF := Lib.hid hf
          clear hod hoo ho hf HS H16 H17
          simp only [Act.put]
          refine wpAnyH_done (by kernel_rfl) ?_ _
          go_wp2_with fail
          go_meet
          exact ⟨g16, g17, rfl, rfl, ⟨hNg16, hNg17, hdd⟩, HF⟩
      · refine op_at 9 (d := some 17) (op := .alloc 31) (by rfl) ?_
        intro o0 hod hoo
        refine wp_alloc_32 hoo ?_
        have hb : Below w87.heap.size w87 (w87.alloc (.cells (cellsOf zs32).toArray 31)) := (Below.refl _ _).alloc (Nat.le_refl _) _
        refine ⟨HS.out.step hb, ?_⟩
        rw [hod]
        obtain ⟨g17, hg17⟩ : ∃ g, g = w87.heap.size := ⟨_, rfl⟩
        rw [← hg17]
        refine gen_anyH (F := fun W => Brow W g17 31 zs32 ∧ SB w B1 [(g10, s)] g12 CX W ∧ Brow W g16 31 zs32) ⟨(by rw [hg17]; exact heap_new _ _), (HS.out.step hb), (H16.out.below hb H16.out.lt)⟩ ?_
        have hneg16 : g16 ≠ g17 := by have := H16.out.lt; omega
        have hNg17 : B1 ≤ g17 := by have := HS.out.2.2.1; omega
        rintro w97 ⟨ha, hs, hH16⟩
        clear hg17 hb hod hoo HS
        have H17 := Lib.hid ha
        have HS := Lib.hid hs
        have H16 := Lib.hid hH16
        clear ha hs hH16
        simp only [Act.put, List.setIfInBounds_toArray, List.set_cons_zero, List.set_cons_succ]
        refine wpAnyH_all (rs := [3]) (by kernel_rfl) (by simp) ?_
        intro k hk; simp only [List.mem_cons, List.not_mem_nil, or_false] at hk; subst hk
        refine op_at 3 (d := some 107) (op := .call { callee := .value (.func 12), args := #[(.tmp 106)], argTypes := #[22] }) (by rfl) ?_
        intro o0 hod hoo
        refine wp_call_fn (R := _) hoo (vs := #[.slice ba k bc]) (by go_simp) (by go_simp) (HU.out w97 HS.out.1) ?_
        rintro e w98 ⟨rfl, hb⟩
        refine ⟨_, rfl, HS.out.step hb, ?_⟩
        rw [hod]
        have H16 := Lib.hid (H16.out.below hb H16.out.lt)
        have H17 := Lib.hid (H17.out.below hb H17.out.lt)
        have HS := Lib.hid (HS.out.step hb)
        clear hod hoo hb
        simp only [Act.put, List.setIfInBounds_toArray, List.set_cons_zero, List.set_cons_succ]
        refine wpAnyH_all (rs := [7]) (by kernel_rfl) (by simp) ?_
        intro k hk; simp only [List.mem_cons, List.not_mem_nil, or_false] at hk; subst hk
        refine op_at 7 (d := some 111) (op := .call { callee := .value (.func 12), args := #[(.tmp 110)], argTypes := #[22] }) (by rfl) ?_
        intro o0 hod hoo
        refine wp_call_fn (R := _) hoo (vs := #[.slice (sld ba bc k) (n - k) (bc - k)]) (by go_simp) (by go_simp) (HV.out w98 HS.out.1) ?_
        rintro e w99 ⟨rfl, hb⟩
        refine ⟨_, rfl, HS.out.step hb, ?_⟩
        rw [hod]
        have H16 := Lib.hid (H16.out.below hb H16.out.lt)
        have H17 := Lib.hid (H17.out.below hb H17.out.lt)
        have HS := Lib.hid (HS.out.step hb)
        clear hod hoo hb
        simp only [Act.put, List.setIfInBounds_toArray, List.set_cons_zero, List.set_cons_succ]
        have hdd : g16 ≠ g17 := by first | assumption | (intro h; exact absurd h.symm (by assumption))
        refine wpAnyH_all (rs := [10]) (by kernel_rfl) (by simp) ?_
        intro k hk; simp only [List.mem_cons, List.not_mem_nil, or_false] at hk; subst hk
        refine op_at 10 (d := none) (op := .store 31 (.tmp 16) (.tmp 107)) (by rfl) ?_
        intro o0 hod hoo
        refine wp_store_mid 31 (.tmp 16) (.tmp 107) hoo g16 0 (cellsOf U).toArray (by rfl) (by rfl) (H16.out.there _ (by rw [cellsOf_size, HUD.out.1]; first | rfl | exact HUD.out.1.symm | exact HVD.out.1.symm | (rw [cellsOf_size]; first | exact HUD.out.1.symm | exact HVD.out.1.symm))) (info32 dtR HUD.out) (cellsOf_all _) ?_
        rw [hod, List.toList_toArray]
        have ho : Only g16 w99 (w99.setCells g16 0 (cellsOf U)) := Only.setCells (cellsOf U) 0 (Only.refl _ _)
        refine ⟨HS.out.only ho hNg16, ?_⟩
        refine gen_anyH (F := fun W => SB w B1 [(g10, s)] g12 CX W ∧ Brow W g16 31 U ∧ Brow W g17 31 zs32) ⟨HS.out.only ho hNg16, H16.out.setAll (by rw [HUD.out.1]; first | rfl | exact HUD.out.1.symm), H17.out.only ho (Ne.symm hdd)⟩ ?_
        rintro w100 ⟨hs, ha, hb⟩
        clear hod hoo ho HS H16 H17
        have HS := Lib.hid hs
        have H16 := Lib.hid ha
        have H17 := Lib.hid hb
        clear hs ha hb
        simp only [Act.put]
        refine wpAnyH_all (rs := [11]) (by kernel_rfl) (by simp) ?_
        intro k hk; simp only [List.mem_cons, List.not_mem_nil, or_false] at hk; subst hk
        refine op_at 11 (d := none) (op := .store 31 (.tmp 17) (.tmp 111)) (by rfl) ?_
        intro o0 hod hoo
        refine wp_store_mid 31 (.tmp 17) (.tmp 111) hoo g17 0 (cellsOf V).toArray (by rfl) (by rfl) (H17.out.there _ (by rw [cellsOf_size, HVD.out.1]; first | rfl | exact HUD.out.1.symm | exact HVD.out.1.symm | (rw [cellsOf_size]; first | exact HUD.out.1.symm | exact HVD.out.1.symm))) (info32 dtR HVD.out) (cellsOf_all _) ?_
        rw [hod, List.toList_toArray]
        have ho : Only g17 w100 (w100.setCells g17 0 (cellsOf V)) := Only.setCells (cellsOf V) 0 (Only.refl _ _)
        refine ⟨HS.out.only ho hNg17, ?_⟩
        refine gen_anyH (F := fun W => SB w B1 [(g10, s)] g12 CX W ∧ Brow W g16 31 U ∧ Brow W g17 31 V) ⟨HS.out.only ho hNg17, H16.out.only ho hdd, H17.out.setAll (by rw [HVD.out.1]; first | rfl | exact HVD.out.1.symm)⟩ ?_
        intro w101 hf
        have HF := Lib.hid hf
        clear hod hoo ho hf HS H16 H17
        simp only [Act.put]
        refine wpAnyH_done (by kernel_rfl) ?_ _
        go_wp2_with fail
        go_meet
        exact ⟨g16, g17, rfl, rfl, ⟨hNg16, hNg17, hdd⟩, HF⟩
    · refine op_at 9 (d := some 17) (op := .alloc 31) (by rfl) ?_
      intro o0 hod hoo
      refine wp_alloc_32 hoo ?_
      have hb : Below w7.drew.heap.size w7.drew (w7.drew.alloc (.cells (cellsOf zs32).toArray 31)) := (Below.refl _ _).alloc (Nat.le_refl _) _
      refine ⟨HS.out.step hb, ?_⟩
      rw [hod]
      obtain ⟨g17, hg17⟩ : ∃ g, g = w7.drew.heap.size := ⟨_, rfl⟩
      rw [← hg17]
      refine gen_anyH (F := fun W => Brow W g17 31 zs32 ∧ SB w B1 [(g10, s)] g12 CX W) ⟨(by rw [hg17]; exact heap_new _ _), (HS.out.step hb)⟩ ?_
      have hNg17 : B1 ≤ g17 := by have := HS.out.2.2.1; omega
      rintro w102 ⟨ha, hs⟩
      clear hg17 hb hod hoo HS
      have H17 := Lib.hid ha
      have HS := Lib.hid hs
      clear ha hs
      simp only [Act.put, List.setIfInBounds_toArray, List.set_cons_zero, List.set_cons_succ]
      refine wpAnyH_all (rs := [3, 8]) (by kernel_rfl) (by simp) ?_
      intro k hk; simp only [List.mem_cons, List.not_mem_nil, or_false] at hk; rcases hk with rfl | rfl
      · refine op_at 3 (d := some 107) (op := .call { callee := .value (.func 12), args := #[(.tmp 106)], argTypes := #[22] }) (by rfl) ?_
        intro o0 hod hoo
        refine wp_call_fn (R := _) hoo (vs := #[.slice ba k bc]) (by go_simp) (by go_simp) (HU.out w102 HS.out.1) ?_
        rintro e w103 ⟨rfl, hb⟩
        refine ⟨_, rfl, HS.out.step hb, ?_⟩
        rw [hod]
        have H17 := Lib.hid (H17.out.below hb H17.out.lt)
        have HS := Lib.hid (HS.out.step hb)
        clear hod hoo hb
        simp only [Act.put, List.setIfInBounds_toArray, List.set_cons_zero, List.set_cons_succ]
        refine wpAnyH_all (rs := [7, 8]) (by kernel_rfl) (by simp) ?_
        intro k hk; simp only [List.mem_cons, List.not_mem_nil, or_false] at hk; rcases hk with rfl | rfl
        · refine op_at 7 (d := some 111) (op := .call { callee := .value (.func 12), args := #[(.tmp 110)], argTypes := #[22] }) (by rfl) ?_
          intro o0 hod hoo
          refine wp_call_fn (R := _) hoo (vs := #[.slice (sld ba bc k) (n - k) (bc - k)]) (by go_simp) (by go_simp) (HV.out w103 HS.out.1) ?_
          rintro e w104 ⟨rfl, hb⟩
          refine ⟨_, rfl, HS.out.step hb, ?_⟩
          rw [hod]
          have H17 := Lib.hid (H17.out.below hb H17.out.lt)
          have HS := Lib.hid (HS.out.step hb)
          clear hod hoo hb
          simp only [Act.put, List.setIfInBounds_toArray, List.set_cons_zero, List.set_cons_succ]
          refine wpAnyH_all (rs := [8]) (by kernel_rfl) (by simp) ?_
          intro k hk; simp only [List.mem_cons, List.not_mem_nil, or_false] at hk; subst hk
          refine op_at 8 (d := some 16) (op := .alloc 31) (by rfl) ?_
          intro o0 hod hoo
          refine wp_alloc_32 hoo ?_
          have hb : Below w104.heap.size w104 (w104.alloc (.cells (cellsOf zs32).toArray 31)) := (Below.refl _ _).alloc (Nat.le_refl _) _
          refine ⟨HS.out.step hb, ?_⟩
          rw [hod]
          obtain ⟨g16, hg16⟩ : ∃ g, g = w104.heap.size := ⟨_, rfl⟩
          rw [← hg16]
          refine gen_anyH (F := fun W => Brow W g16 31 zs32 ∧ SB w B1 [(g10, s)] g12 CX W ∧ Brow W g17 31 zs32) ⟨(by rw [hg16]; exact heap_new _ _), (HS.out.step hb), (H17.out.below hb H17.out.lt)⟩ ?_
          have hneg17 : g17 ≠ g16 := by have := H17.out.lt; omega
          have hNg16 : B1 ≤ g16 := by have := HS.out.2.2.1; omega
          rintro w105 ⟨ha, hs, hH17⟩
          clear hg16 hb hod hoo HS
          have H16 := Lib.hid ha
          have HS := Lib.hid hs
          have H17 := Lib.hid hH17
          clear ha hs hH17
          simp only [Act.put, List.setIfInBounds_toArray, List.set_cons_zero, List.set_cons_succ]
          have hdd : g16 ≠ g17 := by first | assumption | (intro h; exact absurd h.symm (by assumption))
          refine wpAnyH_all (rs := [10]) (by kernel_rfl) (by simp) ?_
          intro k hk; simp only [List.mem_cons, List.not_mem_nil, or_false] at hk; subst hk
          refine op_at 10 (d := none) (op := .store 31 (.tmp 16) (.tmp 107)) (by rfl) ?_
          intro o0 hod hoo
          refine wp_store_mid 31 (.tmp 16) (.tmp 107) hoo g16 0 (cellsOf U).toArray (by rfl) (by rfl) (H16.out.there _ (by rw [cellsOf_size, HUD.out.1]; first | rfl | exact HUD.out.1.symm | exact HVD.out.1.symm | (rw [cellsOf_size]; first | exact HUD.out.1.symm | exact HVD.out.1.symm))) (info32 dtR HUD.out) (cellsOf_all _) ?_
          rw [hod, List.toList_toArray]
          have ho : Only g16 w105 (w105.setCells g16 0 (cellsOf U)) := Only.setCells (cellsOf U) 0 (Only.refl _ _)
          refine ⟨HS.out.only ho hNg16, ?_⟩
          refine gen_anyH (F := fun W => SB w B1 [(g10, s)] g12 CX W ∧ Brow W g16 31 U ∧ Brow W g17 31 zs32) ⟨HS.out.only ho hNg16, H16.out.setAll (by rw [HUD.out.1]; first | rfl | exact HUD.out.1.symm), H17.out.only ho (Ne.symm hdd)⟩ ?_
          rintro w106 ⟨hs, ha, hb⟩
          clear hod hoo ho HS H16 H17
          have HS := Lib.hid hs
          have H16 := Lib.hid ha
          have H17 := Lib.hid hb
          clear hs ha hb
          simp only [Act.put]
          refine wpAnyH_all (rs := [11]) (by kernel_rfl) (by simp) ?_
          intro k hk; simp only [List.mem_cons, List.not_mem_nil, or_false] at hk; subst hk
          refine op_at 11 (d := none) (op := .store 31 (.tmp 17) (.tmp 111)) (by rfl) ?_
          intro o0 hod hoo
          refine wp_store_mid 31 (.tmp 17) (.tmp 111) hoo g17 0 (cellsOf V).toArray (by rfl) (by rfl) (H17.out.there _ (by rw [cellsOf_size, HVD.out.1]; first | rfl | exact HUD.out.1.symm | exact HVD.out.1.symm | (rw [cellsOf_size]; first | exact HUD.out.1.symm | exact HVD.out.1.symm))) (info32 dtR HVD.out) (cellsOf_all _) ?_
          rw [hod, List.toList_toArray]
          have ho : Only g17 w106 (w106.setCells g17 0 (cellsOf V)) := Only.setCells (cellsOf V) 0 (Only.refl _ _)
          refine ⟨HS.out.only ho hNg17, ?_⟩
          refine gen_anyH (F := fun W => SB w B1 [(g10, s)] g12 CX W ∧ Brow W g16 31 U ∧ Brow W g17 31 V) ⟨HS.out.only ho hNg17, H16.out.only ho hdd, H17.out.setAll (by rw [HVD.out.1]; first | rfl | exact HVD.out.1.symm)⟩ ?_
          intro w107 hf
          have HF := Lib.hid hf
          clear hod hoo ho hf HS H16 H17
          simp only [Act.put]
          refine wpAnyH_done (by kernel_rfl) ?_ _
          go_wp2_with fail
          go_meet
          exact ⟨g16, g17, rfl, rfl, ⟨hNg16, hNg17, hdd⟩, HF⟩
        · refine op_at 8 (d := some 16) (op := .alloc 31) (by rfl) ?_
          intro o0 hod hoo
          refine wp_alloc_32 hoo ?_
          have hb : Below w103.heap.size w103 (w103.alloc (.cells (cellsOf zs32).toArray 31)) := (Below.refl _ _).alloc (Nat.le_refl _) _
          refine ⟨HS.out.step hb, ?_⟩
          rw [hod]
          obtain ⟨g16, hg16⟩ : ∃ g, g = w103.heap.size := ⟨_, rfl⟩
          rw [← hg16]
          refine gen_anyH (F := fun W => Brow W g16 31 zs32 ∧ SB w B1 [(g10, s)] g12 CX W ∧ Brow W g17 31 zs32) ⟨(by rw [hg16]; exact heap_new _ _), (HS.out.step hb), (H17.out.below hb H17.out.lt)⟩ ?_
          have hneg17 : g17 ≠ g16 := by have := H17.out.lt; omega
          have hNg16 : B1 ≤ g16 := by have := HS.out.2.2.1; omega
          rintro w108 ⟨ha, hs, hH17⟩
          clear hg16 hb hod hoo HS
          have H16 := Lib.hid ha
          have HS := Lib.hid hs
          have H17 := Lib.hid hH17
          clear ha hs hH17
          simp only [Act.put, List.setIfInBounds_toArray, List.set_cons_zero, List.set_cons_succ]
          refine wpAnyH_all (rs := [7]) (by kernel_rfl) (by simp) ?_
          intro k hk; simp only [List.mem_cons, List.not_mem_nil, or_false] at hk; subst hk
          refine op_at 7 (d := some 111) (op := .call { callee := .value (.func 12), args := #[(.tmp 110)], argTypes := #[22] }) (by rfl) ?_
          intro o0 hod hoo
          refine wp_call_fn (R := _) hoo (vs := #[.slice (sld ba bc k) (n - k) (bc - k)]) (by go_simp) (by go_simp) (HV.out w108 HS.out.1) ?_
          rintro e w109 ⟨rfl, hb⟩
          refine ⟨_, rfl, HS.out.step hb, ?_⟩
          rw [hod]
          have H16 := Lib.hid (H16.out.below hb H16.out.lt)
          have H17 := Lib.hid (H17.out.below hb H17.out.lt)
          have HS := Lib.hid (HS.out.step hb)
          clear hod hoo hb
          simp only [Act.put, List.setIfInBounds_toArray, List.set_cons_zero, List.set_cons_succ]
          have hdd : g16 ≠ g17 := by first | assumption | (intro h; exact absurd h.symm (by assumption))
          refine wpAnyH_all (rs := [10]) (by kernel_rfl) (by simp) ?_
          intro k hk; simp only [List.mem_cons, List.not_mem_nil, or_false] at hk; subst hk
          refine op_at 10 (d := none) (op := .store 31 (.tmp 16) (.tmp 107)) (by rfl) ?_
          intro o0 hod hoo
          refine wp_store_mid 31 (.tmp 16) (.tmp 107) hoo g16 0 (cellsOf U).toArray (by rfl) (by rfl) (H16.out.there _ (by rw [cellsOf_size, HUD.out.1]; first | rfl | exact HUD.out.1.symm | exact HVD.out.1.symm | (rw [cellsOf_size]; first | exact HUD.out.1.symm | exact HVD.out.1.symm))) (info32 dtR HUD.out) (cellsOf_all _) ?_
          rw [hod, List.toList_toArray]
          have ho : Only g16 w109 (w109.setCells g16 0 (cellsOf U)) := Only.setCells (cellsOf U) 0 (Only.refl _ _)
          refine ⟨HS.out.only ho hNg16, ?_⟩
          refine gen_anyH (F := fun W => SB w B1 [(g10, s)] g12 CX W ∧ Brow W g16 31 U ∧ Brow W g17 31 zs32) ⟨HS.out.only ho hNg16, H16.out.setAll (by rw [HUD.out.1]; first | rfl | exact HUD.out.1.symm), H17.out.only ho (Ne.symm hdd)⟩ ?_
          rintro w110 ⟨hs, ha, hb⟩
          clear hod hoo ho HS H16 H17
          have HS := Lib.hid hs
          have H16 := Lib.hid ha
          have H17 := Lib.hid hb
          clear hs ha hb
          simp only [Act.put]
          refine wpAnyH_all (rs := [11]) (by kernel_rfl) (by simp) ?_
          intro k hk; simp only [List.mem_cons, List.not_mem_nil, or_false] at hk; subst hk
          refine op_at 11 (d := none) (op := .store 31 (.tmp 17) (.tmp 111)) (by rfl) ?_
          intro o0 hod hoo
          refine wp_store_mid 31 (.tmp 17) (.tmp 111) hoo g17 0 (cellsOf V).toArray (by rfl) (by rfl) (H17.out.there _ (by rw [cellsOf_size, HVD.out.1]; first | rfl | exact HUD.out.1.symm | exact HVD.out.1.symm | (rw [cellsOf_size]; first | exact HUD.out.1.symm | exact HVD.out.1.symm))) (info32 dtR HVD.out) (cellsOf_all _) ?_
          rw [hod, List.toList_toArray]
          have ho : Only g17 w110 (w110.setCells g17 0 (cellsOf V)) := Only.setCells (cellsOf V) 0 (Only.refl _ _)
          refine ⟨HS.out.only ho hNg17, ?_⟩
          refine gen_anyH (F := fun W => SB w B1 [(g10, s)] g12 CX W ∧ Brow W g16 31 U ∧ Brow W g17 31 V) ⟨HS.out.only ho hNg17, H16.out.only ho hdd, H17.out.setAll (by rw [HVD.out.1]; first | rfl | exact HVD.out.1.symm)⟩ ?_
          intro w111 hf
          have HF := Lib.hid hf
          clear hod hoo ho hf HS H16 H17
          simp only [Act.put]
          refine wpAnyH_done (by kernel_rfl) ?_ _
          go_wp2_with fail
          go_meet
          exact ⟨g16, g17, rfl, rfl, ⟨hNg16, hNg17, hdd⟩, HF⟩
      · refine op_at 8 (d := some 16) (op := .alloc 31) (by rfl) ?_
        intro o0 hod hoo
        refine wp_alloc_32 hoo ?_
        have hb : Below w102.heap.size w102 (w102.alloc (.cells (cellsOf zs32).toArray 31)) := (Below.refl _ _).alloc (Nat.le_refl _) _
        refine ⟨HS.out.step hb, ?_⟩
        rw [hod]
        obtain ⟨g16, hg16⟩ : ∃ g, g = w102.heap.size := ⟨_, rfl⟩
        rw [← hg16]
        refine gen_anyH (F := fun W => Brow W g16 31 zs32 ∧ SB w B1 [(g10, s)] g12 CX W ∧ Brow W g17 31 zs32) ⟨(by rw [hg16]; exact heap_new _ _), (HS.out.step hb), (H17.out.below hb H17.out.lt)⟩ ?_
        have hneg17 : g17 ≠ g16 := by have := H17.out.lt; omega
        have hNg16 : B1 ≤ g16 := by have := HS.out.2.2.1; omega
        rintro w112 ⟨ha, hs, hH17⟩
        clear hg16 hb hod hoo HS
        have H16 := Lib.hid ha
        have HS := Lib.hid hs
        have H17 := Lib.hid hH17
        clear ha hs hH17
        simp only [Act.put, List.setIfInBounds_toArray, List.set_cons_zero, List.set_cons_succ]
        refine wpAnyH_all (rs := [3]) (by kernel_rfl) (by simp) ?_
        intro k hk; simp only [List.mem_cons, List.not_mem_nil, or_false] at hk; subst hk
        refine op_at 3 (d := some 107) (op := .call { callee := .value (.func 12), args := #[(.tmp 106)], argTypes := #[22] }) (by rfl) ?_
        intro o0 hod hoo
        refine wp_call_fn (R := _) hoo (vs := #[.slice ba k bc]) (by go_simp) (by go_simp) (HU.out w112 HS.out.1) ?_
        rintro e w113 ⟨rfl, hb⟩
        refine ⟨_, rfl, HS.out.step hb, ?_⟩
        rw [hod]
        have H16 := Lib.hid (H16.out.below hb H16.out.lt)
        have H17 := Lib.hid (H17.out.below hb H17.out.lt)
        have HS := Lib.hid (HS.out.step hb)
        clear hod hoo hb
        simp only [Act.put, List.setIfInBounds_toArray, List.set_cons_zero, List.set_cons_succ]
        refine wpAnyH_all (rs := [7]) (by kernel_rfl) (by simp) ?_
        intro k hk; simp only [List.mem_cons, List.not_mem_nil, or_false] at hk; subst hk
        refine op_at 7 (d := some 111) (op := .call { callee := .value (.func 12), args := #[(.tmp 110)], argTypes := #[22] }) (by rfl) ?_
        intro o0 hod hoo
        refine wp_call_fn (R := _) hoo (vs := #[.slice (sld ba bc k) (n - k) (bc - k)]) (by go_simp) (by go_simp) (HV.out w113 HS.out.1) ?_
        rintro e w114 ⟨rfl, hb⟩
        refine ⟨_, rfl, HS.out.step hb, ?_⟩
        rw [hod]
        have H16 := Lib.hid (H16.out.below hb H16.out.lt)
        have H17 := Lib.hid (H17.out.below hb H17.out.lt)
        have HS := Lib.hid (HS.out.step hb)
        clear hod hoo hb
        simp only [Act.put, List.setIfInBounds_toArray, List.set_cons_zero, List.set_cons_succ]
        have hdd : g16 ≠ g17 := by first | assumption | (intro h; exact absurd h.symm (by assumption))
        refine wpAnyH_all (rs := [10]) (by kernel_rfl) (by simp) ?_
        intro k hk; simp only [List.mem_cons, List.not_mem_nil, or_false] at hk; subst hk
        refine op_at 10 (d := none) (op := .store 31 (.tmp 16) (.tmp 107)) (by rfl) ?_
        intro o0 hod hoo
        refine wp_store_mid 31 (.tmp 16) (.tmp 107) hoo g16 0 (cellsOf U).toArray (by rfl) (by rfl) (H16.out.there _ (by rw [cellsOf_size, HUD.out.1]; first | rfl | exact HUD.out.1.symm | exact HVD.out.1.symm | (rw [cellsOf_size]; first | exact HUD.out.1.symm | exact HVD.out.1.symm))) (info32 dtR HUD.out) (cellsOf_all _) ?_
        rw [hod, List.toList_toArray]
        have ho : Only g16 w114 (w114.setCells g16 0 (cellsOf U)) := Only.setCells (cellsOf U) 0 (Only.refl _ _)
        refine ⟨HS.out.only ho hNg16, ?_⟩
        refine gen_anyH (F := fun W => SB w B1 [(g10, s)] g12 CX W ∧ Brow W g16 31 U ∧ Brow W g17 31 zs32) ⟨HS.out.only ho hNg16, H16.out.setAll (by rw [HUD.out.1]; first | rfl | exact HUD.out.1.symm), H17.out.only ho (Ne.symm hdd)⟩ ?_
        rintro w115 ⟨hs, ha, hb⟩
        clear hod hoo ho HS H16 H17
        have HS := Lib.hid hs
        have H16 := Lib.hid ha
        have H17 := Lib.hid hb
        clear hs ha hb
        simp only [Act.put]
        refine wpAnyH_all (rs := [11]) (by kernel_rfl) (by simp) ?_
        intro k hk; simp only [List.mem_cons, List.not_mem_nil, or_false] at hk; subst hk
        refine op_at 11 (d := none) (op := .store 31 (.tmp 17) (.tmp 111)) (by rfl) ?_
        intro o0 hod hoo
        refine wp_store_mid 31 (.tmp 17) (.tmp 111) hoo g17 0 (cellsOf V).toArray (by rfl) (by rfl) (H17.out.there _ (by rw [cellsOf_size, HVD.out.1]; first | rfl | exact HUD.out.1.symm | exact HVD.out.1.symm | (rw [cellsOf_size]; first | exact HUD.out.1.symm | exact HVD.out.1.symm))) (info32 dtR HVD.out) (cellsOf_all _) ?_
        rw [hod, List.toList_toArray]
        have ho : Only g17 w115 (w115.setCells g17 0 (cellsOf V)) := Only.setCells (cellsOf V) 0 (Only.refl _ _)
        refine ⟨HS.out.only ho hNg17, ?_⟩
        refine gen_anyH (F := fun W => SB w B1 [(g10, s)] g12 CX W ∧ Brow W g16 31 U ∧ Brow W g17 31 V) ⟨HS.out.only ho hNg17, H16.out.only ho hdd, H17.out.setAll (by rw [HVD.out.1]; first | rfl | exact HVD.out.1.symm)⟩ ?_
        intro w116 hf
        have HF := Lib.hid hf
        clear hod hoo ho hf HS H16 H17
        simp only [Act.put]
        refine wpAnyH_done (by kernel_rfl) ?_ _
        go_wp2_with fail
        go_meet
        exact ⟨g16, g17, rfl, rfl, ⟨hNg16, hNg17, hdd⟩, HF⟩
  case rest =>
    obtain ⟨g16, g17, rfl, rfl, ⟨hNg16, hNg17, hdd⟩, HF⟩ := hcut
    clear HS HU HV
    have HS := Lib.hid (HF.out.1.more HF.out.2.1 HF.out.2.2)
    have hB16 : B1 ≤ wc.heap.size := HF.out.1.2.2.1
    obtain ⟨B6, hB6⟩ : ∃ B, B = wc.heap.size := ⟨_, rfl⟩
    rw [← hB6] at HS hB16
    clear hB6 HF
    have HL16 := Lib.hid (fun W (hW : SB w B6 [(g16, U), (g17, V), (g10, s)] g12 CX W) => run_dload dtR W g16 0 U HUD.out ((hW.2.1 (g16, U) (by simp)).2).range)
    have HL17 := Lib.hid (fun W (hW : SB w B6 [(g16, U), (g17, V), (g10, s)] g12 CX W) => run_dload dtR W g17 0 V HVD.out ((hW.2.1 (g17, V) (by simp)).2).range)
    have HL10 := Lib.hid (fun W (hW : SB w B6 [(g16, U), (g17, V), (g10, s)] g12 CX W) => run_dload dtR W g10 0 s HSD.out ((hW.2.1 (g10, s) (by simp)).2).range)
    have HLYs := Lib.hid (fun W (hW : SB w B6 [(g16, U), (g17, V), (g10, s)] g12 CX W) => HLY.out W hW.2.2.2.2.2)
    by_cases e1 : s = U
    · rw [decide_eq_true e1] at HQ1
      by_cases e2 : Y = V
      · rw [decide_eq_true e2] at HQ2
        have HREC := Lib.hid (HREC.out e2)
        have HDIF := Lib.hid (HDIF.out e1)
        clear e1 e2 HR HNEQ
        go_wp2_with (first | (refine wpList_loadg 31 (.tmp 116) (by rfl) (by rfl) (.pointer (some ⟨g12, 32, none⟩)) (by rfl) (.agg (cellsOf Y).toArray) (HLYs.out _ HS.out) ?_) | (refine wpList_loadg 31 (.tmp 16) (by rfl) (by rfl) (.pointer (some ⟨g16, 0, none⟩)) (by rfl) (.agg (cellsOf U).toArray) (HL16.out _ HS.out) ?_) | (refine wpList_loadg 31 (.tmp 10) (by rfl) (by rfl) (.pointer (some ⟨g10, 0, none⟩)) (by rfl) (.agg (cellsOf s).toArray) (HL10.out _ HS.out) ?_) | (refine wpList_loadg 31 (.tmp 17) (by rfl) (by rfl) (.pointer (some ⟨g17, 0, none⟩)) (by rfl) (.agg (cellsOf V).toArray) (HL17.out _ HS.out) ?_) | (refine wpList_neqg 31 _ (.tmp 112) (.tmp 113) (by rfl) (by rfl) (cellsOf s).toArray (cellsOf U).toArray (by rfl) (by rfl) HGT.out _ (HQ1.out _) ?_) | (refine wpList_neqg 31 _ (.tmp 117) (.tmp 118) (by rfl) (by rfl) (cellsOf Y).toArray (cellsOf V).toArray (by rfl) (by rfl) HGT.out _ (HQ2.out _) ?_))
        (try dsimp only [Act.put, List.setIfInBounds_toArray, List.set_cons_zero, List.set_cons_succ])
        have HS := Lib.hid HS.out.drew
        obtain ⟨hs0, hs1, hs2⟩ := HS.out.split hB16 hwB hg12 hg10
        have HS := Lib.hid hs0
        have H16 := Lib.hid hs1
        have H17 := Lib.hid hs2
        clear hs0 hs1 hs2
        refine anyH_begin (S := SB w B1 [(g10, s)] g12 CX) (by kernel_rfl) ?_
        refine anyH_pureG 0 (d := 129) (op := .move (.tmp 0)) (gd := none) (.slice aa m ac) (by rfl) (fun o ho => wanted_plain ho _) (by kernel_rfl) (by kernel_rfl) (by kernel_rfl) (fun _ _ _ h => h) (fun o ho W hW => by unfold execOp; simp only [ho]; go_simp) HS.out ?_
        simp only [Act.put, List.setIfInBounds_toArray, List.set_cons_zero, List.set_cons_succ]
        refine anyH_pureG 1 (d := 130) (op := .move (.tmp 9)) (gd := none) (.int .i64 (k : Int)) (by rfl) (fun o ho => wanted_plain ho _) (by kernel_rfl) (by kernel_rfl) (by kernel_rfl) (fun _ _ _ h => h) (fun o ho W hW => by unfold execOp; simp only [ho]; go_simp) HS.out ?_
        simp only [Act.put, List.setIfInBounds_toArray, List.set_cons_zero, List.set_cons_succ]
        refine anyH_pureG 2 (d := 131) (op := .slice 22 (.tmp 129) none (some (.tmp 130)) none) (gd := none) (.slice aa k ac) (by rfl) (fun o ho => wanted_plain ho _) (by kernel_rfl) (by kernel_rfl) (by kernel_rfl) (fun _ _ _ h => h) (fun o ho W hW => exec_dhead dtR (x := .tmp 129) (y := .tmp 130) aa m ac k (by omega) _ (by rfl) (by rfl) o ho W) HS.out ?_
        simp only [Act.put, List.setIfInBounds_toArray, List.set_cons_zero, List.set_cons_succ]
        refine anyH_pureG 4 (d := 133) (op := .move (.tmp 0)) (gd := none) (.slice aa m ac) (by rfl) (fun o ho => wanted_plain ho _) (by kernel_rfl) (by kernel_rfl) (by kernel_rfl) (fun _ _ _ h => h) (fun o ho W hW => by unfold execOp; simp only [ho]; go_simp) HS.out ?_
        simp only [Act.put, List.setIfInBounds_toArray, List.set_cons_zero, List.set_cons_succ]
        refine anyH_pureG 5 (d := 134) (op := .move (.tmp 9)) (gd := none) (.int .i64 (k : Int)) (by rfl) (fun o ho => wanted_plain ho _) (by kernel_rfl) (by kernel_rfl) (by kernel_rfl) (fun _ _ _ h => h) (fun o ho W hW => by unfold execOp; simp only [ho]; go_simp) HS.out ?_
        simp only [Act.put, List.setIfInBounds_toArray, List.set_cons_zero, List.set_cons_succ]
        refine anyH_pureG 6 (d := 135) (op := .slice 22 (.tmp 133) (some (.tmp 134)) none none) (gd := none) (.slice (sld aa ac k) (m - k) (ac - k)) (by rfl) (fun o ho => wanted_plain ho _) (by kernel_rfl) (by kernel_rfl) (by kernel_rfl) (fun _ _ _ h => h) (fun o ho W hW => exec_dcut dtR (x := .tmp 133) (y := .tmp 134) aa m ac k (by omega) _ (by rfl) (by rfl) o ho W) HS.out ?_
        simp only [Act.put, List.setIfInBounds_toArray, List.set_cons_zero, List.set_cons_succ]
        refine wpAnyH_all (rs := [3]) (by kernel_rfl) (by simp) ?_
        intro k hk; simp only [List.mem_cons, List.not_mem_nil, or_false] at hk; subst hk
        refine op_at 3 (d := some 132) (op := .call { callee := .value (.func 12), args := #[(.tmp 131)], argTypes := #[22] }) (by rfl) ?_
        intro o0 hod hoo
        refine wp_call_fn (R := _) hoo (vs := #[.slice aa k ac]) (by go_simp) (by go_simp) (HP.out wc.drew HS.out.1) ?_
        rintro e w117 ⟨rfl, hb⟩
        refine ⟨_, rfl, HS.out.step hb, ?_⟩
        rw [hod]
        have H16 := Lib.hid (H16.out.below hb H16.out.lt)
        have H17 := Lib.hid (H17.out.below hb H17.out.lt)
        have HS := Lib.hid (HS.out.step hb)
        clear hod hoo hb
        simp only [Act.put, List.setIfInBounds_toArray, List.set_cons_zero, List.set_cons_succ]
        refine wpAnyH_all (rs := [7]) (by kernel_rfl) (by simp) ?_
        intro k hk; simp only [List.mem_cons, List.not_mem_nil, or_false] at hk; subst hk
        refine op_at 7 (d := some 136) (op := .call { callee := .value (.func 12), args := #[(.tmp 135)], argTypes := #[22] }) (by rfl) ?_
        intro o0 hod hoo
        refine wp_call_fn (R := _) hoo (vs := #[.slice (sld aa ac k) (m - k) (ac - k)]) (by go_simp) (by go_simp) (HQ.out w117 HS.out.1) ?_
        rintro e w118 ⟨rfl, hb⟩
        refine ⟨_, rfl, HS.out.step hb, ?_⟩
        rw [hod]
        have H16 := Lib.hid (H16.out.below hb H16.out.lt)
        have H17 := Lib.hid (H17.out.below hb H17.out.lt)
        have HS := Lib.hid (HS.out.step hb)
        clear hod hoo hb
        simp only [Act.put, List.setIfInBounds_toArray, List.set_cons_zero, List.set_cons_succ]
        have hdd : g16 ≠ g17 := by first | assumption | (intro h; exact absurd h.symm (by assumption))
        refine wpAnyH_all (rs := [8]) (by kernel_rfl) (by simp) ?_
        intro k hk; simp only [List.mem_cons, List.not_mem_nil, or_false] at hk; subst hk
        refine op_at 8 (d := none) (op := .store 31 (.tmp 16) (.tmp 132)) (by rfl) ?_
        intro o0 hod hoo
        refine wp_store_mid 31 (.tmp 16) (.tmp 132) hoo g16 0 (cellsOf P).toArray (by rfl) (by rfl) (H16.out.there _ (by rw [cellsOf_size, HPD.out.1]; first | rfl | exact HUD.out.1.symm | exact HVD.out.1.symm | (rw [cellsOf_size]; first | exact HUD.out.1.symm | exact HVD.out.1.symm))) (info32 dtR HPD.out) (cellsOf_all _) ?_
        rw [hod, List.toList_toArray]
        have ho : Only g16 w118 (w118.setCells g16 0 (cellsOf P)) := Only.setCells (cellsOf P) 0 (Only.refl _ _)
        refine ⟨HS.out.only ho hNg16, ?_⟩
        refine gen_anyH (F := fun W => SB w B1 [(g10, s)] g12 CX W ∧ Brow W g16 31 P ∧ Brow W g17 31 V) ⟨HS.out.only ho hNg16, H16.out.setAll (by rw [HPD.out.1]; first | rfl | exact HUD.out.1.symm), H17.out.only ho (Ne.symm hdd)⟩ ?_
        rintro w119 ⟨hs, ha, hb⟩
        clear hod hoo ho HS H16 H17
        have HS := Lib.hid hs
        have H16 := Lib.hid ha
        have H17 := Lib.hid hb
        clear hs ha hb
        simp only [Act.put]
        refine wpAnyH_all (rs := [9]) (by kernel_rfl) (by simp) ?_
        intro k hk; simp only [List.mem_cons, List.not_mem_nil, or_false] at hk; subst hk
        refine op_at 9 (d := none) (op := .store 31 (.tmp 17) (.tmp 136)) (by rfl) ?_
        intro o0 hod hoo
        refine wp_store_mid 31 (.tmp 17) (.tmp 136) hoo g17 0 (cellsOf Q).toArray (by rfl) (by rfl) (H17.out.there _ (by rw [cellsOf_size, HQD.out.1]; first | rfl | exact HUD.out.1.symm | exact HVD.out.1.symm | (rw [cellsOf_size]; first | exact HUD.out.1.symm | exact HVD.out.1.symm))) (info32 dtR HQD.out) (cellsOf_all _) ?_
        rw [hod, List.toList_toArray]
        have ho : Only g17 w119 (w119.setCells g17 0 (cellsOf Q)) := Only.setCells (cellsOf Q) 0 (Only.refl _ _)
        refine ⟨HS.out.only ho hNg17, ?_⟩
        refine gen_anyH (F := fun W => SB w B1 [(g10, s)] g12 CX W ∧ Brow W g16 31 P ∧ Brow W g17 31 Q) ⟨HS.out.only ho hNg17, H16.out.only ho hdd, H17.out.setAll (by rw [HQD.out.1]; first | rfl | exact HVD.out.1.symm)⟩ ?_
        intro w120 hf
        have HF := Lib.hid hf
        clear hod hoo ho hf HS H16 H17
        simp only [Act.put]
        refine wpAnyH_done (by kernel_rfl) ?_ _
        have HX3 := Lib.hid (HF.out.1.more HF.out.2.1 HF.out.2.2)
        clear HP HQ
        have HS := HX3
        clear HX3
        obtain ⟨B7, hB7⟩ : ∃ B, B = w120.heap.size := ⟨_, rfl⟩
        rw [← hB7] at HS
        clear hB7 HF HL16 HL17 HL10 HLYs
        have HL16 := Lib.hid (fun W (hW : SB w B7 [(g16, P), (g17, Q), (g10, s)] g12 CX W) => run_dload dtR W g16 0 P HPD.out ((hW.2.1 (g16, P) (by simp)).2).range)
        have HL17 := Lib.hid (fun W (hW : SB w B7 [(g16, P), (g17, Q), (g10, s)] g12 CX W) => run_dload dtR W g17 0 Q HQD.out ((hW.2.1 (g17, Q) (by simp)).2).range)
        have HL10 := Lib.hid (fun W (hW : SB w B7 [(g16, P), (g17, Q), (g10, s)] g12 CX W) => run_dload dtR W g10 0 s HSD.out ((hW.2.1 (g10, s) (by simp)).2).range)
        have HLXs := Lib.hid (fun W (hW : SB w B7 [(g16, P), (g17, Q), (g10, s)] g12 CX W) => HLX.out W hW.2.2.2.2.2)
        by_cases e3 : s = P
        · rw [decide_eq_true e3] at HQ3
          by_cases e4 : XX = Q
          · rw [decide_eq_true e4] at HQ4
            have HREC := Lib.hid (HREC.out e4)
            have HDIF := Lib.hid (HDIF.out e3)
            clear e3 e4 HR2 HNEQ2
            by_cases e5 : a.take k = b.take k
            · rw [decide_eq_true e5] at HSAME
              have HREC := Lib.hid (HREC.out e5)
              clear e5 HDIF
              go_wp2_with (first | (refine wpList_loadg 31 (.tmp 141) (by rfl) (by rfl) (.pointer (some ⟨g12, 0, none⟩)) (by rfl) (.agg (cellsOf XX).toArray) (HLXs.out _ HS.out) ?_) | (refine wpList_loadg 31 (.tmp 16) (by rfl) (by rfl) (.pointer (some ⟨g16, 0, none⟩)) (by rfl) (.agg (cellsOf P).toArray) (HL16.out _ HS.out) ?_) | (refine wpList_loadg 31 (.tmp 10) (by rfl) (by rfl) (.pointer (some ⟨g10, 0, none⟩)) (by rfl) (.agg (cellsOf s).toArray) (HL10.out _ HS.out) ?_) | (refine wpList_loadg 31 (.tmp 17) (by rfl) (by rfl) (.pointer (some ⟨g17, 0, none⟩)) (by rfl) (.agg (cellsOf Q).toArray) (HL17.out _ HS.out) ?_) | (refine wpList_neqg 31 _ (.tmp 137) (.tmp 138) (by rfl) (by rfl) (cellsOf s).toArray (cellsOf P).toArray (by rfl) (by rfl) HGT.out _ (HQ3.out _) ?_) | (refine wpList_neqg 31 _ (.tmp 142) (.tmp 143) (by rfl) (by rfl) (cellsOf XX).toArray (cellsOf Q).toArray (by rfl) (by rfl) HGT.out _ (HQ4.out _) ?_))
              (try dsimp only [Act.put, List.setIfInBounds_toArray, List.set_cons_zero, List.set_cons_succ])
              have HS := Lib.hid HS.out.drew
              refine anyH_begin (S := SB w B7 [(g16, P), (g17, Q), (g10, s)] g12 CX) (by kernel_rfl) ?_
              refine anyH_pureG 0 (d := 154) (op := .move (.tmp 0)) (gd := none) (.slice aa m ac) (by rfl) (fun o ho => wanted_plain ho _) (by kernel_rfl) (by kernel_rfl) (by kernel_rfl) (fun _ _ _ h => h) (fun o ho W hW => by unfold execOp; simp only [ho]; go_simp) HS.out ?_
              simp only [Act.put, List.setIfInBounds_toArray, List.set_cons_zero, List.set_cons_succ]
              refine anyH_pureG 1 (d := 155) (op := .move (.tmp 9)) (gd := none) (.int .i64 (k : Int)) (by rfl) (fun o ho => wanted_plain ho _) (by kernel_rfl) (by kernel_rfl) (by kernel_rfl) (fun _ _ _ h => h) (fun o ho W hW => by unfold execOp; simp only [ho]; go_simp) HS.out ?_
              simp only [Act.put, List.setIfInBounds_toArray, List.set_cons_zero, List.set_cons_succ]
              refine anyH_pureG 2 (d := 156) (op := .slice 22 (.tmp 154) none (some (.tmp 155)) none) (gd := none) (.slice aa k ac) (by rfl) (fun o ho => wanted_plain ho _) (by kernel_rfl) (by kernel_rfl) (by kernel_rfl) (fun _ _ _ h => h) (fun o ho W hW => exec_dhead dtR (x := .tmp 154) (y := .tmp 155) aa m ac k (by omega) _ (by rfl) (by rfl) o ho W) HS.out ?_
              simp only [Act.put, List.setIfInBounds_toArray, List.set_cons_zero, List.set_cons_succ]
              refine anyH_pureG 3 (d := 157) (op := .move (.tmp 1)) (gd := none) (.slice ba n bc) (by rfl) (fun o ho => wanted_plain ho _) (by kernel_rfl) (by kernel_rfl) (by kernel_rfl) (fun _ _ _ h => h) (fun o ho W hW => by unfold execOp; simp only [ho]; go_simp) HS.out ?_
              simp only [Act.put, List.setIfInBounds_toArray, List.set_cons_zero, List.set_cons_succ]
              refine anyH_pureG 4 (d := 158) (op := .move (.tmp 9)) (gd := none) (.int .i64 (k : Int)) (by rfl) (fun o ho => wanted_plain ho _) (by kernel_rfl) (by kernel_rfl) (by kernel_rfl) (fun _ _ _ h => h) (fun o ho W hW => by unfold execOp; simp only [ho]; go_simp) HS.out ?_
              simp only [Act.put, List.setIfInBounds_toArray, List.set_cons_zero, List.set_cons_succ]
              refine anyH_pureG 5 (d := 159) (op := .slice 22 (.tmp 157) none (some (.tmp 158)) none) (gd := none) (.slice ba k bc) (by rfl) (fun o ho => wanted_plain ho _) (by kernel_rfl) (by kernel_rfl) (by kernel_rfl) (fun _ _ _ h => h) (fun o ho W hW => exec_dhead dtR (x := .tmp 157) (y := .tmp 158) ba n bc k (by omega) _ (by rfl) (by rfl) o ho W) HS.out ?_
              simp only [Act.put, List.setIfInBounds_toArray, List.set_cons_zero, List.set_cons_succ]
              refine anyH_callG 6 (d := some 160) (f := 13) (xs := #[(.tmp 156), (.tmp 159)]) (ts := #[22, 22]) (gd := none) (vs := #[.slice aa k ac, .slice ba k bc]) (by kernel_rfl) (by rfl) (fun o ho => wanted_plain ho _) (by go_simp) (by go_simp) (HSAME.out _ HS.out.1) ?_
              rintro e87 w87 ⟨rfl, hb87⟩
              refine ⟨_, rfl, HS.out.step hb87, fun hS87 => ?_⟩
              have HS := Lib.hid hS87
              clear hS87 hb87
              simp only [Act.put, List.setIfInBounds_toArray, List.set_cons_zero, List.set_cons_succ]
              refine anyH_pureG 7 (d := 161) (op := .unOp .not 4 (.tmp 160)) (gd := none) (.bool false) (by rfl) (fun o ho => wanted_plain ho _) (by kernel_rfl) (by kernel_rfl) (by kernel_rfl) (fun _ _ _ h => h) (fun o ho W hW => by unfold execOp; simp only [ho]; go_simp) HS.out ?_
              simp only [Act.put, List.setIfInBounds_toArray, List.set_cons_zero, List.set_cons_succ]
              refine wpAnyH_done (by kernel_rfl) ?_ _
              go_wp2_with (first | (refine wpList_loadg 31 (.tmp 141) (by rfl) (by rfl) (.pointer (some ⟨g12, 0, none⟩)) (by rfl) (.agg (cellsOf XX).toArray) (HLXs.out _ HS.out) ?_) | (refine wpList_loadg 31 (.tmp 16) (by rfl) (by rfl) (.pointer (some ⟨g16, 0, none⟩)) (by rfl) (.agg (cellsOf P).toArray) (HL16.out _ HS.out) ?_) | (refine wpList_loadg 31 (.tmp 10) (by rfl) (by rfl) (.pointer (some ⟨g10, 0, none⟩)) (by rfl) (.agg (cellsOf s).toArray) (HL10.out _ HS.out) ?_) | (refine wpList_loadg 31 (.tmp 17) (by rfl) (by rfl) (.pointer (some ⟨g17, 0, none⟩)) (by rfl) (.agg (cellsOf Q).toArray) (HL17.out _ HS.out) ?_) | (refine wpList_neqg 31 _ (.tmp 137) (.tmp 138) (by rfl) (by rfl) (cellsOf s).toArray (cellsOf P).toArray (by rfl) (by rfl) HGT.out _ (HQ3.out _) ?_) | (refine wpList_neqg 31 _ (.tmp 142) (.tmp 143) (by rfl) (by rfl) (cellsOf XX).toArray (cellsOf Q).toArray (by rfl) (by rfl) HGT.out _ (HQ4.out _) ?_))
              (try dsimp only [Act.put, List.setIfInBounds_toArray, List.set_cons_zero, List.set_cons_succ])
              have HS := Lib.hid HS.out.drew
              refine anyH_begin (S := SB w B7 [(g16, P), (g17, Q), (g10, s)] g12 CX) (by kernel_rfl) ?_
              refine anyH_pureG 0 (d := 169) (op := .move (.tmp 0)) (gd := none) (.slice aa m ac) (by rfl) (fun o ho => wanted_plain ho _) (by kernel_rfl) (by kernel_rfl) (by kernel_rfl) (fun _ _ _ h => h) (fun o ho W hW => by unfold execOp; simp only [ho]; go_simp) HS.out ?_
              simp only [Act.put, List.setIfInBounds_toArray, List.set_cons_zero, List.set_cons_succ]
              refine anyH_pureG 1 (d := 170) (op := .move (.tmp 9)) (gd := none) (.int .i64 (k : Int)) (by rfl) (fun o ho => wanted_plain ho _) (by kernel_rfl) (by kernel_rfl) (by kernel_rfl) (fun _ _ _ h => h) (fun o ho W hW => by unfold execOp; simp only [ho]; go_simp) HS.out ?_
              simp only [Act.put, List.setIfInBounds_toArray, List.set_cons_zero, List.set_cons_succ]
              refine anyH_pureG 2 (d := 171) (op := .slice 22 (.tmp 169) (some (.tmp 170)) none none) (gd := none) (.slice (sld aa ac k) (m - k) (ac - k)) (by rfl) (fun o ho => wanted_plain ho _) (by kernel_rfl) (by kernel_rfl) (by kernel_rfl) (fun _ _ _ h => h) (fun o ho W hW => exec_dcut dtR (x := .tmp 169) (y := .tmp 170) aa m ac k (by omega) _ (by rfl) (by rfl) o ho W) HS.out ?_
              simp only [Act.put, List.setIfInBounds_toArray, List.set_cons_zero, List.set_cons_succ]
              refine anyH_pureG 3 (d := 172) (op := .move (.tmp 1)) (gd := none) (.slice ba n bc) (by rfl) (fun o ho => wanted_plain ho _) (by kernel_rfl) (by kernel_rfl) (by kernel_rfl) (fun _ _ _ h => h) (fun o ho W hW => by unfold execOp; simp only [ho]; go_simp) HS.out ?_
              simp only [Act.put, List.setIfInBounds_toArray, List.set_cons_zero, List.set_cons_succ]
              refine anyH_pureG 4 (d := 173) (op := .move (.tmp 9)) (gd := none) (.int .i64 (k : Int)) (by rfl) (fun o ho => wanted_plain ho _) (by kernel_rfl) (by kernel_rfl) (by kernel_rfl) (fun _ _ _ h => h) (fun o ho W hW => by unfold execOp; simp only [ho]; go_simp) HS.out ?_
              simp only [Act.put, List.setIfInBounds_toArray, List.set_cons_zero, List.set_cons_succ]
              refine anyH_pureG 5 (d := 174) (op := .slice 22 (.tmp 172) (some (.tmp 173)) none none) (gd := none) (.slice (sld ba bc k) (n - k) (bc - k)) (by rfl) (fun o ho => wanted_plain ho _) (by kernel_rfl) (by kernel_rfl) (by kernel_rfl) (fun _ _ _ h => h) (fun o ho W hW => exec_dcut dtR (x := .tmp 172) (y := .tmp 173) ba n bc k (by omega) _ (by rfl) (by rfl) o ho W) HS.out ?_
              simp only [Act.put, List.setIfInBounds_toArray, List.set_cons_zero, List.set_cons_succ]
              refine anyH_pureG 6 (d := 175) (op := .move (.tmp 11)) (gd := none) (.slice (some ⟨wb, wo, none⟩) L wcp) (by rfl) (fun o ho => wanted_plain ho _) (by kernel_rfl) (by kernel_rfl) (by kernel_rfl) (fun _ _ _ h => h) (fun o ho W hW => by unfold execOp; simp only [ho]; go_simp) HS.out ?_
              simp only [Act.put, List.setIfInBounds_toArray, List.set_cons_zero, List.set_cons_succ]
              refine anyH_callG 7 (d := some 176) (f := 23) (xs := #[(.tmp 171), (.tmp 174), (.const (.bool false)), (.tmp 175)]) (ts := #[22, 22, 4, 22]) (gd := none) (vs := #[.slice (sld aa ac k) (m - k) (ac - k), .slice (sld ba bc k) (n - k) (bc - k), .bool false, .slice (some ⟨wb, wo, none⟩) L wcp]) (by kernel_rfl) (by rfl) (fun o ho => wanted_plain ho _) (by go_simp) (by go_simp) (HREC.out _ HS.out.1) ?_
              rintro e88 w88 ⟨rfl, hb88⟩
              refine ⟨_, rfl, HS.out.step hb88, fun hS88 => ?_⟩
              have HS := Lib.hid hS88
              clear hS88 hb88
              simp only [Act.put, List.setIfInBounds_toArray, List.set_cons_zero, List.set_cons_succ]
              refine anyH_pureG 8 (d := 8) (op := .assign (.tmp 176)) (gd := none) (.bool true) (by rfl) (fun o ho => wanted_plain ho _) (by kernel_rfl) (by kernel_rfl) (by kernel_rfl) (fun _ _ _ h => h) (fun o ho W hW => by unfold execOp; simp only [ho]; go_simp) HS.out ?_
              simp only [Act.put, List.setIfInBounds_toArray, List.set_cons_zero, List.set_cons_succ]
              refine wpAnyH_done (by kernel_rfl) ?_ _
              go_wp2
              go_ret
              exact ⟨rfl, HS.out.1⟩
            · rw [decide_eq_false e5] at HSAME
              have HDIF := Lib.hid (HDIF.out e5)
              clear e5 HREC
              go_wp2_with (first | (refine wpList_loadg 31 (.tmp 141) (by rfl) (by rfl) (.pointer (some ⟨g12, 0, none⟩)) (by rfl) (.agg (cellsOf XX).toArray) (HLXs.out _ HS.out) ?_) | (refine wpList_loadg 31 (.tmp 16) (by rfl) (by rfl) (.pointer (some ⟨g16, 0, none⟩)) (by rfl) (.agg (cellsOf P).toArray) (HL16.out _ HS.out) ?_) | (refine wpList_loadg 31 (.tmp 10) (by rfl) (by rfl) (.pointer (some ⟨g10, 0, none⟩)) (by rfl) (.agg (cellsOf s).toArray) (HL10.out _ HS.out) ?_) | (refine wpList_loadg 31 (.tmp 17) (by rfl) (by rfl) (.pointer (some ⟨g17, 0, none⟩)) (by rfl) (.agg (cellsOf Q).toArray) (HL17.out _ HS.out) ?_) | (refine wpList_neqg 31 _ (.tmp 137) (.tmp 138) (by rfl) (by rfl) (cellsOf s).toArray (cellsOf P).toArray (by rfl) (by rfl) HGT.out _ (HQ3.out _) ?_) | (refine wpList_neqg 31 _ (.tmp 142) (.tmp 143) (by rfl) (by rfl) (cellsOf XX).toArray (cellsOf Q).toArray (by rfl) (by rfl) HGT.out _ (HQ4.out _) ?_))
              (try dsimp only [Act.put, List.setIfInBounds_toArray, List.set_cons_zero, List.set_cons_succ])
              have HS := Lib.hid HS.out.drew
              refine anyH_begin (S := SB w B7 [(g16, P), (g17, Q), (g10, s)] g12 CX) (by kernel_rfl) ?_
              refine anyH_pureG 0 (d := 154) (op := .move (.tmp 0)) (gd := none) (.slice aa m ac) (by rfl) (fun o ho => wanted_plain ho _) (by kernel_rfl) (by kernel_rfl) (by kernel_rfl) (fun _ _ _ h => h) (fun o ho W hW => by unfold execOp; simp only [ho]; go_simp) HS.out ?_
              simp only [Act.put, List.setIfInBounds_toArray, List.set_cons_zero, List.set_cons_succ]
              refine anyH_pureG 1 (d := 155) (op := .move (.tmp 9)) (gd := none) (.int .i64 (k : Int)) (by rfl) (fun o ho => wanted_plain ho _) (by kernel_rfl) (by kernel_rfl) (by kernel_rfl) (fun _ _ _ h => h) (fun o ho W hW => by unfold execOp; simp only [ho]; go_simp) HS.out ?_
              simp only [Act.put, List.setIfInBounds_toArray, List.set_cons_zero, List.set_cons_succ]
              refine anyH_pureG 2 (d := 156) (op := .slice 22 (.tmp 154) none (some (.tmp 155)) none) (gd := none) (.slice aa k ac) (by rfl) (fun o ho => wanted_plain ho _) (by kernel_rfl) (by kernel_rfl) (by kernel_rfl) (fun _ _ _ h => h) (fun o ho W hW => exec_dhead dtR (x := .tmp 154) (y := .tmp 155) aa m ac k (by omega) _ (by rfl) (by rfl) o ho W) HS.out ?_
              simp only [Act.put, List.setIfInBounds_toArray, List.set_cons_zero, List.set_cons_succ]
              refine anyH_pureG 3 (d := 157) (op := .move (.tmp 1)) (gd := none) (.slice ba n bc) (by rfl) (fun o ho => wanted_plain ho _) (by kernel_rfl) (by kernel_rfl) (by kernel_rfl) (fun _ _ _ h => h) (fun o ho W hW => by unfold execOp; simp only [ho]; go_simp) HS.out ?_
              simp only [Act.put, List.setIfInBounds_toArray, List.set_cons_zero, List.set_cons_succ]
              refine anyH_pureG 4 (d := 158) (op := .move (.tmp 9)) (gd := none) (.int .i64 (k : Int)) (by rfl) (fun o ho => wanted_plain ho _) (by kernel_rfl) (by kernel_rfl) (by kernel_rfl) (fun _ _ _ h => h) (fun o ho W hW => by unfold execOp; simp only [ho]; go_simp) HS.out ?_
              simp only [Act.put, List.setIfInBounds_toArray, List.set_cons_zero, List.set_cons_succ]
              refine anyH_pureG 5 (d := 159) (op := .slice 22 (.tmp 157) none (some (.tmp 158)) none) (gd := none) (.slice ba k bc) (by rfl) (fun o ho => wanted_plain ho _) (by kernel_rfl) (by kernel_rfl) (by kernel_rfl) (fun _ _ _ h => h) (fun o ho W hW => exec_dhead dtR (x := .tmp 157) (y := .tmp 158) ba n bc k (by omega) _ (by rfl) (by rfl) o ho W) HS.out ?_
              simp only [Act.put, List.setIfInBounds_toArray, List.set_cons_zero, List.set_cons_succ]
              refine anyH_callG 6 (d := some 160) (f := 13) (xs := #[(.tmp 156), (.tmp 159)]) (ts := #[22, 22]) (gd := none) (vs := #[.slice aa k ac, .slice ba k bc]) (by kernel_rfl) (by rfl) (fun o ho => wanted_plain ho _) (by go_simp) (by go_simp) (HSAME.out _ HS.out.1) ?_
              rintro e89 w89 ⟨rfl, hb89⟩
              refine ⟨_, rfl, HS.out.step hb89, fun hS89 => ?_⟩
              have HS := Lib.hid hS89
              clear hS89 hb89
              simp only [Act.put, List.setIfInBounds_toArray, List.set_cons_zero, List.set_cons_succ]
              refine anyH_pureG 7 (d := 161) (op := .unOp .not 4 (.tmp 160)) (gd := none) (.bool true) (by rfl) (fun o ho => wanted_plain ho _) (by kernel_rfl) (by kernel_rfl) (by kernel_rfl) (fun _ _ _ h => h) (fun o ho W hW => by unfold execOp; simp only [ho]; go_simp) HS.out ?_
              simp only [Act.put, List.setIfInBounds_toArray, List.set_cons_zero, List.set_cons_succ]
              refine wpAnyH_done (by kernel_rfl) ?_ _
              go_wp2_with (first | (refine wpList_loadg 31 (.tmp 141) (by rfl) (by rfl) (.pointer (some ⟨g12, 0, none⟩)) (by rfl) (.agg (cellsOf XX).toArray) (HLXs.out _ HS.out) ?_) | (refine wpList_loadg 31 (.tmp 16) (by rfl) (by rfl) (.pointer (some ⟨g16, 0, none⟩)) (by rfl) (.agg (cellsOf P).toArray) (HL16.out _ HS.out) ?_) | (refine wpList_loadg 31 (.tmp 10) (by rfl) (by rfl) (.pointer (some ⟨g10, 0, none⟩)) (by rfl) (.agg (cellsOf s).toArray) (HL10.out _ HS.out) ?_) | (refine wpList_loadg 31 (.tmp 17) (by rfl) (by rfl) (.pointer (some ⟨g17, 0, none⟩)) (by rfl) (.agg (cellsOf Q).toArray) (HL17.out _ HS.out) ?_) | (refine wpList_neqg 31 _ (.tmp 137) (.tmp 138) (by rfl) (by rfl) (cellsOf s).toArray (cellsOf P).toArray (by rfl) (by rfl) HGT.out _ (HQ3.out _) ?_) | (refine wpList_neqg 31 _ (.tmp 142) (.tmp 143) (by rfl) (by rfl) (cellsOf XX).toArray (cellsOf Q).toArray (by rfl) (by rfl) HGT.out _ (HQ4.out _) ?_))
              (try dsimp only [Act.put, List.setIfInBounds_toArray, List.set_cons_zero, List.set_cons_succ])
              have HS := Lib.hid HS.out.drew
              refine anyH_begin (S := SB w B7 [(g16, P), (g17, Q), (g10, s)] g12 CX) (by kernel_rfl) ?_
              refine anyH_pureG 0 (d := 162) (op := .move (.tmp 0)) (gd := none) (.slice aa m ac) (by rfl) (fun o ho => wanted_plain ho _) (by kernel_rfl) (by kernel_rfl) (by kernel_rfl) (fun _ _ _ h => h) (fun o ho W hW => by unfold execOp; simp only [ho]; go_simp) HS.out ?_
              simp only [Act.put, List.setIfInBounds_toArray, List.set_cons_zero, List.set_cons_succ]
              refine anyH_pureG 1 (d := 163) (op := .move (.tmp 9)) (gd := none) (.int .i64 (k : Int)) (by rfl) (fun o ho => wanted_plain ho _) (by kernel_rfl) (by kernel_rfl) (by kernel_rfl) (fun _ _ _ h => h) (fun o ho W hW => by unfold execOp; simp only [ho]; go_simp) HS.out ?_
              simp only [Act.put, List.setIfInBounds_toArray, List.set_cons_zero, List.set_cons_succ]
              refine anyH_pureG 2 (d := 164) (op := .slice 22 (.tmp 162) none (some (.tmp 163)) none) (gd := none) (.slice aa k ac) (by rfl) (fun o ho => wanted_plain ho _) (by kernel_rfl) (by kernel_rfl) (by kernel_rfl) (fun _ _ _ h => h) (fun o ho W hW => exec_dhead dtR (x := .tmp 162) (y := .tmp 163) aa m ac k (by omega) _ (by rfl) (by rfl) o ho W) HS.out ?_
              simp only [Act.put, List.setIfInBounds_toArray, List.set_cons_zero, List.set_cons_succ]
              refine anyH_pureG 3 (d := 165) (op := .move (.tmp 1)) (gd := none) (.slice ba n bc) (by rfl) (fun o ho => wanted_plain ho _) (by kernel_rfl) (by kernel_rfl) (by kernel_rfl) (fun _ _ _ h => h) (fun o ho W hW => by unfold execOp; simp only [ho]; go_simp) HS.out ?_
              simp only [Act.put, List.setIfInBounds_toArray, List.set_cons_zero, List.set_cons_succ]
              refine anyH_pureG 4 (d := 166) (op := .move (.tmp 9)) (gd := none) (.int .i64 (k : Int)) (by rfl) (fun o ho => wanted_plain ho _) (by kernel_rfl) (by kernel_rfl) (by kernel_rfl) (fun _ _ _ h => h) (fun o ho W hW => by unfold execOp; simp only [ho]; go_simp) HS.out ?_
              simp only [Act.put, List.setIfInBounds_toArray, List.set_cons_zero, List.set_cons_succ]
              refine anyH_pureG 5 (d := 167) (op := .slice 22 (.tmp 165) none (some (.tmp 166)) none) (gd := none) (.slice ba k bc) (by rfl) (fun o ho => wanted_plain ho _) (by kernel_rfl) (by kernel_rfl) (by kernel_rfl) (fun _ _ _ h => h) (fun o ho W hW => exec_dhead dtR (x := .tmp 165) (y := .tmp 166) ba n bc k (by omega) _ (by rfl) (by rfl) o ho W) HS.out ?_
              simp only [Act.put, List.setIfInBounds_toArray, List.set_cons_zero, List.set_cons_succ]
              refine anyH_callG 6 (d := some 168) (f := 35) (xs := #[(.tmp 164), (.tmp 167)]) (ts := #[22, 22]) (gd := none) (vs := #[.slice aa k ac, .slice ba k bc]) (by kernel_rfl) (by rfl) (fun o ho => wanted_plain ho _) (by go_simp) (by go_simp) (HDIF.out _ HS.out.1) ?_
              rintro e90 w90 ⟨rfl, hb90⟩
              refine ⟨_, rfl, HS.out.step hb90, fun hS90 => ?_⟩
              have HS := Lib.hid hS90
              clear hS90 hb90
              simp only [Act.put, List.setIfInBounds_toArray, List.set_cons_zero, List.set_cons_succ]
              refine anyH_pureG 7 (d := 8) (op := .assign (.tmp 168)) (gd := none) (.bool true) (by rfl) (fun o ho => wanted_plain ho _) (by kernel_rfl) (by kernel_rfl) (by kernel_rfl) (fun _ _ _ h => h) (fun o ho W hW => by unfold execOp; simp only [ho]; go_simp) HS.out ?_
              simp only [Act.put, List.setIfInBounds_toArray, List.set_cons_zero, List.set_cons_succ]
              refine wpAnyH_done (by kernel_rfl) ?_ _
              go_wp2
              go_ret
              exact ⟨rfl, HS.out.1⟩
          · rw [decide_eq_false e4] at HQ4
            have HNEQ2 := Lib.hid (HNEQ2.out (.inr e4))
            clear e3 e4 HREC HDIF HSAME
            go_wp2_with (first | (refine wpList_loadg 31 (.tmp 141) (by rfl) (by rfl) (.pointer (some ⟨g12, 0, none⟩)) (by rfl) (.agg (cellsOf XX).toArray) (HLXs.out _ HS.out) ?_) | (refine wpList_loadg 31 (.tmp 16) (by rfl) (by rfl) (.pointer (some ⟨g16, 0, none⟩)) (by rfl) (.agg (cellsOf P).toArray) (HL16.out _ HS.out) ?_) | (refine wpList_loadg 31 (.tmp 10) (by rfl) (by rfl) (.pointer (some ⟨g10, 0, none⟩)) (by rfl) (.agg (cellsOf s).toArray) (HL10.out _ HS.out) ?_) | (refine wpList_loadg 31 (.tmp 17) (by rfl) (by rfl) (.pointer (some ⟨g17, 0, none⟩)) (by rfl) (.agg (cellsOf Q).toArray) (HL17.out _ HS.out) ?_) | (refine wpList_neqg 31 _ (.tmp 137) (.tmp 138) (by rfl) (by rfl) (cellsOf s).toArray (cellsOf P).toArray (by rfl) (by rfl) HGT.out _ (HQ3.out _) ?_) | (refine wpList_neqg 31 _ (.tmp 142) (.tmp 143) (by rfl) (by rfl) (cellsOf XX).toArray (cellsOf Q).toArray (by rfl) (by rfl) HGT.out _ (HQ4.out _) ?_))
            (try dsimp only [Act.put, List.setIfInBounds_toArray, List.set_cons_zero, List.set_cons_succ])
            have HS := Lib.hid HS.out.drew
            refine anyH_begin (S := SB w B7 [(g16, P), (g17, Q), (g10, s)] g12 CX) (by kernel_rfl) ?_
            refine anyH_loadG 0 (d := 146) (ty := 31) (x := (.tmp 10)) (gd := none) (p := .pointer (some ⟨g10, 0, none⟩)) (.agg (cellsOf s).toArray) (by rfl) (fun o ho => wanted_plain ho _) (by kernel_rfl) (by kernel_rfl) (by kernel_rfl) (fun _ _ _ h => h) (by rfl) HL10.out HS.out ?_
            simp only [Act.put, List.setIfInBounds_toArray, List.set_cons_zero, List.set_cons_succ]
            refine anyH_pureG 1 (d := 147) (op := .fieldAddr 70 (.tmp 15) 0) (gd := none) (.pointer (some ⟨g12, 0, none⟩)) (by rfl) (fun o ho => wanted_plain ho _) (by kernel_rfl) (by kernel_rfl) (by kernel_rfl) (fun _ _ _ h => h) (fun o ho W hW => by unfold execOp; simp only [ho]; go_simp) HS.out ?_
            simp only [Act.put, List.setIfInBounds_toArray, List.set_cons_zero, List.set_cons_succ]
            refine anyH_loadG 2 (d := 148) (ty := 31) (x := (.tmp 147)) (gd := none) (p := .pointer (some ⟨g12, 0, none⟩)) (.agg (cellsOf XX).toArray) (by rfl) (fun o ho => wanted_plain ho _) (by kernel_rfl) (by kernel_rfl) (by kernel_rfl) (fun _ _ _ h => h) (by rfl) HLXs.out HS.out ?_
            simp only [Act.put, List.setIfInBounds_toArray, List.set_cons_zero, List.set_cons_succ]
            refine anyH_loadG 4 (d := 150) (ty := 31) (x := (.tmp 16)) (gd := none) (p := .pointer (some ⟨g16, 0, none⟩)) (.agg (cellsOf P).toArray) (by rfl) (fun o ho => wanted_plain ho _) (by kernel_rfl) (by kernel_rfl) (by kernel_rfl) (fun _ _ _ h => h) (by rfl) HL16.out HS.out ?_
            simp only [Act.put, List.setIfInBounds_toArray, List.set_cons_zero, List.set_cons_succ]
            refine anyH_loadG 5 (d := 151) (ty := 31) (x := (.tmp 17)) (gd := none) (p := .pointer (some ⟨g17, 0, none⟩)) (.agg (cellsOf Q).toArray) (by rfl) (fun o ho => wanted_plain ho _) (by kernel_rfl) (by kernel_rfl) (by kernel_rfl) (fun _ _ _ h => h) (by rfl) HL17.out HS.out ?_
            simp only [Act.put, List.setIfInBounds_toArray, List.set_cons_zero, List.set_cons_succ]
            refine anyH_callG 3 (d := some 149) (f := 32) (xs := #[(.tmp 146), (.tmp 148)]) (ts := #[31, 31]) (gd := none) (vs := #[.agg (cellsOf s).toArray, .agg (cellsOf XX).toArray]) (by kernel_rfl) (by rfl) (fun o ho => wanted_plain ho _) (by go_simp) (by go_simp) (pairR_c s XX _ HSD.out HXD.out) ?_
            rintro e91 w91 ⟨p1, q1, rfl, hrd91, hb91⟩
            refine ⟨_, rfl, HS.out.step hb91, fun hS91 => ?_⟩
            have HS := Lib.hid hS91
            have HP1 := Lib.hid hrd91
            clear hS91 hb91 hrd91
            simp only [Act.put, List.setIfInBounds_toArray, List.set_cons_zero, List.set_cons_succ]
            refine anyH_callG 6 (d := some 152) (f := 32) (xs := #[(.tmp 150), (.tmp 151)]) (ts := #[31, 31]) (gd := none) (vs := #[.agg (cellsOf P).toArray, .agg (cellsOf Q).toArray]) (by kernel_rfl) (by rfl) (fun o ho => wanted_plain ho _) (by go_simp) (by go_simp) (pairR_c P Q _ HPD.out HQD.out) ?_
            rintro e92 w92 ⟨p2, q2, rfl, hrd92, hb92⟩
            refine ⟨_, rfl, HS.out.step hb92, fun hS92 => ?_⟩
            have HS := Lib.hid hS92
            have HP2 := Lib.hid hrd92
            have HP1 := Lib.hid (HP1.out.below hb92)
            clear hS92 hb92 hrd92
            simp only [Act.put, List.setIfInBounds_toArray, List.set_cons_zero, List.set_cons_succ]
            refine anyH_callG 7 (d := some 153) (f := 37) (xs := #[(.tmp 149), (.tmp 152)]) (ts := #[64, 64]) (gd := none) (vs := #[.slice p1 65 q1, .slice p2 65 q2]) (by kernel_rfl) (by rfl) (fun o ho => wanted_plain ho _) (by go_simp) (by go_simp) (apart_c p1 p2 65 q1 q2 _ _ _ HP1.out HP2.out HR2.out HNEQ2.out (by omega)) ?_
            rintro e93 w93 ⟨rfl, hb93⟩
            refine ⟨_, rfl, HS.out.step hb93, fun hS93 => ?_⟩
            have HS := Lib.hid hS93
            clear hS93 hb93
            simp only [Act.put, List.setIfInBounds_toArray, List.set_cons_zero, List.set_cons_succ]
            refine anyH_pureG 8 (d := 8) (op := .assign (.tmp 153)) (gd := none) (.bool true) (by rfl) (fun o ho => wanted_plain ho _) (by kernel_rfl) (by kernel_rfl) (by kernel_rfl) (fun _ _ _ h => h) (fun o ho W hW => by unfold execOp; simp only [ho]; go_simp) HS.out ?_
            simp only [Act.put, List.setIfInBounds_toArray, List.set_cons_zero, List.set_cons_succ]
            refine wpAnyH_done (by kernel_rfl) ?_ _
            go_wp2
            go_ret
            exact ⟨rfl, HS.out.1⟩
        · rw [decide_eq_false e3] at HQ3
          have HNEQ2 := Lib.hid (HNEQ2.out (.inl e3))
          clear e3 HREC HDIF HSAME
          go_wp2_with (first | (refine wpList_loadg 31 (.tmp 141) (by rfl) (by rfl) (.pointer (some ⟨g12, 0, none⟩)) (by rfl) (.agg (cellsOf XX).toArray) (HLXs.out _ HS.out) ?_) | (refine wpList_loadg 31 (.tmp 16) (by rfl) (by rfl) (.pointer (some ⟨g16, 0, none⟩)) (by rfl) (.agg (cellsOf P).toArray) (HL16.out _ HS.out) ?_) | (refine wpList_loadg 31 (.tmp 10) (by rfl) (by rfl) (.pointer (some ⟨g10, 0, none⟩)) (by rfl) (.agg (cellsOf s).toArray) (HL10.out _ HS.out) ?_) | (refine wpList_loadg 31 (.tmp 17) (by rfl) (by rfl) (.pointer (some ⟨g17, 0, none⟩)) (by rfl) (.agg (cellsOf Q).toArray) (HL17.out _ HS.out) ?_) | (refine wpList_neqg 31 _ (.tmp 137) (.tmp 138) (by rfl) (by rfl) (cellsOf s).toArray (cellsOf P).toArray (by rfl) (by rfl) HGT.out _ (HQ3.out _) ?_) | (refine wpList_neqg 31 _ (.tmp 142) (.tmp 143) (by rfl) (by rfl) (cellsOf XX).toArray (cellsOf Q).toArray (by rfl) (by rfl) HGT.out _ (HQ4.out _) ?_))
          (try dsimp only [Act.put, List.setIfInBounds_toArray, List.set_cons_zero, List.set_cons_succ])
          have HS := Lib.hid HS.out.drew
          refine anyH_begin (S := SB w B7 [(g16, P), (g17, Q), (g10, s)] g12 CX) (by kernel_rfl) ?_
          refine anyH_loadG 0 (d := 146) (ty := 31) (x := (.tmp 10)) (gd := none) (p := .pointer (some ⟨g10, 0, none⟩)) (.agg (cellsOf s).toArray) (by rfl) (fun o ho => wanted_plain ho _) (by kernel_rfl) (by kernel_rfl) (by kernel_rfl) (fun _ _ _ h => h) (by rfl) HL10.out HS.out ?_
          simp only [Act.put, List.setIfInBounds_toArray, List.set_cons_zero, List.set_cons_succ]
          refine anyH_pureG 1 (d := 147) (op := .fieldAddr 70 (.tmp 15) 0) (gd := none) (.pointer (some ⟨g12, 0, none⟩)) (by rfl) (fun o ho => wanted_plain ho _) (by kernel_rfl) (by kernel_rfl) (by kernel_rfl) (fun _ _ _ h => h) (fun o ho W hW => by unfold execOp; simp only [ho]; go_simp) HS.out ?_
          simp only [Act.put, List.setIfInBounds_toArray, List.set_cons_zero, List.set_cons_succ]
          refine anyH_loadG 2 (d := 148) (ty := 31) (x := (.tmp 147)) (gd := none) (p := .pointer (some ⟨g12, 0, none⟩)) (.agg (cellsOf XX).toArray) (by rfl) (fun o ho => wanted_plain ho _) (by kernel_rfl) (by kernel_rfl) (by kernel_rfl) (fun _ _ _ h => h) (by rfl) HLXs.out HS.out ?_
          simp only [Act.put, List.setIfInBounds_toArray, List.set_cons_zero, List.set_cons_succ]
          refine anyH_loadG 4 (d := 150) (ty := 31) (x := (.tmp 16)) (gd := none) (p := .pointer (some ⟨g16, 0, none⟩)) (.agg (cellsOf P).toArray) (by rfl) (fun o ho => wanted_plain ho _) (by kernel_rfl) (by kernel_rfl) (by kernel_rfl) (fun _ _ _ h => h) (by rfl) HL16.out HS.out ?_
          simp only [Act.put, List.setIfInBounds_toArray, List.set_cons_zero, List.set_cons_succ]
          refine anyH_loadG 5 (d := 151) (ty := 31) (x := (.tmp 17)) (gd := none) (p := .pointer (some ⟨g17, 0, none⟩)) (.agg (cellsOf Q).toArray) (by rfl) (fun o ho => wanted_plain ho _) (by kernel_rfl) (by kernel_rfl) (by kernel_rfl) (fun _ _ _ h => h) (by rfl) HL17.out HS.out ?_
          simp only [Act.put, List.setIfInBounds_toArray, List.set_cons_zero, List.set_cons_succ]
          refine anyH_callG 3 (d := some 149) (f := 32) (xs := #[(.tmp 146), (.tmp 148)]) (ts := #[31, 31]) (gd := none) (vs := #[.agg (cellsOf s).toArray, .agg (cellsOf XX).toArray]) (by kernel_rfl) (by rfl) (fun o ho => wanted_plain ho _) (by go_simp) (by go_simp) (pairR_c s XX _ HSD.out HXD.out) ?_
          rintro e94 w94 ⟨p1, q1, rfl, hrd94, hb94⟩
          refine ⟨_, rfl, HS.out.step hb94, fun hS94 => ?_⟩
          have HS := Lib.hid hS94
          have HP1 := Lib.hid hrd94
          clear hS94 hb94 hrd94
          simp only [Act.put, List.setIfInBounds_toArray, List.set_cons_zero, List.set_cons_succ]
          refine anyH_callG 6 (d := some 152) (f := 32) (xs := #[(.tmp 150), (.tmp 151)]) (ts := #[31, 31]) (gd := none) (vs := #[.agg (cellsOf P).toArray, .agg (cellsOf Q).toArray]) (by kernel_rfl) (by rfl) (fun o ho => wanted_plain ho _) (by go_simp) (by go_simp) (pairR_c P Q _ HPD.out HQD.out) ?_
          rintro e95 w95 ⟨p2, q2, rfl, hrd95, hb95⟩
          refine ⟨_, rfl, HS.out.step hb95, fun hS95 => ?_⟩
          have HS := Lib.hid hS95
          have HP2 := Lib.hid hrd95
          have HP1 := Lib.hid (HP1.out.below hb95)
          clear hS95 hb95 hrd95
          simp only [Act.put, List.setIfInBounds_toArray, List.set_cons_zero, List.set_cons_succ]
          refine anyH_callG 7 (d := some 153) (f := 37) (xs := #[(.tmp 149), (.tmp 152)]) (ts := #[64, 64]) (gd := none) (vs := #[.slice p1 65 q1, .slice p2 65 q2]) (by kernel_rfl) (by rfl) (fun o ho => wanted_plain ho _) (by go_simp) (by go_simp) (apart_c p1 p2 65 q1 q2 _ _ _ HP1.out HP2.out HR2.out HNEQ2.out (by omega)) ?_
          rintro e96 w96 ⟨rfl, hb96⟩
          refine ⟨_, rfl, HS.out.step hb96, fun hS96 => ?_⟩
          have HS := Lib.hid hS96
          clear hS96 hb96
          simp only [Act.put, List.setIfInBounds_toArray, List.set_cons_zero, List.set_cons_succ]
          refine anyH_pureG 8 (d := 8) (op := .assign (.tmp 153)) (gd := none) (.bool true) (by rfl) (fun o ho => wanted_plain ho _) (by kernel_rfl) (by kernel_rfl) (by kernel_rfl) (fun _ _ _ h => h) (fun o ho W hW => by unfold execOp; simp only [ho]; go_simp) HS.out ?_
          simp only [Act.put, List.setIfInBounds_toArray, List.set_cons_zero, List.set_cons_succ]
          refine wpAnyH_done (by kernel_rfl) ?_ _
          go_wp2
          go_ret
          exact ⟨rfl, HS.out.1⟩
      · rw [decide_eq_false e2] at HQ2
        have HNEQ := Lib.hid (HNEQ.out (.inr e2))
        clear e1 e2 HREC HDIF HSAME HR2 HNEQ2
        go_wp2_with (first | (refine wpList_loadg 31 (.tmp 116) (by rfl) (by rfl) (.pointer (some ⟨g12, 32, none⟩)) (by rfl) (.agg (cellsOf Y).toArray) (HLYs.out _ HS.out) ?_) | (refine wpList_loadg 31 (.tmp 16) (by rfl) (by rfl) (.pointer (some ⟨g16, 0, none⟩)) (by rfl) (.agg (cellsOf U).toArray) (HL16.out _ HS.out) ?_) | (refine wpList_loadg 31 (.tmp 10) (by rfl) (by rfl) (.pointer (some ⟨g10, 0, none⟩)) (by rfl) (.agg (cellsOf s).toArray) (HL10.out _ HS.out) ?_) | (refine wpList_loadg 31 (.tmp 17) (by rfl) (by rfl) (.pointer (some ⟨g17, 0, none⟩)) (by rfl) (.agg (cellsOf V).toArray) (HL17.out _ HS.out) ?_) | (refine wpList_neqg 31 _ (.tmp 112) (.tmp 113) (by rfl) (by rfl) (cellsOf s).toArray (cellsOf U).toArray (by rfl) (by rfl) HGT.out _ (HQ1.out _) ?_) | (refine wpList_neqg 31 _ (.tmp 117) (.tmp 118) (by rfl) (by rfl) (cellsOf Y).toArray (cellsOf V).toArray (by rfl) (by rfl) HGT.out _ (HQ2.out _) ?_))
        (try dsimp only [Act.put, List.setIfInBounds_toArray, List.set_cons_zero, List.set_cons_succ])
        have HS := Lib.hid HS.out.drew
        refine anyH_begin (S := SB w B6 [(g16, U), (g17, V), (g10, s)] g12 CX) (by kernel_rfl) ?_
        refine anyH_loadG 0 (d := 121) (ty := 31) (x := (.tmp 10)) (gd := none) (p := .pointer (some ⟨g10, 0, none⟩)) (.agg (cellsOf s).toArray) (by rfl) (fun o ho => wanted_plain ho _) (by kernel_rfl) (by kernel_rfl) (by kernel_rfl) (fun _ _ _ h => h) (by rfl) HL10.out HS.out ?_
        simp only [Act.put, List.setIfInBounds_toArray, List.set_cons_zero, List.set_cons_succ]
        refine anyH_pureG 1 (d := 122) (op := .fieldAddr 70 (.tmp 15) 1) (gd := none) (.pointer (some ⟨g12, 32, none⟩)) (by rfl) (fun o ho => wanted_plain ho _) (by kernel_rfl) (by kernel_rfl) (by kernel_rfl) (fun _ _ _ h => h) (fun o ho W hW => by unfold execOp; simp only [ho]; go_simp) HS.out ?_
        simp only [Act.put, List.setIfInBounds_toArray, List.set_cons_zero, List.set_cons_succ]
        refine anyH_loadG 2 (d := 123) (ty := 31) (x := (.tmp 122)) (gd := none) (p := .pointer (some ⟨g12, 32, none⟩)) (.agg (cellsOf Y).toArray) (by rfl) (fun o ho => wanted_plain ho _) (by kernel_rfl) (by kernel_rfl) (by kernel_rfl) (fun _ _ _ h => h) (by rfl) HLYs.out HS.out ?_
        simp only [Act.put, List.setIfInBounds_toArray, List.set_cons_zero, List.set_cons_succ]
        refine anyH_loadG 4 (d := 125) (ty := 31) (x := (.tmp 16)) (gd := none) (p := .pointer (some ⟨g16, 0, none⟩)) (.agg (cellsOf U).toArray) (by rfl) (fun o ho => wanted_plain ho _) (by kernel_rfl) (by kernel_rfl) (by kernel_rfl) (fun _ _ _ h => h) (by rfl) HL16.out HS.out ?_
        simp only [Act.put, List.setIfInBounds_toArray, List.set_cons_zero, List.set_cons_succ]
        refine anyH_loadG 5 (d := 126) (ty := 31) (x := (.tmp 17)) (gd := none) (p := .pointer (some ⟨g17, 0, none⟩)) (.agg (cellsOf V).toArray) (by rfl) (fun o ho => wanted_plain ho _) (by kernel_rfl) (by kernel_rfl) (by kernel_rfl) (fun _ _ _ h => h) (by rfl) HL17.out HS.out ?_
        simp only [Act.put, List.setIfInBounds_toArray, List.set_cons_zero, List.set_cons_succ]
        refine anyH_callG 3 (d := some 124) (f := 32) (xs := #[(.tmp 121), (.tmp 123)]) (ts := #[31, 31]) (gd := none) (vs := #[.agg (cellsOf s).toArray, .agg (cellsOf Y).toArray]) (by kernel_rfl) (by rfl) (fun o ho => wanted_plain ho _) (by go_simp) (by go_simp) (pairR_c s Y _ HSD.out HYD.out) ?_
        rintro e97 w97 ⟨p1, q1, rfl, hrd97, hb97⟩
        refine ⟨_, rfl, HS.out.step hb97, fun hS97 => ?_⟩
        have HS := Lib.hid hS97
        have HP1 := Lib.hid hrd97
        clear hS97 hb97 hrd97
        simp only [Act.put, List.setIfInBounds_toArray, List.set_cons_zero, List.set_cons_succ]
        refine anyH_callG 6 (d := some 127) (f := 32) (xs := #[(.tmp 125), (.tmp 126)]) (ts := #[31, 31]) (gd := none) (vs := #[.agg (cellsOf U).toArray, .agg (cellsOf V).toArray]) (by kernel_rfl) (by rfl) (fun o ho => wanted_plain ho _) (by go_simp) (by go_simp) (pairR_c U V _ HUD.out HVD.out) ?_
        rintro e98 w98 ⟨p2, q2, rfl, hrd98, hb98⟩
        refine ⟨_, rfl, HS.out.step hb98, fun hS98 => ?_⟩
        have HS := Lib.hid hS98
        have HP2 := Lib.hid hrd98
        have HP1 := Lib.hid (HP1.out.below hb98)
        clear hS98 hb98 hrd98
        simp only [Act.put, List.setIfInBounds_toArray, List.set_cons_zero, List.set_cons_succ]
        refine anyH_callG 7 (d := some 128) (f := 37) (xs := #[(.tmp 124), (.tmp 127)]) (ts := #[64, 64]) (gd := none) (vs := #[.slice p1 65 q1, .slice p2 65 q2]) (by kernel_rfl) (by rfl) (fun o ho => wanted_plain ho _) (by go_simp) (by go_simp) (apart_c p1 p2 65 q1 q2 _ _ _ HP1.out HP2.out HR.out HNEQ.out (by omega)) ?_
        rintro e99 w99 ⟨rfl, hb99⟩
        refine ⟨_, rfl, HS.out.step hb99, fun hS99 => ?_⟩
        have HS := Lib.hid hS99
        clear hS99 hb99
        simp only [Act.put, List.setIfInBounds_toArray, List.set_cons_zero, List.set_cons_succ]
        refine anyH_pureG 8 (d := 8) (op := .assign (.tmp 128)) (gd := none) (.bool true) (by rfl) (fun o ho => wanted_plain ho _) (by kernel_rfl) (by kernel_rfl) (by kernel_rfl) (fun _ _ _ h => h) (fun o ho W hW => by unfold execOp; simp only [ho]; go_simp) HS.out ?_
        simp only [Act.put, List.setIfInBounds_toArray, List.set_cons_zero, List.set_cons_succ]
        refine wpAnyH_done (by kernel_rfl) ?_ _
        go_wp2
        go_ret
        exact ⟨rfl, HS.out.1⟩
    · rw [decide_eq_false e1] at HQ1
      have HNEQ := Lib.hid (HNEQ.out (.inl e1))
      clear e1 HREC HDIF HSAME HR2 HNEQ2
      go_wp2_with (first | (refine wpList_loadg 31 (.tmp 116) (by rfl) (by rfl) (.pointer (some ⟨g12, 32, none⟩)) (by rfl) (.agg (cellsOf Y).toArray) (HLYs.out _ HS.out) ?_) | (refine wpList_loadg 31 (.tmp 16) (by rfl) (by rfl) (.pointer (some ⟨g16, 0, none⟩)) (by rfl) (.agg (cellsOf U).toArray) (HL16.out _ HS.out) ?_) | (refine wpList_loadg 31 (.tmp 10) (by rfl) (by rfl) (.pointer (some ⟨g10, 0, none⟩)) (by rfl) (.agg (cellsOf s).toArray) (HL10.out _ HS.out) ?_) | (refine wpList_loadg 31 (.tmp 17) (by rfl) (by rfl) (.pointer (some ⟨g17, 0, none⟩)) (by rfl) (.agg (cellsOf V).toArray) (HL17.out _ HS.out) ?_) | (refine wpList_neqg 31 _ (.tmp 112) (.tmp 113) (by rfl) (by rfl) (cellsOf s).toArray (cellsOf U).toArray (by rfl) (by rfl) HGT.out _ (HQ1.out _) ?_) | (refine wpList_neqg 31 _ (.tmp 117) (.tmp 118) (by rfl) (by rfl) (cellsOf Y).toArray (cellsOf V).toArray (by rfl) (by rfl) HGT.out _ (HQ2.out _) ?_))
      (try dsimp only [Act.put, List.setIfInBounds_toArray, List.set_cons_zero, List.set_cons_succ])
      have HS := Lib.hid HS.out.drew
      refine anyH_begin (S := SB w B6 [(g16, U), (g17, V), (g10, s)] g12 CX) (by kernel_rfl) ?_
      refine anyH_loadG 0 (d := 121) (ty := 31) (x := (.tmp 10)) (gd := none) (p := .pointer (some ⟨g10, 0, none⟩)) (.agg (cellsOf s).toArray) (by rfl) (fun o ho => wanted_plain ho _) (by kernel_rfl) (by kernel_rfl) (by kernel_rfl) (fun _ _ _ h => h) (by rfl) HL10.out HS.out ?_
      simp only [Act.put, List.setIfInBounds_toArray, List.set_cons_zero, List.set_cons_succ]
      refine anyH_pureG 1 (d := 122) (op := .fieldAddr 70 (.tmp 15) 1) (gd := none) (.pointer (some ⟨g12, 32, none⟩)) (by rfl) (fun o ho => wanted_plain ho _) (by kernel_rfl) (by kernel_rfl) (by kernel_rfl) (fun _ _ _ h => h) (fun o ho W hW => by unfold execOp; simp only [ho]; go_simp) HS.out ?_
      simp only [Act.put, List.setIfInBounds_toArray, List.set_cons_zero, List.set_cons_succ]
      refine anyH_loadG 2 (d := 123) (ty := 31) (x := (.tmp 122)) (gd := none) (p := .pointer (some ⟨g12, 32, none⟩)) (.agg (cellsOf Y).toArray) (by rfl) (fun o ho => wanted_plain ho _) (by kernel_rfl) (by kernel_rfl) (by kernel_rfl) (fun _ _ _ h => h) (by rfl) HLYs.out HS.out ?_
      simp only [Act.put, List.setIfInBounds_toArray, List.set_cons_zero, List.set_cons_succ]
      refine anyH_loadG 4 (d := 125) (ty := 31) (x := (.tmp 16)) (gd := none) (p := .pointer (some ⟨g16, 0, none⟩)) (.agg (cellsOf U).toArray) (by rfl) (fun o ho => wanted_plain ho _) (by kernel_rfl) (by kernel_rfl) (by kernel_rfl) (fun _ _ _ h => h) (by rfl) HL16.out HS.out ?_
      simp only [Act.put, List.setIfInBounds_toArray, List.set_cons_zero, List.set_cons_succ]
      refine anyH_loadG 5 (d := 126) (ty := 31) (x := (.tmp 17)) (gd := none) (p := .pointer (some ⟨g17, 0, none⟩)) (.agg (cellsOf V).toArray) (by rfl) (fun o ho => wanted_plain ho _) (by kernel_rfl) (by kernel_rfl) (by kernel_rfl) (fun _ _ _ h => h) (by rfl) HL17.out HS.out ?_
      simp only [Act.put, List.setIfInBounds_toArray, List.set_cons_zero, List.set_cons_succ]
      refine anyH_callG 3 (d := some 124) (f := 32) (xs := #[(.tmp 121), (.tmp 123)]) (ts := #[31, 31]) (gd := none) (vs := #[.agg (cellsOf s).toArray, .agg (cellsOf Y).toArray]) (by kernel_rfl) (by rfl) (fun o ho => wanted_plain ho _) (by go_simp) (by go_simp) (pairR_c s Y _ HSD.out HYD.out) ?_
      rintro e100 w100 ⟨p1, q1, rfl, hrd100, hb100⟩
      refine ⟨_, rfl, HS.out.step hb100, fun hS100 => ?_⟩
      have HS := Lib.hid hS100
      have HP1 := Lib.hid hrd100
      clear hS100 hb100 hrd100
      simp only [Act.put, List.setIfInBounds_toArray, List.set_cons_zero, List.set_cons_succ]
      refine anyH_callG 6 (d := some 127) (f := 32) (xs := #[(.tmp 125), (.tmp 126)]) (ts := #[31, 31]) (gd := none) (vs := #[.agg (cellsOf U).toArray, .agg (cellsOf V).toArray]) (by kernel_rfl) (by rfl) (fun o ho => wanted_plain ho _) (by go_simp) (by go_simp) (pairR_c U V _ HUD.out HVD.out) ?_
      rintro e101 w101 ⟨p2, q2, rfl, hrd101, hb101⟩
      refine ⟨_, rfl, HS.out.step hb101, fun hS101 => ?_⟩
      have HS := Lib.hid hS101
      have HP2 := Lib.hid hrd101
      have HP1 := Lib.hid (HP1.out.below hb101)
      clear hS101 hb101 hrd101
      simp only [Act.put, List.setIfInBounds_toArray, List.set_cons_zero, List.set_cons_succ]
      refine anyH_callG 7 (d := some 128) (f := 37) (xs := #[(.tmp 124), (.tmp 127)]) (ts := #[64, 64]) (gd := none) (vs := #[.slice p1 65 q1, .slice p2 65 q2]) (by kernel_rfl) (by rfl) (fun o ho => wanted_plain ho _) (by go_simp) (by go_simp) (apart_c p1 p2 65 q1 q2 _ _ _ HP1.out HP2.out HR.out HNEQ.out (by omega)) ?_
      rintro e102 w102 ⟨rfl, hb102⟩
      refine ⟨_, rfl, HS.out.step hb102, fun hS102 => ?_⟩
      have HS := Lib.hid hS102
      clear hS102 hb102
      simp only [Act.put, List.setIfInBounds_toArray, List.set_cons_zero, List.set_cons_succ]
      refine anyH_pureG 8 (d := 8) (op := .assign (.tmp 128)) (gd := none) (.bool true) (by rfl) (fun o ho => wanted_plain ho _) (by kernel_rfl) (by kernel_rfl) (by kernel_rfl) (fun _ _ _ h => h) (fun o ho W hW => by unfold execOp; simp only [ho]; go_simp) HS.out ?_
      simp only [Act.put, List.setIfInBounds_toArray, List.set_cons_zero, List.set_cons_succ]
      refine wpAnyH_done (by kernel_rfl) ?_ _
      go_wp2
      go_ret
      exact ⟨rfl, HS.out.1⟩
end Go.Proofs.YtoknjhpdbigbhaaDoor
