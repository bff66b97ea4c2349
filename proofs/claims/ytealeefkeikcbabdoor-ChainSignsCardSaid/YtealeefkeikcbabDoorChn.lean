/-
  The walks over to and from of layer 4's laws, and over ChainSigns.
-/
import Derived.Test.YtealeefkeikcbabDoorChm7
namespace Go.Proofs.YtealeefkeikcbabDoor
open Go.RowKit
set_option linter.unusedVariables false
set_option maxRecDepth 100000 in
set_option maxHeartbeats 2000000 in
theorem cfrom_c (ds : Ds) (w : World) (hd : D67 ds) :
    Calls Tryd.prog 26 #[.agg (cellsOf ds.flatten).toArray] w (DigRet ds.flatten w) := by
  have HD := Lib.hid hd
  have HI7 := Lib.hid (info_ds7 44 info_a7 hd)
  have HIR := Lib.hid (info_ds7 46 info_r7 hd)
  have HZR := Lib.hid (size_ds7 d67_zero hd)
  obtain ⟨f, hf⟩ : ∃ f : Nat → List Nat, f = fun c => ds.getD c [] := ⟨_, rfl⟩
  have HFD := Lib.hid (show ∀ c, c < 67 → D32 (f c) from fun c hc => by rw [hf]; exact hd.get c hc)
  have HFC := Lib.hid (show ∀ c, f c = ds.getD c [] from fun c => by rw [hf])
  have HFE := Lib.hid (show (List.range 67).map f = ds from by
    rw [hf]
    apply List.ext_getElem?
    intro i
    by_cases hi : i < 67
    · rw [List.getElem?_map, List.getElem?_range hi, List.getElem?_eq_getElem (by rw [hd.1]; exact hi)]
      simp [List.getD_eq_getElem?_getD, List.getElem?_eq_getElem (show i < ds.length by rw [hd.1]; exact hi)]
    · rw [List.getElem?_eq_none (by simp; omega), List.getElem?_eq_none (by rw [hd.1]; omega)])
  clear hd hf
  go_enter Tryd.func26, Tryd.ntmps26
  go_upto_region 2 with fail
  rw [ztR]
  refine gen_code (F := E3 w 44 46 46 ds.flatten zs7.flatten zs7.flatten) (E3.new w _ _ _ _ _ _) ?_
  intro wA h
  have H0 := Lib.hid h
  clear h
  go_wp2_with (first | (refine wpList_load_row (by rfl) 44 _ (by rfl) w.heap.size (by rfl) _ (cellsOf ds.flatten).toArray (0, 0) _ H0.out.1 Tryd.underlying44 (by rfl) HI7.out ?_))
  go_loopw [7] (fun i wr => ∃ k : Nat, k ≤ 67 ∧ i = .int .i64 k ∧ Hid (E3 w 44 46 46 ds.flatten zs7.flatten (pre f zs7 k).flatten wr)) (fun i _ => 67 - (intOf i).toNat)
  case atStart => exact ⟨0, by omega, rfl, by rw [pre_zero f zs7 (by simp [zs7])]; exact H0⟩
  case round =>
    clear H0
    obtain ⟨k, hk, rfl, HB⟩ := hrel
    obtain ⟨es, hes⟩ : ∃ es, es = pre f zs7 k := ⟨_, rfl⟩
    have HES := Lib.hid (show D67 es from by rw [hes]; exact pre_67 f zs7 k HFD.out d67_zero)
    rw [← hes] at HB
    by_cases hk67 : k < 67
    · obtain ⟨Y, hY⟩ : ∃ Y, Y = f k := ⟨_, rfl⟩
      have HYD := Lib.hid (show D32 Y from by rw [hY]; exact HFD.out k hk67)
      have hix : ∀ W : World, (Instr.index 44 (.agg (cellsOf ds.flatten).toArray) (.int .i64 (k : Int))).run Tryd.prog W = .ok (.agg (cellsOf Y).toArray) W := fun W => by rw [hY, HFC.out]; exact index_a ds HD.out k hk67 W
      have HNX := Lib.hid (show es.set k Y = pre f zs7 (k + 1) from by rw [hes, hY]; exact pre_set f zs7 k hk67)
      have HIY := Lib.hid (info_d32 Y HYD.out)
      have HIY' := Lib.hid (info_r32 Y HYD.out)
      have HZ := Lib.hid (zs_size Y HYD.out)
      have K1 := Lib.hid (fun (V : Obj) (hV : V = .cells (cellsOf zs32).toArray 25 (0, 0)) => show Brow ((wr.alloc V).setRow wr.heap.size (cellsOf Y).toArray) wr.heap.size 25 Y ∧ E3 w 44 46 46 ds.flatten zs7.flatten es.flatten ((wr.alloc V).setRow wr.heap.size (cellsOf Y).toArray) from by
        subst hV
        exact ⟨(Brow.new wr 25 zs32).setRow, HB.out.below (((Below.refl _ _).alloc (Nat.le_refl _) _).setRow (Nat.le_refl _) _)⟩)
      clear hY hes
      go_upto_region 5 with (first | (refine wpList_store_row (by rfl) 25 _ _ (by rfl) wr.heap.size (cellsOf Y).toArray (by rfl) (by rfl) 25 (cellsOf zs32).toArray (by exact heap_new _ _) HIY.out HZ.out (cellsOf_all _) ?_))
      refine gen_code (F := fun W => Brow W wr.heap.size 25 Y ∧ E3 w 44 46 46 ds.flatten zs7.flatten es.flatten W) (K1.out _ rfl) ?_
      rintro w1 ⟨h1, h2⟩
      have H1 := Lib.hid h1
      have H2 := Lib.hid h2
      have HTH := Lib.hid (there_at H2.out.2.2.1 HES.out k hk67 HYD.out)
      have HST := Lib.hid (set_at H2.out.2.2.1 HES.out k hk67 HYD.out)
      have H3 := Lib.hid (H2.out.at2 HST.out.2 HST.out.1)
      rw [HNX.out] at H3
      clear h1 h2 K1 HB hix
      go_upto_region 6 with (first | (refine wpList_load_row (by rfl) 25 _ (by rfl) wr.heap.size (by rfl) _ (cellsOf Y).toArray (0, 0) _ H1.out Tryd.underlying25 (by rfl) HIY.out ?_) | (refine wpList_store_mid (by rfl) 22 (.tmp 13) (.tmp 12) (by rfl) (w.heap.size + 1 + 1) (k * 32) (cellsOf Y).toArray (by rfl) (by rfl) HTH.out HIY'.out (cellsOf_all _) ?_))
      refine gen_code (F := E3 w 44 46 46 ds.flatten zs7.flatten (pre f zs7 (k + 1)).flatten) H3.out ?_
      intro w4 h4
      have H4 := Lib.hid h4
      clear h4 H1 H2 H3 HTH HST
      go_wp2_with fail
      go_roundw
      case rel => exact ⟨k + 1, by omega, by go_num, H4⟩
      case measure => simp [intOf]; omega
    · obtain rfl : k = 67 := by omega
      have HEE := Lib.hid (show es = ds from by rw [hes, pre_all]; exact HFE.out)
      clear hes
      rw [HEE.out] at HB
      go_wp2_with (first | (refine wpList_load_row (by rfl) 46 _ (by rfl) (w.heap.size + 1 + 1) (by rfl) _ (cellsOf ds.flatten).toArray (0, 0) _ HB.out.2.2.1 Tryd.underlying46 (by rfl) HIR.out ?_) | (refine wpList_store_row (by rfl) 46 _ _ (by rfl) (w.heap.size + 1) (cellsOf ds.flatten).toArray (by rfl) (by rfl) 46 (cellsOf zs7.flatten).toArray HB.out.2.1 HIR.out HZR.out (cellsOf_all _) ?_))
      refine bodyPost_ret (results_cell_row (by rfl) _ _ (w.heap.size + 1) _ (cellsOf ds.flatten).toArray (0, 0) _ (by rfl) HB.out.2.1.setRow Tryd.underlying46 (by rfl) HIR.out) ?_ ?_
      · rfl
      · exact ⟨rfl, HB.out.2.2.2.setRow (by omega) _⟩
set_option maxRecDepth 100000 in
set_option maxHeartbeats 2000000 in
theorem cto_c (ds : Ds) (w : World) (hd : D67 ds) :
    Calls Tryd.prog 29 #[.agg (cellsOf ds.flatten).toArray] w (DigRet ds.flatten w) := by
  have HD := Lib.hid hd
  have HI7 := Lib.hid (info_ds7 46 info_r7 hd)
  have HIR := Lib.hid (info_ds7 44 info_a7 hd)
  have HZR := Lib.hid (size_ds7 d67_zero hd)
  obtain ⟨f, hf⟩ : ∃ f : Nat → List Nat, f = fun c => ds.getD c [] := ⟨_, rfl⟩
  have HFD := Lib.hid (show ∀ c, c < 67 → D32 (f c) from fun c hc => by rw [hf]; exact hd.get c hc)
  have HFC := Lib.hid (show ∀ c, f c = ds.getD c [] from fun c => by rw [hf])
  have HFE := Lib.hid (show (List.range 67).map f = ds from by
    rw [hf]
    apply List.ext_getElem?
    intro i
    by_cases hi : i < 67
    · rw [List.getElem?_map, List.getElem?_range hi, List.getElem?_eq_getElem (by rw [hd.1]; exact hi)]
      simp [List.getD_eq_getElem?_getD, List.getElem?_eq_getElem (show i < ds.length by rw [hd.1]; exact hi)]
    · rw [List.getElem?_eq_none (by simp; omega), List.getElem?_eq_none (by rw [hd.1]; omega)])
  clear hd hf
  go_enter Tryd.func29, Tryd.ntmps29
  go_upto_region 2 with fail
  rw [ztA]
  refine gen_code (F := E3 w 46 44 44 ds.flatten zs7.flatten zs7.flatten) (E3.new w _ _ _ _ _ _) ?_
  intro wA h
  have H0 := Lib.hid h
  clear h
  go_wp2_with (first | (refine wpList_load_row (by rfl) 46 _ (by rfl) w.heap.size (by rfl) _ (cellsOf ds.flatten).toArray (0, 0) _ H0.out.1 Tryd.underlying46 (by rfl) HI7.out ?_))
  go_loopw [7] (fun i wr => ∃ k : Nat, k ≤ 67 ∧ i = .int .i64 k ∧ Hid (E3 w 46 44 44 ds.flatten zs7.flatten (pre f zs7 k).flatten wr)) (fun i _ => 67 - (intOf i).toNat)
  case atStart => exact ⟨0, by omega, rfl, by rw [pre_zero f zs7 (by simp [zs7])]; exact H0⟩
  case round =>
    clear H0
    obtain ⟨k, hk, rfl, HB⟩ := hrel
    obtain ⟨es, hes⟩ : ∃ es, es = pre f zs7 k := ⟨_, rfl⟩
    have HES := Lib.hid (show D67 es from by rw [hes]; exact pre_67 f zs7 k HFD.out d67_zero)
    rw [← hes] at HB
    by_cases hk67 : k < 67
    · obtain ⟨Y, hY⟩ : ∃ Y, Y = f k := ⟨_, rfl⟩
      have HYD := Lib.hid (show D32 Y from by rw [hY]; exact HFD.out k hk67)
      have hix : ∀ W : World, (Instr.index 46 (.agg (cellsOf ds.flatten).toArray) (.int .i64 (k : Int))).run Tryd.prog W = .ok (.agg (cellsOf Y).toArray) W := fun W => by rw [hY, HFC.out]; exact index_r ds HD.out k hk67 W
      have HNX := Lib.hid (show es.set k Y = pre f zs7 (k + 1) from by rw [hes, hY]; exact pre_set f zs7 k hk67)
      have HIY := Lib.hid (info_r32 Y HYD.out)
      have HIY' := Lib.hid (info_d32 Y HYD.out)
      have HZ := Lib.hid (zs_size Y HYD.out)
      have K1 := Lib.hid (fun (V : Obj) (hV : V = .cells (cellsOf zs32).toArray 22 (0, 0)) => show Brow ((wr.alloc V).setRow wr.heap.size (cellsOf Y).toArray) wr.heap.size 22 Y ∧ E3 w 46 44 44 ds.flatten zs7.flatten es.flatten ((wr.alloc V).setRow wr.heap.size (cellsOf Y).toArray) from by
        subst hV
        exact ⟨(Brow.new wr 22 zs32).setRow, HB.out.below (((Below.refl _ _).alloc (Nat.le_refl _) _).setRow (Nat.le_refl _) _)⟩)
      clear hY hes
      go_upto_region 5 with (first | (refine wpList_store_row (by rfl) 22 _ _ (by rfl) wr.heap.size (cellsOf Y).toArray (by rfl) (by rfl) 22 (cellsOf zs32).toArray (by exact heap_new _ _) HIY.out HZ.out (cellsOf_all _) ?_))
      refine gen_code (F := fun W => Brow W wr.heap.size 22 Y ∧ E3 w 46 44 44 ds.flatten zs7.flatten es.flatten W) (K1.out _ rfl) ?_
      rintro w1 ⟨h1, h2⟩
      have H1 := Lib.hid h1
      have H2 := Lib.hid h2
      have HTH := Lib.hid (there_at H2.out.2.2.1 HES.out k hk67 HYD.out)
      have HST := Lib.hid (set_at H2.out.2.2.1 HES.out k hk67 HYD.out)
      have H3 := Lib.hid (H2.out.at2 HST.out.2 HST.out.1)
      rw [HNX.out] at H3
      clear h1 h2 K1 HB hix
      go_upto_region 6 with (first | (refine wpList_load_row (by rfl) 22 _ (by rfl) wr.heap.size (by rfl) _ (cellsOf Y).toArray (0, 0) _ H1.out Tryd.underlying22 (by rfl) HIY.out ?_) | (refine wpList_store_mid (by rfl) 25 (.tmp 13) (.tmp 12) (by rfl) (w.heap.size + 1 + 1) (k * 32) (cellsOf Y).toArray (by rfl) (by rfl) HTH.out HIY'.out (cellsOf_all _) ?_))
      refine gen_code (F := E3 w 46 44 44 ds.flatten zs7.flatten (pre f zs7 (k + 1)).flatten) H3.out ?_
      intro w4 h4
      have H4 := Lib.hid h4
      clear h4 H1 H2 H3 HTH HST
      go_wp2_with fail
      go_roundw
      case rel => exact ⟨k + 1, by omega, by go_num, H4⟩
      case measure => simp [intOf]; omega
    · obtain rfl : k = 67 := by omega
      have HEE := Lib.hid (show es = ds from by rw [hes, pre_all]; exact HFE.out)
      clear hes
      rw [HEE.out] at HB
      go_wp2_with (first | (refine wpList_load_row (by rfl) 44 _ (by rfl) (w.heap.size + 1 + 1) (by rfl) _ (cellsOf ds.flatten).toArray (0, 0) _ HB.out.2.2.1 Tryd.underlying44 (by rfl) HIR.out ?_) | (refine wpList_store_row (by rfl) 44 _ _ (by rfl) (w.heap.size + 1) (cellsOf ds.flatten).toArray (by rfl) (by rfl) 44 (cellsOf zs7.flatten).toArray HB.out.2.1 HIR.out HZR.out (cellsOf_all _) ?_))
      refine bodyPost_ret (results_cell_row (by rfl) _ _ (w.heap.size + 1) _ (cellsOf ds.flatten).toArray (0, 0) _ (by rfl) HB.out.2.1.setRow Tryd.underlying44 (by rfl) HIR.out) ?_ ?_
      · rfl
      · exact ⟨rfl, HB.out.2.2.2.setRow (by omega) _⟩
def CS (w : World) (g7 g8 g9 : Nat) (seed m : List Nat) (sg : Ds) (pb : List Nat) (W : World) : Prop := X2 w seed m W ∧ Brow W g7 44 sg.flatten ∧ Brow W g8 46 sg.flatten ∧ Brow W g9 25 pb
theorem CS.below {w W W' : World} {g7 g8 g9 : Nat} {seed m : List Nat} {sg : Ds} {pb : List Nat} (h : CS w g7 g8 g9 seed m sg pb W) (hb : Below W.heap.size W W') : CS w g7 g8 g9 seed m sg pb W' := ⟨h.1.below hb, h.2.1.below hb h.2.1.lt, h.2.2.1.below hb h.2.2.1.lt, h.2.2.2.below hb h.2.2.2.lt⟩
theorem CS.drew {w W : World} {g7 g8 g9 : Nat} {seed m : List Nat} {sg : Ds} {pb : List Nat} (h : CS w g7 g8 g9 seed m sg pb W) : CS w g7 g8 g9 seed m sg pb W.drew := ⟨h.1.drew, h.2.1.drew, h.2.2.1.drew, h.2.2.2.drew⟩
theorem load_a7 (W : World) (g : Nat) (ds : Ds) (hd : D67 ds) (h : Brow W g 44 ds.flatten) : (Instr.loadAt 44 (.pointer (some ⟨g, 0, none⟩))).run Tryd.prog W = .ok (.agg (cellsOf ds.flatten).toArray) W :=
  run_loadAt_mid W g 0 44 (cellsOf ds.flatten) _ h.range Tryd.underlying44 rfl (by rw [cellsOf_length, hd.flat]; exact info_a7)
theorem load_r7 (W : World) (g : Nat) (ds : Ds) (hd : D67 ds) (h : Brow W g 46 ds.flatten) : (Instr.loadAt 46 (.pointer (some ⟨g, 0, none⟩))).run Tryd.prog W = .ok (.agg (cellsOf ds.flatten).toArray) W :=
  run_loadAt_mid W g 0 46 (cellsOf ds.flatten) _ h.range Tryd.underlying46 rfl (by rw [cellsOf_length, hd.flat]; exact info_r7)
theorem lay_row {W : World} {T : TypeId} {x y : List Nat} (V : Obj) (hV : V = .cells (cellsOf x).toArray T (0, 0)) : Brow ((W.alloc V).setRow W.heap.size (cellsOf y).toArray) W.heap.size T y ∧ Below W.heap.size W ((W.alloc V).setRow W.heap.size (cellsOf y).toArray) := by
  subst hV
  exact ⟨(Brow.new W T x).setRow, ((Below.refl _ _).alloc (Nat.le_refl _) _).setRow (Nat.le_refl _) _⟩
set_option maxRecDepth 100000 in
set_option maxHeartbeats 4000000 in
theorem signs_c (seed : List Nat) (key : Nat) (m : List Nat) (w : World) (hs : D32 seed) (hm : D32 m) (hk' : key < 4294967296) (ht : Tab w) :
    Calls Tryd.prog 7 #[.agg (cellsOf seed).toArray, .int .u32 (key : Int), .agg (cellsOf m).toArray] w fun e w' => e = .returned (.bool true) ∧ Below w.heap.size w w' := by
  have HSD := Lib.hid hs
  have HM := Lib.hid hm
  have HT := Lib.hid ht
  have hpos := ht.pos
  have HIS := Lib.hid (info_r32 seed hs)
  have HIM := Lib.hid (info_r32 m hm)
  obtain ⟨sg, hsg⟩ : ∃ sg, sg = Ch.signS seed key m := ⟨_, rfl⟩
  obtain ⟨pb, hpb⟩ : ∃ pb, pb = Ch.pressS (Ch.endsS seed key) := ⟨_, rfl⟩
  have HSG := Lib.hid (show D67 sg from by rw [hsg]; exact map_67 _ fun c _ => Ch.d32_climb (Ch.d32_sec _ _ _) _ _)
  have HPD := Lib.hid (show D32 pb from by rw [hpb]; exact d32_of_sum _)
  have HSN := Lib.hid (show ∀ W, Tab W → Calls Tryd.prog 23 #[.agg (cellsOf seed).toArray, .int .u32 (key : Int), .agg (cellsOf m).toArray] W (DigRet sg.flatten W) from fun W hW => by rw [hsg]; exact sign_c seed key m W hs hm hk' hW)
  have HRS := Lib.hid (show ∀ W, Calls Tryd.prog 24 #[.agg (cellsOf seed).toArray, .int .u32 (key : Int), .agg (cellsOf m).toArray] W (DigRet sg.flatten W) from fun W => by rw [hsg]; exact rsign_c seed key m W hs hm hk')
  have HPU := Lib.hid (show ∀ W, Tab W → Calls Tryd.prog 25 #[.agg (cellsOf seed).toArray, .int .u32 (key : Int)] W (DigRet pb W) from fun W hW => by rw [hpb]; exact public_c seed key W hs hk' hW)
  have HPB := Lib.hid (show ∀ W, Calls Tryd.prog 27 #[.agg (cellsOf seed).toArray, .int .u32 (key : Int)] W (DigRet pb W) from fun W => by rw [hpb]; exact rpublic_c seed key W hs hk')
  have HRE := Lib.hid (show ∀ W, Tab W → Calls Tryd.prog 28 #[.int .u32 (key : Int), .agg (cellsOf m).toArray, .agg (cellsOf sg.flatten).toArray] W (DigRet pb W) from fun W hW => by
    have h := recover_c key m sg W hm HSG.out hk' hW
    rw [hsg, Ch.sign_tops seed key m hm, ← hpb, ← hsg] at h
    exact h)
  have HFR := Lib.hid (fun W => cfrom_c sg W HSG.out)
  have HIA7 := Lib.hid (info_ds7 44 info_a7 HSG.out)
  have HIR7 := Lib.hid (info_ds7 46 info_r7 HSG.out)
  have HZ7 := Lib.hid (size_ds7 d67_zero HSG.out)
  have HIP := Lib.hid (info_d32 pb HPD.out)
  have HZP := Lib.hid (zs_size pb HPD.out)
  clear hs hm ht hsg hpb
  go_enter Tryd.func7, Tryd.ntmps7
  go_upto_region 1 with fail
  refine gen_code (F := X2 w seed m) (X2.new w _ _) ?_
  intro wA h
  have H0 := Lib.hid h
  clear h
  go_wp2_with (first | (refine wpList_load_row (by rfl) 22 (.tmp 3) (by rfl) w.heap.size (by rfl) _ (cellsOf seed).toArray (0, 0) _ H0.out.1 Tryd.underlying22 (by rfl) HIS.out ?_) | (refine wpList_load_row (by rfl) 22 (.tmp 5) (by rfl) (w.heap.size + 1) (by rfl) _ (cellsOf m).toArray (0, 0) _ H0.out.2.1 Tryd.underlying22 (by rfl) HIM.out ?_))
  refine (HSN.out wA (HT.out.below H0.out.2.2 hpos)).mono ?_
  rintro e1 w1 ⟨rfl, hb1⟩
  have H1 := Lib.hid (H0.out.below hb1)
  clear hb1 H0
  obtain ⟨g7, hg7⟩ : ∃ g, g = w1.heap.size := ⟨_, rfl⟩
  have HLY := Lib.hid (fun V hV => lay_row (W := w1) (T := 44) (x := zs7.flatten) (y := sg.flatten) V hV)
  go_upto_region 2 with (first | (refine wpList_store_row (by rfl) 44 _ _ (by rfl) w1.heap.size (cellsOf sg.flatten).toArray (by rfl) (by rfl) 44 (cellsOf zs7.flatten).toArray (by rw [← ztA]; exact heap_new _ _) HIA7.out HZ7.out (cellsOf_all _) ?_))
  refine gen_code (F := fun W => X2 w seed m W ∧ Brow W g7 44 sg.flatten) (by
    rw [hg7, ztA]
    have h := HLY.out _ rfl
    exact ⟨H1.out.below h.2, h.1⟩) ?_
  rintro w2 ⟨h, h7⟩
  have H2 := Lib.hid h
  have H7 := Lib.hid h7
  rw [← hg7]
  clear h h7 H1 hg7 HLY
  go_wp2_with (first | (refine wpList_load_row (by rfl) 22 (.tmp 3) (by rfl) w.heap.size (by rfl) _ (cellsOf seed).toArray (0, 0) _ H2.out.1 Tryd.underlying22 (by rfl) HIS.out ?_) | (refine wpList_load_row (by rfl) 22 (.tmp 5) (by rfl) (w.heap.size + 1) (by rfl) _ (cellsOf m).toArray (0, 0) _ H2.out.2.1 Tryd.underlying22 (by rfl) HIM.out ?_))
  refine (HRS.out w2).mono ?_
  rintro e3 w3 ⟨rfl, hb3⟩
  have H3 := Lib.hid (H2.out.below hb3)
  have H7 := Lib.hid (H7.out.below hb3 H7.out.lt)
  clear hb3 H2
  obtain ⟨g8, hg8⟩ : ∃ g, g = w3.heap.size := ⟨_, rfl⟩
  have HLY := Lib.hid (fun V hV => lay_row (W := w3) (T := 46) (x := zs7.flatten) (y := sg.flatten) V hV)
  go_upto_region 3 with (first | (refine wpList_store_row (by rfl) 46 _ _ (by rfl) w3.heap.size (cellsOf sg.flatten).toArray (by rfl) (by rfl) 46 (cellsOf zs7.flatten).toArray (by rw [← ztR]; exact heap_new _ _) HIR7.out HZ7.out (cellsOf_all _) ?_))
  refine gen_code (F := fun W => X2 w seed m W ∧ Brow W g7 44 sg.flatten ∧ Brow W g8 46 sg.flatten) (by
    rw [hg8, ztR]
    have h := HLY.out _ rfl
    exact ⟨H3.out.below h.2, H7.out.below h.2 H7.out.lt, h.1⟩) ?_
  rintro w4 ⟨h, h7, h8⟩
  have H4 := Lib.hid h
  have H7 := Lib.hid h7
  have H8 := Lib.hid h8
  rw [← hg8]
  clear h h7 h8 H3 hg8 HLY
  go_wp2_with (first | (refine wpList_load_row (by rfl) 22 (.tmp 3) (by rfl) w.heap.size (by rfl) _ (cellsOf seed).toArray (0, 0) _ H4.out.1 Tryd.underlying22 (by rfl) HIS.out ?_))
  refine (HPU.out w4 (HT.out.below H4.out.2.2 hpos)).mono ?_
  rintro e5 w5 ⟨rfl, hb5⟩
  have H5 := Lib.hid (H4.out.below hb5)
  have H7 := Lib.hid (H7.out.below hb5 H7.out.lt)
  have H8 := Lib.hid (H8.out.below hb5 H8.out.lt)
  clear hb5 H4
  obtain ⟨g9, hg9⟩ : ∃ g, g = w5.heap.size := ⟨_, rfl⟩
  have HLY := Lib.hid (fun V hV => lay_row (W := w5) (T := 25) (x := zs32) (y := pb) V hV)
  go_upto_region 4 with (first | (refine wpList_store_row (by rfl) 25 _ _ (by rfl) w5.heap.size (cellsOf pb).toArray (by rfl) (by rfl) 25 (cellsOf zs32).toArray (by exact heap_new _ _) HIP.out HZP.out (cellsOf_all _) ?_))
  refine gen_code (F := CS w g7 g8 g9 seed m sg pb) (by
    rw [hg9]
    have h := HLY.out _ rfl
    exact ⟨H5.out.below h.2, H7.out.below h.2 H7.out.lt, H8.out.below h.2 H8.out.lt, h.1⟩) ?_
  intro w6 h
  have HS := Lib.hid h.drew
  rw [← hg9]
  clear h H5 H7 H8 hg9 HLY
  (try dsimp only [Act.put, List.setIfInBounds_toArray, List.set_cons_zero, List.set_cons_succ])
  have HT' := Lib.hid (show ∀ W, CS w g7 g8 g9 seed m sg pb W → Tab W from fun W hW => HT.out.below hW.1.2.2 hpos)
  have HAW := Lib.hid (show ∀ W, CS w g7 g8 g9 seed m sg pb W → Calls Tryd.prog 14 #[] W (fun e w' => e = .returned (.bool true) ∧ Below W.heap.size W w') from fun W hW => awake4_c W (HT'.out W hW))
  have HRC := Lib.hid (show ∀ W, CS w g7 g8 g9 seed m sg pb W → Calls Tryd.prog 28 #[.int .u32 (key : Int), .agg (cellsOf m).toArray, .agg (cellsOf sg.flatten).toArray] W (DigRet pb W) from fun W hW => HRE.out W (HT'.out W hW))
  have HL7 := Lib.hid (fun W (hW : CS w g7 g8 g9 seed m sg pb W) => load_a7 W g7 sg HSG.out hW.2.1)
  have HL8 := Lib.hid (fun W (hW : CS w g7 g8 g9 seed m sg pb W) => load_r7 W g8 sg HSG.out hW.2.2.1)
  have HL9 := Lib.hid (fun W (hW : CS w g7 g8 g9 seed m sg pb W) => loadA W g9 pb HPD.out hW.2.2.2)
  have HLS := Lib.hid (fun W (hW : CS w g7 g8 g9 seed m sg pb W) => loadR W w.heap.size seed HSD.out hW.1.1)
  have HLM := Lib.hid (fun W (hW : CS w g7 g8 g9 seed m sg pb W) => loadR W (w.heap.size + 1) m HM.out hW.1.2.1)
  have HEP := Lib.hid (fun W => eqA W HPD.out)
  have HEG := Lib.hid (show ∀ W, (Op.equalIn 10000 46 (.agg (cellsOf sg.flatten).toArray) (.agg (cellsOf sg.flatten).toArray)).run Tryd.prog W = .ok true W from fun W => by
    simpa using eq_r7 sg sg HSG.out HSG.out W)
  have HGT := Lib.hid (show Tryd.prog.eqGuardType Tryd.prog.depth 25 = false by kernel_rfl)
  have HG7 := Lib.hid (show Tryd.prog.eqGuardType Tryd.prog.depth 46 = false by kernel_rfl)
  refine anyH_begin (S := CS w g7 g8 g9 seed m sg pb) (by kernel_rfl) ?_
  refine anyH_callG 0 (d := some 21) (f := 14) (xs := #[]) (ts := #[]) (gd := none) (vs := #[]) (by kernel_rfl) (by rfl) (fun o ho => wanted_plain ho _) (by go_simp) (by go_simp) (HAW.out _ HS.out) ?_
  rintro e91 w91 ⟨rfl, hb91⟩
  refine ⟨_, rfl, HS.out.below hb91, fun hS91 => ?_⟩
  have HS := Lib.hid hS91
  clear hS91 hb91
  simp only [Act.put, List.setIfInBounds_toArray, List.set_cons_zero, List.set_cons_succ]
  refine anyH_pureG 1 (d := 22) (op := .move (.tmp 21)) (gd := none) (.bool true) (by rfl) (fun o ho => wanted_plain ho _) (by kernel_rfl) (by kernel_rfl) (by kernel_rfl) (fun _ _ _ h => h) (fun o ho W hW => by unfold execOp; simp only [ho]; go_simp) HS.out ?_
  simp only [Act.put, List.setIfInBounds_toArray, List.set_cons_zero, List.set_cons_succ]
  refine anyH_loadG 2 (d := 23) (ty := 44) (x := (.tmp 7)) (gd := some (1, true)) (p := .pointer (some ⟨g7, 0, none⟩)) (.agg (cellsOf sg.flatten).toArray) (by rfl) (fun o ho => by simp only [Region.wanted, ho]; rfl) (by kernel_rfl) (by kernel_rfl) (by kernel_rfl) (fun _ _ _ h => h) (by rfl) HL7.out HS.out ?_
  simp only [Act.put, List.setIfInBounds_toArray, List.set_cons_zero, List.set_cons_succ]
  refine anyH_loadG 4 (d := 25) (ty := 46) (x := (.tmp 8)) (gd := some (1, true)) (p := .pointer (some ⟨g8, 0, none⟩)) (.agg (cellsOf sg.flatten).toArray) (by rfl) (fun o ho => by simp only [Region.wanted, ho]; rfl) (by kernel_rfl) (by kernel_rfl) (by kernel_rfl) (fun _ _ _ h => h) (by rfl) HL8.out HS.out ?_
  simp only [Act.put, List.setIfInBounds_toArray, List.set_cons_zero, List.set_cons_succ]
  refine anyH_callG 3 (d := some 24) (f := 26) (xs := #[(.tmp 23)]) (ts := #[44]) (gd := some (1, true)) (vs := #[.agg (cellsOf sg.flatten).toArray]) (by kernel_rfl) (by rfl) (fun o ho => by simp only [Region.wanted, ho]; rfl) (by go_simp) (by go_simp) (HFR.out _) ?_
  rintro e92 w92 ⟨rfl, hb92⟩
  refine ⟨_, rfl, HS.out.below hb92, fun hS92 => ?_⟩
  have HS := Lib.hid hS92
  clear hS92 hb92
  simp only [Act.put, List.setIfInBounds_toArray, List.set_cons_zero, List.set_cons_succ]
  refine anyH_eqG 5 (d := 26) (t := 46) (t' := 46) (x := (.tmp 24)) (y := (.tmp 25)) (gd := some (1, true)) ((cellsOf sg.flatten).toArray) ((cellsOf sg.flatten).toArray) true (by rfl) (fun o ho => by simp only [Region.wanted, ho]; rfl) (by kernel_rfl) (by kernel_rfl) (by kernel_rfl) (fun _ _ _ h => h) (by rfl) (by rfl) HG7.out (fun W => HEG.out W) HS.out ?_
  simp only [Act.put, List.setIfInBounds_toArray, List.set_cons_zero, List.set_cons_succ]
  refine anyH_pureG 6 (d := 27) (op := .pick (.tmp 22) (.tmp 26) (.const (.bool false))) (gd := none) (.bool true) (by rfl) (fun o ho => wanted_plain ho _) (by kernel_rfl) (by kernel_rfl) (by kernel_rfl) (fun _ _ _ h => h) (fun o ho W hW => by unfold execOp; simp only [ho]; go_simp) HS.out ?_
  simp only [Act.put, List.setIfInBounds_toArray, List.set_cons_zero, List.set_cons_succ]
  refine anyH_pureG 7 (d := 28) (op := .move (.tmp 27)) (gd := none) (.bool true) (by rfl) (fun o ho => wanted_plain ho _) (by kernel_rfl) (by kernel_rfl) (by kernel_rfl) (fun _ _ _ h => h) (fun o ho W hW => by unfold execOp; simp only [ho]; go_simp) HS.out ?_
  simp only [Act.put, List.setIfInBounds_toArray, List.set_cons_zero, List.set_cons_succ]
  refine anyH_loadG 8 (d := 29) (ty := 25) (x := (.tmp 9)) (gd := some (7, true)) (p := .pointer (some ⟨g9, 0, none⟩)) (.agg (cellsOf pb).toArray) (by rfl) (fun o ho => by simp only [Region.wanted, ho]; rfl) (by kernel_rfl) (by kernel_rfl) (by kernel_rfl) (fun _ _ _ h => h) (by rfl) HL9.out HS.out ?_
  simp only [Act.put, List.setIfInBounds_toArray, List.set_cons_zero, List.set_cons_succ]
  refine anyH_loadG 9 (d := 30) (ty := 22) (x := (.tmp 3)) (gd := some (7, true)) (p := .pointer (some ⟨w.heap.size, 0, none⟩)) (.agg (cellsOf seed).toArray) (by rfl) (fun o ho => by simp only [Region.wanted, ho]; rfl) (by kernel_rfl) (by kernel_rfl) (by kernel_rfl) (fun _ _ _ h => h) (by rfl) HLS.out HS.out ?_
  simp only [Act.put, List.setIfInBounds_toArray, List.set_cons_zero, List.set_cons_succ]
  refine anyH_pureG 10 (d := 31) (op := .move (.tmp 1)) (gd := some (7, true)) (.int .u32 (key : Int)) (by rfl) (fun o ho => by simp only [Region.wanted, ho]; rfl) (by kernel_rfl) (by kernel_rfl) (by kernel_rfl) (fun _ _ _ h => h) (fun o ho W hW => by unfold execOp; simp only [ho]; go_simp) HS.out ?_
  simp only [Act.put, List.setIfInBounds_toArray, List.set_cons_zero, List.set_cons_succ]
  refine anyH_callG 11 (d := some 32) (f := 27) (xs := #[(.tmp 30), (.tmp 31)]) (ts := #[22, 23]) (gd := some (7, true)) (vs := #[.agg (cellsOf seed).toArray, .int .u32 (key : Int)]) (by kernel_rfl) (by rfl) (fun o ho => by simp only [Region.wanted, ho]; rfl) (by go_simp) (by go_simp) (HPB.out _) ?_
  rintro e93 w93 ⟨rfl, hb93⟩
  refine ⟨_, rfl, HS.out.below hb93, fun hS93 => ?_⟩
  have HS := Lib.hid hS93
  clear hS93 hb93
  simp only [Act.put, List.setIfInBounds_toArray, List.set_cons_zero, List.set_cons_succ]
  refine anyH_eqG 12 (d := 33) (t := 25) (t' := 25) (x := (.tmp 29)) (y := (.tmp 32)) (gd := some (7, true)) ((cellsOf pb).toArray) ((cellsOf pb).toArray) true (by rfl) (fun o ho => by simp only [Region.wanted, ho]; rfl) (by kernel_rfl) (by kernel_rfl) (by kernel_rfl) (fun _ _ _ h => h) (by rfl) (by rfl) HGT.out (fun W => HEP.out W) HS.out ?_
  simp only [Act.put, List.setIfInBounds_toArray, List.set_cons_zero, List.set_cons_succ]
  refine anyH_pureG 13 (d := 34) (op := .pick (.tmp 28) (.tmp 33) (.const (.bool false))) (gd := none) (.bool true) (by rfl) (fun o ho => wanted_plain ho _) (by kernel_rfl) (by kernel_rfl) (by kernel_rfl) (fun _ _ _ h => h) (fun o ho W hW => by unfold execOp; simp only [ho]; go_simp) HS.out ?_
  simp only [Act.put, List.setIfInBounds_toArray, List.set_cons_zero, List.set_cons_succ]
  refine anyH_pureG 14 (d := 35) (op := .move (.tmp 34)) (gd := none) (.bool true) (by rfl) (fun o ho => wanted_plain ho _) (by kernel_rfl) (by kernel_rfl) (by kernel_rfl) (fun _ _ _ h => h) (fun o ho W hW => by unfold execOp; simp only [ho]; go_simp) HS.out ?_
  simp only [Act.put, List.setIfInBounds_toArray, List.set_cons_zero, List.set_cons_succ]
  refine anyH_pureG 15 (d := 36) (op := .move (.tmp 1)) (gd := some (14, true)) (.int .u32 (key : Int)) (by rfl) (fun o ho => by simp only [Region.wanted, ho]; rfl) (by kernel_rfl) (by kernel_rfl) (by kernel_rfl) (fun _ _ _ h => h) (fun o ho W hW => by unfold execOp; simp only [ho]; go_simp) HS.out ?_
  simp only [Act.put, List.setIfInBounds_toArray, List.set_cons_zero, List.set_cons_succ]
  refine anyH_loadG 16 (d := 37) (ty := 22) (x := (.tmp 5)) (gd := some (14, true)) (p := .pointer (some ⟨w.heap.size + 1, 0, none⟩)) (.agg (cellsOf m).toArray) (by rfl) (fun o ho => by simp only [Region.wanted, ho]; rfl) (by kernel_rfl) (by kernel_rfl) (by kernel_rfl) (fun _ _ _ h => h) (by rfl) HLM.out HS.out ?_
  simp only [Act.put, List.setIfInBounds_toArray, List.set_cons_zero, List.set_cons_succ]
  refine anyH_loadG 17 (d := 38) (ty := 44) (x := (.tmp 7)) (gd := some (14, true)) (p := .pointer (some ⟨g7, 0, none⟩)) (.agg (cellsOf sg.flatten).toArray) (by rfl) (fun o ho => by simp only [Region.wanted, ho]; rfl) (by kernel_rfl) (by kernel_rfl) (by kernel_rfl) (fun _ _ _ h => h) (by rfl) HL7.out HS.out ?_
  simp only [Act.put, List.setIfInBounds_toArray, List.set_cons_zero, List.set_cons_succ]
  refine anyH_loadG 19 (d := 40) (ty := 25) (x := (.tmp 9)) (gd := some (14, true)) (p := .pointer (some ⟨g9, 0, none⟩)) (.agg (cellsOf pb).toArray) (by rfl) (fun o ho => by simp only [Region.wanted, ho]; rfl) (by kernel_rfl) (by kernel_rfl) (by kernel_rfl) (fun _ _ _ h => h) (by rfl) HL9.out HS.out ?_
  simp only [Act.put, List.setIfInBounds_toArray, List.set_cons_zero, List.set_cons_succ]
  refine anyH_callG 18 (d := some 39) (f := 28) (xs := #[(.tmp 36), (.tmp 37), (.tmp 38)]) (ts := #[23, 25, 44]) (gd := some (14, true)) (vs := #[.int .u32 (key : Int), .agg (cellsOf m).toArray, .agg (cellsOf sg.flatten).toArray]) (by kernel_rfl) (by rfl) (fun o ho => by simp only [Region.wanted, ho]; rfl) (by go_simp) (by go_simp) (HRC.out _ HS.out) ?_
  rintro e94 w94 ⟨rfl, hb94⟩
  refine ⟨_, rfl, HS.out.below hb94, fun hS94 => ?_⟩
  have HS := Lib.hid hS94
  clear hS94 hb94
  simp only [Act.put, List.setIfInBounds_toArray, List.set_cons_zero, List.set_cons_succ]
  refine anyH_eqG 20 (d := 41) (t := 25) (t' := 25) (x := (.tmp 39)) (y := (.tmp 40)) (gd := some (14, true)) ((cellsOf pb).toArray) ((cellsOf pb).toArray) true (by rfl) (fun o ho => by simp only [Region.wanted, ho]; rfl) (by kernel_rfl) (by kernel_rfl) (by kernel_rfl) (fun _ _ _ h => h) (by rfl) (by rfl) HGT.out (fun W => HEP.out W) HS.out ?_
  simp only [Act.put, List.setIfInBounds_toArray, List.set_cons_zero, List.set_cons_succ]
  refine anyH_pureG 21 (d := 42) (op := .pick (.tmp 35) (.tmp 41) (.const (.bool false))) (gd := none) (.bool true) (by rfl) (fun o ho => wanted_plain ho _) (by kernel_rfl) (by kernel_rfl) (by kernel_rfl) (fun _ _ _ h => h) (fun o ho W hW => by unfold execOp; simp only [ho]; go_simp) HS.out ?_
  simp only [Act.put, List.setIfInBounds_toArray, List.set_cons_zero, List.set_cons_succ]
  refine anyH_pureG 22 (d := 6) (op := .assign (.tmp 42)) (gd := none) (.bool true) (by rfl) (fun o ho => wanted_plain ho _) (by kernel_rfl) (by kernel_rfl) (by kernel_rfl) (fun _ _ _ h => h) (fun o ho W hW => by unfold execOp; simp only [ho]; go_simp) HS.out ?_
  simp only [Act.put, List.setIfInBounds_toArray, List.set_cons_zero, List.set_cons_succ]
  refine wpAnyH_done (by kernel_rfl) ?_ _
  go_wp2
  go_ret
  exact ⟨rfl, HS.out.1.2.2⟩
theorem csigns_c (seed : List Nat) (key : Int) (m : List Nat) (w : World) (hs : D32 seed) (hk : (Lit.int .u32 key).wf = true) (hm : D32 m) (ht : Tab w) :
    Calls Tryd.prog 7 #[.agg (cellsOf seed).toArray, .int .u32 key, .agg (cellsOf m).toArray] w fun e w' => e = .returned (.bool true) ∧ Below w.heap.size w w' := by
  have h1 : 0 ≤ key ∧ key ≤ 4294967295 := by simpa [Lit.wf, IntKind.min, IntKind.max, IntKind.signed, IntKind.bits] using hk
  obtain ⟨k', rfl⟩ : ∃ k : Nat, key = (k : Int) := ⟨key.toNat, by omega⟩
  exact signs_c seed k' m w hs hm (by omega) ht
end Go.Proofs.YtealeefkeikcbabDoor
