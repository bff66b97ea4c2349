/-
  The walks over to and from of layer 4's laws, and over ChainSigns.
-/
import Derived.Test.YtlnblfdddellmaaDoorChm7
namespace Go.Proofs.YtlnblfdddellmaaDoor
open Go.RowKit
set_option linter.unusedVariables false
set_option maxRecDepth 100000 in
set_option maxHeartbeats 2000000 in
theorem cto_c (ds : Ds) (w : World) (hd : D67 ds) :
    Calls Tryd.prog 24 #[.agg (cellsOf ds.flatten).toArray] w (DigRet ds.flatten w) := by
  have HD := Lib.hid hd
  have HI7 := Lib.hid (info_ds7 49 info_r7 hd)
  have HIR := Lib.hid (info_ds7 53 info_a7 hd)
  have HZR := Lib.hid (size_ds7 d67_zero hd)
  obtain ⟨f, hf⟩ : ∃ f : Nat → List Nat, f = fun c => ds.getD c [] := ⟨_, rfl⟩
  have HFD := Lib.hid (show ∀ c, c < 67 → D32 (f c) from fun c hc => by rw [hf]; exact hd.get c hc)
  have HFC := Lib.hid (show ∀ c, f c = ds.getD c [] from fun c => by rw [hf])
  have HFE := Lib.hid (show (List.range 67).map f = ds from by
    rw [hf]
    apply List.ext_getElem?
    intro i
    by_cases hi : i < 67
    · rw [List.getElem?_map, List.getElem?_range hi, List.getElem?_eq_getElem (by rw [hd.1]; exact hi)]
      simp [List.getD_eq_getElem?_getD, List.getElem?_eq_getElem (show i < ds.length by rw [hd.1]; exact hi)]
    · rw [List.getElem?_eq_none (by simp; omega), List.getElem?_eq_none (by rw [hd.1]; omega)])
  clear hd hf
  go_enter Tryd.func24, Tryd.ntmps24
  go_upto_region 2 with fail
  rw [ztA]
  refine gen_code (F := E3 w 49 53 53 ds.flatten zs7.flatten zs7.flatten) (E3.new w _ _ _ _ _ _) ?_
  intro wA h
  have H0 := Lib.hid h
  clear h
  go_wp2_with (first | (refine wpList_load_row (by rfl) 49 _ (by rfl) w.heap.size (by rfl) _ (cellsOf ds.flatten).toArray (0, 0) _ H0.out.1 Tryd.underlying49 (by rfl) HI7.out ?_))
  go_loopw [7] (fun i wr => ∃ k : Nat, k ≤ 67 ∧ i = .int .i64 k ∧ Hid (E3 w 49 53 53 ds.flatten zs7.flatten (pre f zs7 k).flatten wr)) (fun i _ => 67 - (intOf i).toNat)
  case atStart => exact ⟨0, by omega, rfl, by rw [pre_zero f zs7 (by simp [zs7])]; exact H0⟩
  case round =>
    clear H0
    obtain ⟨k, hk, rfl, HB⟩ := hrel
    obtain ⟨es, hes⟩ : ∃ es, es = pre f zs7 k := ⟨_, rfl⟩
    have HES := Lib.hid (show D67 es from by rw [hes]; exact pre_67 f zs7 k HFD.out d67_zero)
    rw [← hes] at HB
    by_cases hk67 : k < 67
    · obtain ⟨Y, hY⟩ : ∃ Y, Y = f k := ⟨_, rfl⟩
      have HYD := Lib.hid (show D32 Y from by rw [hY]; exact HFD.out k hk67)
      have hix : ∀ W : World, (Instr.index 49 (.agg (cellsOf ds.flatten).toArray) (.int .i64 (k : Int))).run Tryd.prog W = .ok (.agg (cellsOf Y).toArray) W := fun W => by rw [hY, HFC.out]; exact index_r ds HD.out k hk67 W
      have HNX := Lib.hid (show es.set k Y = pre f zs7 (k + 1) from by rw [hes, hY]; exact pre_set f zs7 k hk67)
      have HIY := Lib.hid (info_r32 Y HYD.out)
      have HIY' := Lib.hid (info_d32 Y HYD.out)
      have HZ := Lib.hid (zs_size Y HYD.out)
      have K1 := Lib.hid (fun (V : Obj) (hV : V = .cells (cellsOf zs32).toArray 31 (0, 0)) => show Brow ((wr.alloc V).setRow wr.heap.size (cellsOf Y).toArray) wr.heap.size 31 Y ∧ E3 w 49 53 53 ds.flatten zs7.flatten es.flatten ((wr.alloc V).setRow wr.heap.size (cellsOf Y).toArray) from by
        subst hV
        exact ⟨(Brow.new wr 31 zs32).setRow, HB.out.below (((Below.refl _ _).alloc (Nat.le_refl _) _).setRow (Nat.le_refl _) _)⟩)
      clear hY hes
      go_upto_region 5 with (first | (refine wpList_store_row (by rfl) 31 _ _ (by rfl) wr.heap.size (cellsOf Y).toArray (by rfl) (by rfl) 31 (cellsOf zs32).toArray (by exact heap_new _ _) HIY.out HZ.out (cellsOf_all _) ?_))
      refine gen_code (F := fun W => Brow W wr.heap.size 31 Y ∧ E3 w 49 53 53 ds.flatten zs7.flatten es.flatten W) (K1.out _ rfl) ?_
      rintro w1 ⟨h1, h2⟩
      have H1 := Lib.hid h1
      have H2 := Lib.hid h2
      have HTH := Lib.hid (there_at H2.out.2.2.1 HES.out k hk67 HYD.out)
      have HST := Lib.hid (set_at H2.out.2.2.1 HES.out k hk67 HYD.out)
      have H3 := Lib.hid (H2.out.at2 HST.out.2 HST.out.1)
      rw [HNX.out] at H3
      clear h1 h2 K1 HB hix
      go_upto_region 6 with (first | (refine wpList_load_row (by rfl) 31 _ (by rfl) wr.heap.size (by rfl) _ (cellsOf Y).toArray (0, 0) _ H1.out Tryd.underlying31 (by rfl) HIY.out ?_) | (refine wpList_store_mid (by rfl) 32 (.tmp 13) (.tmp 12) (by rfl) (w.heap.size + 1 + 1) (k * 32) (cellsOf Y).toArray (by rfl) (by rfl) HTH.out HIY'.out (cellsOf_all _) ?_))
      refine gen_code (F := E3 w 49 53 53 ds.flatten zs7.flatten (pre f zs7 (k + 1)).flatten) H3.out ?_
      intro w4 h4
      have H4 := Lib.hid h4
      clear h4 H1 H2 H3 HTH HST
      go_wp2_with fail
      go_roundw
      case rel => exact ⟨k + 1, by omega, by go_num, H4⟩
      case measure => simp [intOf]; omega
    · obtain rfl : k = 67 := by omega
      have HEE := Lib.hid (show es = ds from by rw [hes, pre_all]; exact HFE.out)
      clear hes
      rw [HEE.out] at HB
      go_wp2_with (first | (refine wpList_load_row (by rfl) 53 _ (by rfl) (w.heap.size + 1 + 1) (by rfl) _ (cellsOf ds.flatten).toArray (0, 0) _ HB.out.2.2.1 Tryd.underlying53 (by rfl) HIR.out ?_) | (refine wpList_store_row (by rfl) 53 _ _ (by rfl) (w.heap.size + 1) (cellsOf ds.flatten).toArray (by rfl) (by rfl) 53 (cellsOf zs7.flatten).toArray HB.out.2.1 HIR.out HZR.out (cellsOf_all _) ?_))
      refine bodyPost_ret (results_cell_row (by rfl) _ _ (w.heap.size + 1) _ (cellsOf ds.flatten).toArray (0, 0) _ (by rfl) HB.out.2.1.setRow Tryd.underlying53 (by rfl) HIR.out) ?_ ?_
      · rfl
      · exact ⟨rfl, HB.out.2.2.2.setRow (by omega) _⟩
def CS (w : World) (g7 g8 g9 : Nat) (seed m : List Nat) (sg : Ds) (pb : List Nat) (W : World) : Prop := X2 w seed m W ∧ Brow W g7 53 sg.flatten ∧ Brow W g8 49 sg.flatten ∧ Brow W g9 32 pb
theorem CS.below {w W W' : World} {g7 g8 g9 : Nat} {seed m : List Nat} {sg : Ds} {pb : List Nat} (h : CS w g7 g8 g9 seed m sg pb W) (hb : Below W.heap.size W W') : CS w g7 g8 g9 seed m sg pb W' := ⟨h.1.below hb, h.2.1.below hb h.2.1.lt, h.2.2.1.below hb h.2.2.1.lt, h.2.2.2.below hb h.2.2.2.lt⟩
theorem CS.drew {w W : World} {g7 g8 g9 : Nat} {seed m : List Nat} {sg : Ds} {pb : List Nat} (h : CS w g7 g8 g9 seed m sg pb W) : CS w g7 g8 g9 seed m sg pb W.drew := ⟨h.1.drew, h.2.1.drew, h.2.2.1.drew, h.2.2.2.drew⟩
theorem load_a7 (W : World) (g : Nat) (ds : Ds) (hd : D67 ds) (h : Brow W g 53 ds.flatten) : (Instr.loadAt 53 (.pointer (some ⟨g, 0, none⟩))).run Tryd.prog W = .ok (.agg (cellsOf ds.flatten).toArray) W :=
  run_loadAt_mid W g 0 53 (cellsOf ds.flatten) _ h.range Tryd.underlying53 rfl (by rw [cellsOf_length, hd.flat]; exact info_a7)
theorem load_r7 (W : World) (g : Nat) (ds : Ds) (hd : D67 ds) (h : Brow W g 49 ds.flatten) : (Instr.loadAt 49 (.pointer (some ⟨g, 0, none⟩))).run Tryd.prog W = .ok (.agg (cellsOf ds.flatten).toArray) W :=
  run_loadAt_mid W g 0 49 (cellsOf ds.flatten) _ h.range Tryd.underlying49 rfl (by rw [cellsOf_length, hd.flat]; exact info_r7)
theorem lay_row {W : World} {T : TypeId} {x y : List Nat} (V : Obj) (hV : V = .cells (cellsOf x).toArray T (0, 0)) : Brow ((W.alloc V).setRow W.heap.size (cellsOf y).toArray) W.heap.size T y ∧ Below W.heap.size W ((W.alloc V).setRow W.heap.size (cellsOf y).toArray) := by
  subst hV
  exact ⟨(Brow.new W T x).setRow, ((Below.refl _ _).alloc (Nat.le_refl _) _).setRow (Nat.le_refl _) _⟩
end Go.Proofs.YtlnblfdddellmaaDoor
