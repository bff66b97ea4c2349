/-
  The walks over Sign and Recover of one-time keys.
-/
import Derived.Test.YtlnblfdddellmaaDoorChj
namespace Go.Proofs.YtlnblfdddellmaaDoor
open Go.RowKit
set_option linter.unusedVariables false
def E4 (w : World) (t0 t1 t2 t3 : TypeId) (x0 x1 x2 x3 : List Nat) (W : World) : Prop := Brow W w.heap.size t0 x0 ∧ Brow W (w.heap.size + 1) t1 x1 ∧ Brow W (w.heap.size + 1 + 1) t2 x2 ∧ Brow W (w.heap.size + 1 + 1 + 1) t3 x3 ∧ Below w.heap.size w W
theorem E4.new (w : World) (t0 t1 t2 t3 : TypeId) (x0 x1 x2 x3 : List Nat) : E4 w t0 t1 t2 t3 x0 x1 x2 x3 ((((w.alloc (.cells (cellsOf x0).toArray t0)).alloc (.cells (cellsOf x1).toArray t1)).alloc (.cells (cellsOf x2).toArray t2)).alloc (.cells (cellsOf x3).toArray t3)) := by
  have h := E3.new w t0 t1 t2 x0 x1 x2
  have hl := h.2.2.1.lt
  have hb : Below ((((w.alloc (.cells (cellsOf x0).toArray t0)).alloc (.cells (cellsOf x1).toArray t1)).alloc (.cells (cellsOf x2).toArray t2))).heap.size _ ((((w.alloc (.cells (cellsOf x0).toArray t0)).alloc (.cells (cellsOf x1).toArray t1)).alloc (.cells (cellsOf x2).toArray t2)).alloc (.cells (cellsOf x3).toArray t3)) := (Below.refl _ _).alloc (Nat.le_refl _) _
  have h' := h.below hb
  have hn := heap_new (((w.alloc (.cells (cellsOf x0).toArray t0)).alloc (.cells (cellsOf x1).toArray t1)).alloc (.cells (cellsOf x2).toArray t2)) (.cells (cellsOf x3).toArray t3)
  simp only [World.size_alloc] at hn
  exact ⟨h'.1, h'.2.1, h'.2.2.1, hn, h'.2.2.2⟩
theorem E4.below {w W W' : World} {t0 t1 t2 t3 : TypeId} {x0 x1 x2 x3 : List Nat} (h : E4 w t0 t1 t2 t3 x0 x1 x2 x3 W) (hb : Below W.heap.size W W') : E4 w t0 t1 t2 t3 x0 x1 x2 x3 W' :=
  ⟨h.1.below hb h.1.lt, h.2.1.below hb h.2.1.lt, h.2.2.1.below hb h.2.2.1.lt, h.2.2.2.1.below hb h.2.2.2.1.lt, h.2.2.2.2.trans (hb.mono h.2.2.2.2.size)⟩
theorem E4.at3 {w W W' : World} {t0 t1 t2 t3 : TypeId} {x0 x1 x2 x3 y : List Nat} (h : E4 w t0 t1 t2 t3 x0 x1 x2 x3 W) (ho : Only (w.heap.size + 1 + 1 + 1) W W') (hb : Brow W' (w.heap.size + 1 + 1 + 1) t3 y) : E4 w t0 t1 t2 t3 x0 x1 x2 y W' :=
  ⟨h.1.only ho (by omega), h.2.1.only ho (by omega), h.2.2.1.only ho (by omega), hb, h.2.2.2.2.trans (ho.below (by omega) h.2.2.2.2.size)⟩
theorem load_at (T : TypeId) (hT : Tryd.prog.underlying T = some (.array 32 5)) (hi : (Tryd.prog.info? T).map (·.size) = some 32) (W : World) (g : Nat) (t : TypeId) (ds : Ds) (h : Brow W g t ds.flatten) (hd : D67 ds) (i : Nat) (hi7 : i < 67) :
    (Instr.loadAt T (.pointer (some ⟨g, i * 32, none⟩))).run Tryd.prog W = .ok (.agg (cellsOf (ds.getD i [])).toArray) W := by
  have hr := h.part hd.2 i (by rw [hd.1]; exact hi7)
  rw [Nat.mul_comm] at hr
  exact run_loadAt_mid W g (i * 32) T (cellsOf (ds.getD i [])) _ hr hT rfl (by rw [cellsOf_length, (hd.get i hi7).1]; exact hi)
theorem index_67 (D : List Nat) (h : D.length = 67) (k : Nat) (hk : k < 67) (W : World) : (Instr.index 59 (.agg (cellsOf D).toArray) (.int .i64 (k : Int))).run Tryd.prog W = .ok (.int .u8 ((D.getD k 0 : Nat) : Int)) W :=
  run_index_bytes D k (by rw [h]; exact hk) 59 67 Tryd.underlying59 h W
set_option maxRecDepth 100000 in
set_option maxHeartbeats 2000000 in
theorem recover_c (key : Nat) (m : List Nat) (sig : Ds) (w : World) (hm : D32 m) (hsg : D67 sig) (hk' : key < 4294967296) (ht : Tab w) :
    Calls Tryd.prog 23 #[.int .u32 (key : Int), .agg (cellsOf m).toArray, .agg (cellsOf sig.flatten).toArray] w (DigRet (Ch.pressS (Ch.topsS key m sig)) w) := by
  have HSG := Lib.hid hsg
  have HT := Lib.hid ht
  have hpos := ht.pos
  have HIM := Lib.hid (info_d32 m hm)
  obtain ⟨D, hD⟩ : ∃ D, D = Dg.digs m := ⟨_, rfl⟩
  have HDL := Lib.hid (show D.length = 67 from by rw [hD, Dg.digs_len, hm.1])
  have HDG := Lib.hid (show ∀ W, Calls Tryd.prog 40 #[.agg (cellsOf m).toArray] W (DigRet D W) from fun W => by rw [hD]; exact digits_c m W hm)
  have HDM := Lib.hid (show ∀ c, D.getD c 0 ≤ 15 from fun c => by rw [hD]; exact Ch.dig_le m hm c)
  obtain ⟨f, hf⟩ : ∃ f : Nat → List Nat, f = fun c => Ch.climbS key c (sig.getD c []) (D.getD c 0) (15 - D.getD c 0) := ⟨_, rfl⟩
  have HFD := Lib.hid (show ∀ c, c < 67 → D32 (f c) from fun c hc => by rw [hf]; exact Ch.d32_climb (hsg.get c hc) _ _)
  have HFE := Lib.hid (show (List.range 67).map f = Ch.topsS key m sig from by rw [hf, hD]; rfl)
  have HFC := Lib.hid (show ∀ c, f c = Ch.climbS key c (sig.getD c []) (D.getD c 0) (15 - D.getD c 0) from fun c => by rw [hf])
  clear hf hD hm ht hsg
  go_enter Tryd.func23, Tryd.ntmps23
  go_upto_region 1 with fail
  refine gen_code (F := E3 w 32 53 32 m sig.flatten zs32) (E3.new w _ _ _ _ _ _) ?_
  intro wA h
  have H0 := Lib.hid h
  clear h
  go_wp2_with (first | (refine wpList_load_row (by rfl) 32 _ (by rfl) w.heap.size (by rfl) _ (cellsOf m).toArray (0, 0) _ H0.out.1 Tryd.underlying32 (by rfl) HIM.out ?_))
  refine (HDG.out wA).mono ?_
  rintro e0 w0 ⟨rfl, hb0⟩
  have HA := Lib.hid (H0.out.below hb0)
  clear hb0 H0
  go_wp2_with fail
  go_loopw [11] (fun i wr => ∃ k : Nat, k ≤ 67 ∧ i = .int .i64 k ∧ Hid (E3 w 32 53 32 m (pre f sig k).flatten zs32 wr)) (fun i _ => 67 - (intOf i).toNat)
  case atStart => exact ⟨0, by omega, rfl, by rw [pre_zero f sig HSG.out.1]; exact HA⟩
  case round =>
    clear HA
    obtain ⟨k, hk, rfl, HB⟩ := hrel
    obtain ⟨es, hes⟩ : ∃ es, es = pre f sig k := ⟨_, rfl⟩
    have HES := Lib.hid (show D67 es from by rw [hes]; exact pre_67 f sig k HFD.out HSG.out)
    rw [← hes] at HB
    by_cases hk67 : k < 67
    · have hwr : IntKind.u8.wrap (k : Int) = (k : Int) := by rw [IntKind.wrap_u8]; omega
      obtain ⟨h, hh⟩ : ∃ h, h = D.getD k 0 := ⟨_, rfl⟩
      have hh15 : h ≤ 15 := by rw [hh]; exact HDM.out k
      have hix : ∀ W : World, (Instr.index 59 (.agg (cellsOf D).toArray) (.int .i64 (k : Int))).run Tryd.prog W = .ok (.int .u8 (h : Int)) W := fun W => by rw [hh]; exact index_67 D HDL.out k hk67 W
      obtain ⟨P, hP⟩ : ∃ P, P = sig.getD k [] := ⟨_, rfl⟩
      have HPD := Lib.hid (show D32 P from by rw [hP]; exact HSG.out.get k hk67)
      have HLD := Lib.hid (show (Instr.loadAt 32 (.pointer (some ⟨w.heap.size + 1, k * 32, none⟩))).run Tryd.prog wr = .ok (.agg (cellsOf P).toArray) wr from by
        have := load_at 32 Tryd.underlying32 info_dig wr (w.heap.size + 1) _ es HB.out.2.1 HES.out k hk67
        rw [show es.getD k [] = P from by rw [hes, hP]; exact pre_get f sig k hk67] at this
        exact this)
      obtain ⟨Y, hY⟩ : ∃ Y, Y = f k := ⟨_, rfl⟩
      have HYD := Lib.hid (show D32 Y from by rw [hY]; exact HFD.out k hk67)
      have HCL := Lib.hid (show ∀ W, Tab W → Calls Tryd.prog 45 #[.int .u32 (key : Int), .int .u8 (k : Int), .agg (cellsOf P).toArray, .int .u8 (h : Int), .int .u8 15] W (DigRet Y W) from fun W hW => by
        rw [hY, HFC.out, ← hP, ← hh]
        exact climb_c key k h 15 P W HPD.out hk' (by omega) (by omega) (by omega) hW)
      have HNX := Lib.hid (show es.set k Y = pre f sig (k + 1) from by rw [hes, hY]; exact pre_set f sig k hk67)
      have HIY := Lib.hid (info_d32 Y HYD.out)
      clear hP hY hes hh
      go_wp2_with (first | (refine wpList_loadg 32 (.tmp 20) (by rfl) (by rfl) (.pointer (some ⟨w.heap.size + 1, k * 32, none⟩)) (by rfl) (.agg (cellsOf P).toArray) HLD.out ?_))
      refine (HCL.out wr (HT.out.below HB.out.2.2.2 hpos)).mono ?_
      rintro e2 w2 ⟨rfl, hb2⟩
      have H2 := Lib.hid (HB.out.below hb2)
      have HTH := Lib.hid (there_at H2.out.2.1 HES.out k hk67 HYD.out)
      have HST := Lib.hid (set_at H2.out.2.1 HES.out k hk67 HYD.out)
      have H3 := Lib.hid (H2.out.at1 HST.out.2 HST.out.1)
      rw [HNX.out] at H3
      clear hb2 HB hwr HLD hix
      go_upto_region 5 with (first | (refine wpList_store_mid (by rfl) 32 (.tmp 24) (.tmp 23) (by rfl) (w.heap.size + 1) (k * 32) (cellsOf Y).toArray (by rfl) (by rfl) HTH.out HIY.out (cellsOf_all _) ?_))
      refine gen_code (F := E3 w 32 53 32 m (pre f sig (k + 1)).flatten zs32) H3.out ?_
      intro w4 h4
      have H4 := Lib.hid h4
      clear h4 H2 H3 HTH HST
      go_wp2_with fail
      go_roundw
      case rel => exact ⟨k + 1, by omega, by go_num, H4⟩
      case measure => simp [intOf]; omega
    · obtain rfl : k = 67 := by omega
      have HEE := Lib.hid (show es = Ch.topsS key m sig from by rw [hes, pre_all]; exact HFE.out)
      clear hes
      have HI7 := Lib.hid (info_ds7 53 info_a7 HES.out)
      obtain ⟨S, hS⟩ : ∃ S, S = Ch.pressS es := ⟨_, rfl⟩
      have HJN := Lib.hid (show ∀ W, Tab W → Calls Tryd.prog 46 #[.agg (cellsOf es.flatten).toArray] W (DigRet S W) from fun W hW => by rw [hS]; exact join_c es W HES.out hW)
      have HSD := Lib.hid (show D32 S from by rw [hS]; exact d32_of_sum _)
      have HSE := Lib.hid (show S = Ch.pressS (Ch.topsS key m sig) from by rw [hS, HEE.out])
      have HIS := Lib.hid (info_d32 S HSD.out)
      have HZ := Lib.hid (zs_size S HSD.out)
      clear hS
      go_wp2_with (first | (refine wpList_load_row (by rfl) 53 _ (by rfl) (w.heap.size + 1) (by rfl) _ (cellsOf es.flatten).toArray (0, 0) _ HB.out.2.1 Tryd.underlying53 (by rfl) HI7.out ?_))
      refine (HJN.out wr (HT.out.below HB.out.2.2.2 hpos)).mono ?_
      rintro e5 w5 ⟨rfl, hb5⟩
      have H5 := Lib.hid (HB.out.below hb5)
      clear hb5
      go_wp2_with (first | (refine wpList_store_row (by rfl) 32 _ _ (by rfl) (w.heap.size + 1 + 1) (cellsOf S).toArray (by rfl) (by rfl) 32 (cellsOf zs32).toArray H5.out.2.2.1 HIS.out HZ.out (cellsOf_all _) ?_))
      refine bodyPost_ret (results_cell_row (by rfl) _ _ (w.heap.size + 1 + 1) _ (cellsOf S).toArray (0, 0) _ (by rfl) H5.out.2.2.1.setRow Tryd.underlying32 (by rfl) HIS.out) ?_ ?_
      · rfl
      · exact ⟨by rw [HSE.out], H5.out.2.2.2.setRow (by omega) _⟩
end Go.Proofs.YtlnblfdddellmaaDoor
