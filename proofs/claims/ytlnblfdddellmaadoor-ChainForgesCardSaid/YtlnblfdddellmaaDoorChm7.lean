/-
  The walks over the document's Tops, Public and Recover of one-time keys, and over to and from of layer 4's laws.
-/
import Derived.Test.YtlnblfdddellmaaDoorChl7
namespace Go.Proofs.YtlnblfdddellmaaDoor
open Go.RowKit
set_option linter.unusedVariables false
section
variable {P : Program} {Q : Exit → Act → World → Prop}
theorem wp_load_at {o : Oper} {a : Act} {w : World} {K : Act → World → Prop} {ty : TypeId} {x : Operand} (ho : o.op = .load ty x) (p : Value) (hx : a.eval x = p) (v : Value) (hrun : (Instr.loadAt ty p).run P w = .ok v w)
    (h : K (a.put o.dst v) w) : o.wp P a w K Q := by
  unfold Oper.wp execOp
  simp only [ho, hx, hrun, Sem.run_bind, Result.andThen_ok, Sem.run_pure]
  exact h
end
/-- what came in, the result, and the digits, the sums aside -/
def TG (w : World) (g7 : Nat) (m D : List Nat) (W : World) : Prop := Brow W w.heap.size 31 m ∧ Brow W (w.heap.size + 1 + 1) 49 zs7.flatten ∧ Brow W g7 59 D ∧ Below w.heap.size w W
theorem TG.below {w W W' : World} {g7 : Nat} {m D : List Nat} (h : TG w g7 m D W) (hb : Below W.heap.size W W') : TG w g7 m D W' := ⟨h.1.below hb h.1.lt, h.2.1.below hb h.2.1.lt, h.2.2.1.below hb h.2.2.1.lt, h.2.2.2.trans (hb.mono h.2.2.2.size)⟩
theorem TG.only1 {w W W' : World} {g7 : Nat} {m D : List Nat} (h : TG w g7 m D W) (ho : Only (w.heap.size + 1) W W') (hg : w.heap.size + 1 + 1 < g7) : TG w g7 m D W' := ⟨h.1.only ho (by omega), h.2.1.only ho (by omega), h.2.2.1.only ho (by omega), h.2.2.2.trans (ho.below (by omega) h.2.2.2.size)⟩
theorem TG.drew {w W : World} {g7 : Nat} {m D : List Nat} (h : TG w g7 m D W) : TG w g7 m D W.drew := ⟨h.1.drew, h.2.1.drew, h.2.2.1.drew, h.2.2.2.drew⟩
set_option maxRecDepth 100000 in
set_option maxHeartbeats 4000000 in
theorem rtops_c (key : Nat) (m : List Nat) (sig : Ds) (w : World) (hm : D32 m) (hsg : D67 sig) (hk' : key < 4294967296) :
    Calls Tryd.prog 27 #[.int .u32 (key : Int), .agg (cellsOf m).toArray, .agg (cellsOf sig.flatten).toArray] w (DigRet (Ch.topsS key m sig).flatten w) := by
  have HSG := Lib.hid hsg
  have HIM := Lib.hid (info_r32 m hm)
  obtain ⟨D, hD⟩ : ∃ D, D = Dg.digs m := ⟨_, rfl⟩
  have HDL := Lib.hid (show D.length = 67 from by rw [hD, Dg.digs_len, hm.1])
  have HDG := Lib.hid (show ∀ W, Calls Tryd.prog 29 #[.agg (cellsOf m).toArray] W (DigRet D W) from fun W => by rw [hD]; exact rdigits_c m W hm)
  have HDM := Lib.hid (show ∀ c, D.getD c 0 ≤ 15 from fun c => by rw [hD]; exact Ch.dig_le m hm c)
  obtain ⟨f, hf⟩ : ∃ f : Nat → List Nat, f = fun c => Ch.climbS key c (sig.getD c []) (D.getD c 0) (15 - D.getD c 0) := ⟨_, rfl⟩
  have HFD := Lib.hid (show ∀ c, c < 67 → D32 (f c) from fun c hc => by rw [hf]; exact Ch.d32_climb (hsg.get c hc) _ _)
  have HFE := Lib.hid (show (List.range 67).map f = Ch.topsS key m sig from by rw [hf, hD]; rfl)
  have HFC := Lib.hid (show ∀ c, f c = Ch.climbS key c (sig.getD c []) (D.getD c 0) (15 - D.getD c 0) from fun c => by rw [hf])
  have HID := Lib.hid (info_d67 D HDL.out)
  have HZD := Lib.hid (zs_67 D HDL.out)
  clear hf hD hm hsg
  go_enter Tryd.func27, Tryd.ntmps27
  go_upto_region 1 with fail
  rw [ztR]
  refine gen_code (F := E3 w 31 49 49 m sig.flatten zs7.flatten) (E3.new w _ _ _ _ _ _) ?_
  intro wA h
  have H0 := Lib.hid h
  clear h
  go_wp2_with (first | (refine wpList_load_row (by rfl) 31 _ (by rfl) w.heap.size (by rfl) _ (cellsOf m).toArray (0, 0) _ H0.out.1 Tryd.underlying31 (by rfl) HIM.out ?_))
  refine (HDG.out wA).mono ?_
  rintro e0 w0 ⟨rfl, hb0⟩
  have HA := Lib.hid (H0.out.below hb0)
  clear hb0 H0
  obtain ⟨g7, hg7⟩ : ∃ g, g = w0.heap.size := ⟨_, rfl⟩
  have hg7N : w.heap.size + 1 + 1 < g7 := by rw [hg7]; exact HA.out.2.2.1.lt
  go_upto_region 2 with (first | (refine wpList_store_row (by rfl) 59 _ _ (by rfl) w0.heap.size (cellsOf D).toArray (by rfl) (by rfl) 59 (cellsOf zs67).toArray (by exact heap_new _ _) HID.out HZD.out (cellsOf_all _) ?_))
  refine gen_code (F := fun W => TG w g7 m D W ∧ Brow W (w.heap.size + 1) 49 sig.flatten) (by
    rw [hg7]
    have hb := ((Below.refl w0.heap.size w0).alloc (Nat.le_refl _) (.cells (cellsOf zs67).toArray 59 (0, 0))).setRow (Nat.le_refl _) (cellsOf D).toArray
    have hh := HA.out.below hb
    exact ⟨⟨hh.1, hh.2.2.1, (Brow.new w0 59 zs67).setRow, hh.2.2.2⟩, hh.2.1⟩) ?_
  rintro w1 ⟨h, h'⟩
  have H1 := Lib.hid h
  have H1' := Lib.hid h'
  clear h h' HA
  rw [← hg7]
  clear hg7
  go_wp2_with fail
  go_loopw [8] (fun i wr => ∃ k : Nat, k ≤ 67 ∧ i = .int .i64 k ∧ Hid (TG w g7 m D wr) ∧ Hid (Brow wr (w.heap.size + 1) 49 (pre f sig k).flatten)) (fun i _ => 67 - (intOf i).toNat)
  case atStart => exact ⟨0, by omega, rfl, H1, by rw [pre_zero f sig HSG.out.1]; exact H1'⟩
  case round =>
    clear H1 H1'
    obtain ⟨k, hk, rfl, HB, HE⟩ := hrel
    obtain ⟨es, hes⟩ : ∃ es, es = pre f sig k := ⟨_, rfl⟩
    have HES := Lib.hid (show D67 es from by rw [hes]; exact pre_67 f sig k HFD.out HSG.out)
    rw [← hes] at HE
    by_cases hk67 : k < 67
    · have hwr : IntKind.u8.wrap (k : Int) = (k : Int) := by rw [IntKind.wrap_u8]; omega
      obtain ⟨h, hh⟩ : ∃ h, h = D.getD k 0 := ⟨_, rfl⟩
      have hh15 : h ≤ 15 := by rw [hh]; exact HDM.out k
      have hwh : IntKind.i64.wrap (h : Int) = (h : Int) := by simp [IntKind.wrap, IntKind.bits, IntKind.signed]; omega
      obtain ⟨P, hP⟩ : ∃ P, P = sig.getD k [] := ⟨_, rfl⟩
      have HPD := Lib.hid (show D32 P from by rw [hP]; exact HSG.out.get k hk67)
      have HLP := Lib.hid (show ∀ W, Brow W (w.heap.size + 1) 49 es.flatten → (Instr.loadAt 31 (.pointer (some ⟨w.heap.size + 1, k * 32, none⟩))).run Tryd.prog W = .ok (.agg (cellsOf P).toArray) W from fun W hW => by
        have := load_at 31 Tryd.underlying31 info_a32 W (w.heap.size + 1) _ es hW HES.out k hk67
        rw [show es.getD k [] = P from by rw [hes, hP]; exact pre_get f sig k hk67] at this
        exact this)
      obtain ⟨Y, hY⟩ : ∃ Y, Y = f k := ⟨_, rfl⟩
      have HYD := Lib.hid (show D32 Y from by rw [hY]; exact HFD.out k hk67)
      have HCL := Lib.hid (show ∀ W, Calls Tryd.prog 43 #[.int .u32 (key : Int), .int .u8 (k : Int), .agg (cellsOf P).toArray, .int .i64 (h : Int), .int .i64 15] W (DigRet Y W) from fun W => by
        rw [hY, HFC.out, ← hP, ← hh]
        exact rclimb_c key k h 15 P W HPD.out hk' (by omega) (by omega) (by omega))
      have HNX := Lib.hid (show es.set k Y = pre f sig (k + 1) from by rw [hes, hY]; exact pre_set f sig k hk67)
      have HIY := Lib.hid (info_r32 Y HYD.out)
      have HLH := Lib.hid (fun W (hW : TG w g7 m D W) => load_u8 W g7 _ D hW.2.2.1 k h (by rw [HDL.out]; exact hk67) hh.symm)
      clear hP hY hes hh
      go_upto_region 5 with fail
      (try dsimp only [Act.put, List.setIfInBounds_toArray, List.set_cons_zero, List.set_cons_succ])
      have HS := Lib.hid HB.out.drew
      have HE := Lib.hid HE.out.drew
      clear HB
      refine anyH_begin (S := TG w g7 m D) (by kernel_rfl) ?_
      refine anyH_pureG 0 (d := 15) (op := .move (.tmp 8)) (gd := none) (.int .i64 (k : Int)) (by rfl) (fun o ho => wanted_plain ho _) (by kernel_rfl) (by kernel_rfl) (by kernel_rfl) (fun _ _ _ h => h) (fun o ho W hW => by unfold execOp; simp only [ho]; go_simp) HS.out ?_
      simp only [Act.put, List.setIfInBounds_toArray, List.set_cons_zero, List.set_cons_succ]
      refine anyH_pureG 1 (d := 16) (op := .move (.tmp 0)) (gd := none) (.int .u32 (key : Int)) (by rfl) (fun o ho => wanted_plain ho _) (by kernel_rfl) (by kernel_rfl) (by kernel_rfl) (fun _ _ _ h => h) (fun o ho W hW => by unfold execOp; simp only [ho]; go_simp) HS.out ?_
      simp only [Act.put, List.setIfInBounds_toArray, List.set_cons_zero, List.set_cons_succ]
      refine anyH_pureG 2 (d := 17) (op := .move (.tmp 8)) (gd := none) (.int .i64 (k : Int)) (by rfl) (fun o ho => wanted_plain ho _) (by kernel_rfl) (by kernel_rfl) (by kernel_rfl) (fun _ _ _ h => h) (fun o ho W hW => by unfold execOp; simp only [ho]; go_simp) HS.out ?_
      simp only [Act.put, List.setIfInBounds_toArray, List.set_cons_zero, List.set_cons_succ]
      refine anyH_pureG 3 (d := 18) (op := .convert 3 5 (.tmp 17)) (gd := none) (.int .u8 (k : Int)) (by rfl) (fun o ho => wanted_plain ho _) (by kernel_rfl) (by kernel_rfl) (by kernel_rfl) (fun _ _ _ h => h) (fun o ho W hW => by unfold execOp; simp only [ho]; go_simp) HS.out ?_
      simp only [Act.put, List.setIfInBounds_toArray, List.set_cons_zero, List.set_cons_succ]
      refine anyH_pureG 4 (d := 19) (op := .move (.tmp 8)) (gd := none) (.int .i64 (k : Int)) (by rfl) (fun o ho => wanted_plain ho _) (by kernel_rfl) (by kernel_rfl) (by kernel_rfl) (fun _ _ _ h => h) (fun o ho W hW => by unfold execOp; simp only [ho]; go_simp) HS.out ?_
      simp only [Act.put, List.setIfInBounds_toArray, List.set_cons_zero, List.set_cons_succ]
      refine anyH_pureG 5 (d := 20) (op := .indexAddr 49 (.tmp 5) (.tmp 19)) (gd := none) (.pointer (some ⟨w.heap.size + 1, k * 32, none⟩)) (by rfl) (fun o ho => wanted_plain ho _) (by kernel_rfl) (by kernel_rfl) (by kernel_rfl) (fun _ _ _ h => h) (fun o ho W hW => by unfold execOp; simp only [ho]; go_simp) HS.out ?_
      simp only [Act.put, List.setIfInBounds_toArray, List.set_cons_zero, List.set_cons_succ]
      refine anyH_pureG 7 (d := 22) (op := .move (.tmp 8)) (gd := none) (.int .i64 (k : Int)) (by rfl) (fun o ho => wanted_plain ho _) (by kernel_rfl) (by kernel_rfl) (by kernel_rfl) (fun _ _ _ h => h) (fun o ho W hW => by unfold execOp; simp only [ho]; go_simp) HS.out ?_
      simp only [Act.put, List.setIfInBounds_toArray, List.set_cons_zero, List.set_cons_succ]
      refine anyH_pureG 8 (d := 23) (op := .indexAddr 59 (.tmp 7) (.tmp 22)) (gd := none) (.pointer (some ⟨g7, k, none⟩)) (by rfl) (fun o ho => wanted_plain ho _) (by kernel_rfl) (by kernel_rfl) (by kernel_rfl) (fun _ _ _ h => h) (fun o ho W hW => by unfold execOp; simp only [ho]; go_simp) HS.out ?_
      simp only [Act.put, List.setIfInBounds_toArray, List.set_cons_zero, List.set_cons_succ]
      refine anyH_loadG 9 (d := 24) (ty := 5) (x := (.tmp 23)) (gd := none) (p := .pointer (some ⟨g7, k, none⟩)) (.int .u8 (h : Int)) (by rfl) (fun o ho => wanted_plain ho _) (by kernel_rfl) (by kernel_rfl) (by kernel_rfl) (fun _ _ _ h => h) (by rfl) HLH.out HS.out ?_
      simp only [Act.put, List.setIfInBounds_toArray, List.set_cons_zero, List.set_cons_succ]
      refine anyH_pureG 10 (d := 25) (op := .convert 5 3 (.tmp 24)) (gd := none) (.int .i64 (h : Int)) (by rfl) (fun o ho => wanted_plain ho _) (by kernel_rfl) (by kernel_rfl) (by kernel_rfl) (fun _ _ _ h => h) (fun o ho W hW => by unfold execOp; simp only [ho]; go_simp) HS.out ?_
      simp only [Act.put, List.setIfInBounds_toArray, List.set_cons_zero, List.set_cons_succ]
      refine wpAnyH_all (rs := [6]) (by kernel_rfl) (by simp) ?_
      intro k' hk'; simp only [List.mem_cons, List.not_mem_nil, or_false] at hk'; subst hk'
      refine op_at 6 (d := some 21) (op := .load 31 (.tmp 20)) (by rfl) ?_
      intro o0 hod hoo
      refine wp_load_at hoo (.pointer (some ⟨w.heap.size + 1, k * 32, none⟩)) (by rfl) (.agg (cellsOf P).toArray) (HLP.out _ HE.out) ?_
      refine ⟨HS.out, ?_⟩
      rw [hod]
      clear hod hoo
      simp only [Act.put, List.setIfInBounds_toArray, List.set_cons_zero, List.set_cons_succ]
      refine anyH_callG 11 (d := some 26) (f := 43) (xs := #[(.tmp 16), (.tmp 18), (.tmp 21), (.tmp 25), (.const (.int .i64 15))]) (ts := #[47, 5, 31, 3, 3]) (gd := none) (vs := #[.int .u32 (key : Int), .int .u8 (k : Int), .agg (cellsOf P).toArray, .int .i64 (h : Int), (.int .i64 15)]) (by kernel_rfl) (by rfl) (fun o ho => wanted_plain ho _) (by go_simp) (by go_simp) (HCL.out _) ?_
      rintro e92 w92 ⟨rfl, hb92⟩
      refine ⟨_, rfl, HS.out.below hb92, fun hS92 => ?_⟩
      have HS := Lib.hid hS92
      have HE := Lib.hid (HE.out.below hb92 HE.out.lt)
      clear hS92 hb92
      simp only [Act.put, List.setIfInBounds_toArray, List.set_cons_zero, List.set_cons_succ]
      refine anyH_pureG 12 (d := 27) (op := .indexAddr 49 (.tmp 5) (.tmp 15)) (gd := none) (.pointer (some ⟨w.heap.size + 1, k * 32, none⟩)) (by rfl) (fun o ho => wanted_plain ho _) (by kernel_rfl) (by kernel_rfl) (by kernel_rfl) (fun _ _ _ h => h) (fun o ho W hW => by unfold execOp; simp only [ho]; go_simp) HS.out ?_
      simp only [Act.put, List.setIfInBounds_toArray, List.set_cons_zero, List.set_cons_succ]
      refine wpAnyH_all (rs := [13]) (by kernel_rfl) (by simp) ?_
      intro k' hk'; simp only [List.mem_cons, List.not_mem_nil, or_false] at hk'; subst hk'
      refine op_at 13 (d := none) (op := .store 31 (.tmp 27) (.tmp 26)) (by rfl) ?_
      intro o0 hod hoo
      have HTH := Lib.hid (there_at HE.out HES.out k hk67 HYD.out)
      have HST := Lib.hid (set_at HE.out HES.out k hk67 HYD.out)
      refine wp_store_mid 31 (.tmp 27) (.tmp 26) hoo (w.heap.size + 1) (k * 32) (cellsOf Y).toArray (by rfl) (by rfl) HTH.out HIY.out (cellsOf_all _) ?_
      rw [hod]
      refine ⟨HS.out.only1 HST.out.2 hg7N, ?_⟩
      refine gen_anyH (F := fun W => TG w g7 m D W ∧ Brow W (w.heap.size + 1) 49 (pre f sig (k + 1)).flatten) ⟨HS.out.only1 HST.out.2 hg7N, by rw [← HNX.out]; exact HST.out.1⟩ ?_
      rintro w4 ⟨h4, h4'⟩
      have H4 := Lib.hid h4
      have H4' := Lib.hid h4'
      clear h4 h4' HS HE HTH HST hod hoo
      simp only [Act.put]
      refine wpAnyH_done (by kernel_rfl) ?_ _
      go_wp2_with fail
      go_roundw
      case rel => exact ⟨k + 1, by omega, by go_num, H4, H4'⟩
      case measure => simp [intOf]; omega
    · obtain rfl : k = 67 := by omega
      have HEE := Lib.hid (show es = Ch.topsS key m sig from by rw [hes, pre_all]; exact HFE.out)
      clear hes
      have HI7 := Lib.hid (info_ds7 49 info_r7 HES.out)
      have HZ := Lib.hid (size_ds7 d67_zero HES.out)
      go_wp2_with (first | (refine wpList_load_row (by rfl) 49 _ (by rfl) (w.heap.size + 1) (by rfl) _ (cellsOf es.flatten).toArray (0, 0) _ HE.out Tryd.underlying49 (by rfl) HI7.out ?_) | (refine wpList_store_row (by rfl) 49 _ _ (by rfl) (w.heap.size + 1 + 1) (cellsOf es.flatten).toArray (by rfl) (by rfl) 49 (cellsOf zs7.flatten).toArray HB.out.2.1 HI7.out HZ.out (cellsOf_all _) ?_))
      refine bodyPost_ret (results_cell_row (by rfl) _ _ (w.heap.size + 1 + 1) _ (cellsOf es.flatten).toArray (0, 0) _ (by rfl) HB.out.2.1.setRow Tryd.underlying49 (by rfl) HI7.out) ?_ ?_
      · rfl
      · exact ⟨by rw [HEE.out], HB.out.2.2.2.setRow (by omega) _⟩
end Go.Proofs.YtlnblfdddellmaaDoor
