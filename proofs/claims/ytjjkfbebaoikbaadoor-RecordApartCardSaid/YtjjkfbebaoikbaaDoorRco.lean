/-
  The walk over RecordHeads.
-/
import Derived.Test.YtjjkfbebaoikbaaDoorRcn
namespace Go.Proofs.YtjjkfbebaoikbaaDoor.Rc
open Go.RowKit Go.Proofs.Nm Go.Proofs.YtjjkfbebaoikbaaDoor
set_option linter.unusedVariables false
theorem hpart_n (r : Hdv) (W : World) : (part 3 (hdC r) 0).run Tryd.prog W = .ok (.int .i64 r.n) W := by kernel_rfl
theorem hpart_x (r : Hdv) (hx : r.root.length = 32) (W : World) : (part 29 (hdC r) 1).run Tryd.prog W = .ok (.agg (cellsOf r.root).toArray) W := by
  obtain ⟨n, x, t⟩ := r
  simp only at hx
  obtain ⟨f, rfl⟩ := list32n hx
  clear hx
  kernel_rfl
theorem hpart_t (r : Hdv) (hx : r.root.length = 32) (W : World) : (part 3 (hdC r) 33).run Tryd.prog W = .ok (.int .i64 r.t) W := by
  obtain ⟨n, x, t⟩ := r
  simp only at hx
  obtain ⟨f, rfl⟩ := list32n hx
  clear hx
  kernel_rfl
noncomputable def hfld (i : Nat) : Field := (Tryd.prog.fieldsOf 48).toList.getD i (Field.mk "" 0 0 false "" "" 0)
theorem hflds : (Tryd.prog.fieldsOf 48).toList = [hfld 0, hfld 1, hfld 2] := by kernel_rfl
theorem hfld_t : (hfld 0).type = 3 ∧ (hfld 1).type = 29 ∧ (hfld 2).type = 3 := ⟨by kernel_rfl, by kernel_rfl, by kernel_rfl⟩
theorem hfld_o : (hfld 0).offset = 0 ∧ (hfld 1).offset = 1 ∧ (hfld 2).offset = 33 := ⟨by kernel_rfl, by kernel_rfl, by kernel_rfl⟩
theorem hfld_n : ∀ i, i < 3 → ((hfld i).name ≠ "_") := fun i hi => by
  match i, hi with
  | 0, _ => rw [show (hfld 0).name = "Size" by kernel_rfl]; decide
  | 1, _ => rw [show (hfld 1).name = "Root" by kernel_rfl]; decide
  | 2, _ => rw [show (hfld 2).name = "Time" by kernel_rfl]; decide
/-- a head is itself -/
theorem eq_hd (r : Hdv) (hr : dOk r.root) (W : World) : (Op.equalIn 10000 48 (.agg (hdC r)) (.agg (hdC r))).run Tryd.prog W = .ok true W := by
  rw [run_equalIn_agg W 9999 48 _ _ (by kernel_rfl) (by kernel_rfl), hflds]
  obtain ⟨t0, t1, t2⟩ := hfld_t
  obtain ⟨o0, o1, o2⟩ := hfld_o
  rw [eqFields_consR 9999 (hdC r) (hdC r) (hfld 0) [hfld 1, hfld 2] W (hfld_n 0 (by omega)) (.int .i64 r.n) (.int .i64 r.n) (by rw [t0, o0]; exact hpart_n r W) (by rw [t0, o0]; exact hpart_n r W) true (by rw [t0, run_equalIn_int W 9998 _ .i64 .i64 _ _ Tryd.underlying3]; simp), if_pos rfl]
  rw [eqFields_consR 9999 (hdC r) (hdC r) (hfld 1) [hfld 2] W (hfld_n 1 (by omega)) (.agg (cellsOf r.root).toArray) (.agg (cellsOf r.root).toArray) (by rw [t1, o1]; exact hpart_x r hr.1 W) (by rw [t1, o1]; exact hpart_x r hr.1 W) true (by rw [t1, eq_dig 29 32 9997 und_dg W r.root r.root hr.1 hr.1 hr.2 hr.2, decide_eq_true rfl]), if_pos rfl]
  rw [eqFields_consR 9999 (hdC r) (hdC r) (hfld 2) [] W (hfld_n 2 (by omega)) (.int .i64 r.t) (.int .i64 r.t) (by rw [t2, o2]; exact hpart_t r hr.1 W) (by rw [t2, o2]; exact hpart_t r hr.1 W) true (by rw [t2, run_equalIn_int W 9998 _ .i64 .i64 _ _ Tryd.underlying3]; simp), if_pos rfl]
  rfl
theorem eqg_ph : Tryd.prog.eqGuardType Tryd.prog.depth 48 = false := by kernel_rfl
theorem hdecL_ok (zs : List Nat) (hz : ∀ z ∈ zs, z < 256) : dOk ((hdecL zs).getD hd0).root := by
  cases hh : hdecL zs with
  | none => exact dOk_zs
  | some x => exact (hdecL_some hz hh).1
theorem lf_start {w : World} {t : TypeId} {C : Array Value} {a : Option Addr} {n : Nat} {zs : List Nat} (h : Rd w a n zs) : LF w [(w.heap.size, t, C)] [(a, n, zs)] (w.alloc (.cells C t (0, 0))) := by
  have hb : Below w.heap.size w (w.alloc (.cells C t (0, 0))) := (Below.refl _ w).alloc (Nat.le_refl _) _
  refine ⟨fun b hb => ?_, fun r hr => ?_, hb⟩
  · obtain rfl : b = (w.heap.size, t, C) := by simpa using hb
    exact RW.new _ _ _
  · obtain rfl : r = (a, n, zs) := by simpa using hr
    exact h.below hb
set_option maxRecDepth 100000 in
set_option maxHeartbeats 16000000 in
theorem rheads_c (h : Hdv) (a1 : Option Addr) (len1 cap1 : Nat) (zb : List Nat) (w : World) (hd : dOk h.root) (r1 : BytesIn w a1 len1 cap1 zb) :
    Calls Tryd.prog 5 #[.agg (hdC h), .slice a1 len1 cap1] w fun e w' => e = .returned (.bool true) ∧ Below w.heap.size w w' := by
  obtain ⟨hr1, hnil1, hlc1, hcm1⟩ := r1
  have hzb := hr1.2.1
  have HICP := Lib.hid (sizeR (hdC h) 48 34 info_ph (hdC_size hd))
  have HICQ := Lib.hid (sizeR (hdC h) 46 34 info_qh (hdC_size hd))
  have HOC := Lib.hid (hdC_one h)
  have HZC := Lib.hid (hdC_size hd)
  have HDG := Lib.hid hd
  have HBP := Lib.hid (built_ph h.n h.t h.root hd.1)
  have HEN := Lib.hid fun W => encH_c h hd W
  have HRE := Lib.hid fun W => rencH_c h hd W
  have HRI := Lib.hid fun W => rightH_c h hd W
  have HRR := Lib.hid fun W => rrightH_c h hd W
  have HXB := Lib.hid (encHX_byte h hd)
  have HXL := Lib.hid (encHX_len h hd)
  have HBK := Lib.hid (show hrB h = true → hdecL (hencL h) = some h from fun e => hdecL_enc e hd)
  have HDE := Lib.hid fun W (hW : Below w.heap.size w W) => decH_c a1 len1 cap1 zb W (hr1.below hW) hlc1
  have HRD := Lib.hid fun W (hW : Below w.heap.size w W) => rdecH_c a1 len1 cap1 zb W (hr1.below hW) hlc1
  have HYO := Lib.hid (hdecL_ok zb hzb)
  have HEX := Lib.hid (show encHX h = if hrB h = true then (hencL h, 0) else ([], 1) from rfl)
  have HEC := Lib.hid fun W => eq_hd h hd W
  unfold DH at HDE HRD
  obtain ⟨y, hy⟩ : ∃ y, y = (hdecL zb).getD hd0 := ⟨_, rfl⟩
  rw [← hy] at HDE HRD HYO
  obtain ⟨m, hm⟩ : ∃ m : Int, m = (if (hdecL zb).isSome = true then 0 else 10) := ⟨_, rfl⟩
  rw [← hm] at HDE HRD
  have HIYP := Lib.hid (sizeR (hdC y) 48 34 info_ph (hdC_size HYO.out))
  have HIYQ := Lib.hid (sizeR (hdC y) 46 34 info_qh (hdC_size HYO.out))
  have HOY := Lib.hid (hdC_one y)
  have HZY := Lib.hid (hdC_size HYO.out)
  have HBY := Lib.hid (show Tryd.prog.built 48 [(0, .int .i64 y.n), (1, .agg (cellsOf y.root).toArray), (2, .int .i64 y.t)] = some (hdC y) from built_ph y.n y.t y.root HYO.out.1)
  have HEQ := Lib.hid fun W => eq_hd y HYO.out W
  obtain ⟨Y, hY⟩ : ∃ Y, Y = hdC y := ⟨_, rfl⟩
  have HYY := Lib.hid hY
  rw [← hY] at HDE HRD HIYP HIYQ HOY HZY HBY HEQ
  obtain ⟨X, hX⟩ : ∃ X, X = encHX h := ⟨_, rfl⟩
  rw [← hX] at HEN HRE HXB HXL HEX
  obtain ⟨b, hb⟩ : ∃ b, b = hrB h := ⟨_, rfl⟩
  rw [← hb] at HRI HRR HBK HEX
  obtain ⟨C, hC⟩ : ∃ C, C = hdC h := ⟨_, rfl⟩
  rw [show hdC ⟨h.n, h.root, h.t⟩ = hdC h from rfl] at HBP
  rw [← hC] at HICP HICQ HOC HZC HBP HEN HRE HRI HRR HEC ⊢
  have HCC := Lib.hid hC
  have HR1 := Lib.hid hr1
  clear hX hb hC hd hy hm hY hr1 hzb hnil1 hlc1 hcm1
  obtain ⟨xs, n⟩ := X
  unfold ER at HEN HRE
  simp only at HEN HRE HXB HXL
  have HNB := Lib.hid fun W : World => RW.new W 48 (hdC hd0)
  have HNQ := Lib.hid fun W : World => RW.new W 46 (hdC hd0)
  have HZ0 := Lib.hid (hdC_size hd0_ok)
  go_enter Tryd.func5, Tryd.ntmps5
  go_upto_region 1 with (fail)
  obtain ⟨g, hg⟩ : ∃ g, g = w.heap.size := ⟨_, rfl⟩
  refine gen_codeR (F := LF w [(g, 46, C)] [(a1, len1, zb)]) (by
    rw [hg]
    exact lf_start HR1.out) ?_
  rw [← hg]
  intro w0 h0
  have H0 := Lib.hid h0
  have hq0 := h0.box (g, 46, C) (by simp)
  rw [HCC.out] at hq0
  have c0 := hq0.h0
  have c33 := hq0.h33 HDG.out
  have HRT := Lib.hid hq0.rootAt
  clear hg h0 hq0
  go_upto_region 2 with (first | (refine wpList_runR (by rfl) _ (exec_ldMid HRT.out HDG.out.1 und_dr info_dr (by rfl) _ rfl) ?_) | (refine wpList_buildR 48 _ (by rfl) (by rfl) C (by simp only [List.map_toArray, List.map_cons, List.map_nil]; exact HBP.out) ?_) | (refine wpList_store_row (by rfl) 48 _ _ (by rfl) w0.heap.size C (by rfl) (by rfl) 48 (hdC hd0) (by exact HNB.out w0) HICP.out (by rw [HZ0.out, HZC.out]) HOC.out ?_))
  obtain ⟨j5, hj⟩ : ∃ j, j = w0.heap.size := ⟨_, rfl⟩
  refine gen_codeR (F := LF w [(g, 46, C), (j5, 48, C)] [(a1, len1, zb)]) (by rw [hj]; exact H0.out.newBox 48 (hdC hd0) C) ?_
  rw [← hj]
  intro w1 h1
  have H1 := Lib.hid h1
  clear hj h1 H0 c0 c33 HRT
  go_wp2_with (refine wpList_runR (by rfl) (.agg C) (exec_ldRow (H1.out.box (j5, 48, C) (by simp)) Tryd.underlying48 HICP.out (by rfl) _ rfl) ?_)
  refine (HEN.out _).mono ?_
  rintro e2 w2 ⟨v2, rfl, ho2, hb2⟩
  obtain ⟨a6, n6, c6, rfl, hl6, hlc6, hcm6, -, hr6, -⟩ := ho2.form HXB.out
  have H2 := Lib.hid (show LF w [(g, 46, C), (j5, 48, C)] [(a1, len1, zb), (a6, n6, xs)] w2 from (H1.out.step hb2).addRow hr6)
  have HN6 := Lib.hid (show n6 ≤ 1000 by have := HXL.out; omega)
  have HL6 := Lib.hid hlc6
  clear ho2 hb2 hl6 hr6 hlc6 hcm6 H1 HEN
  go_wp2_with (refine wpList_runR (by rfl) (.agg C) (exec_ldRow (H2.out.box (g, 46, C) (by simp)) Tryd.underlying46 HICQ.out (by rfl) _ rfl) ?_)
  refine (HRE.out _).mono ?_
  rintro e3 w3 ⟨v3, rfl, ho3, hb3⟩
  obtain ⟨a8, n8, c8, rfl, hl8, -, -, -, hr8, -⟩ := ho3.form HXB.out
  have H3 := Lib.hid (show LF w [(g, 46, C), (j5, 48, C)] [(a1, len1, zb), (a6, n6, xs), (a8, n8, xs)] w3 from (H2.out.step hb3).addRow hr8)
  clear ho3 hb3 hl8 hr8 H2 HRE HXB HXL
  have HDN := Lib.hid (HDE.out w3 H3.out.below)
  clear HDE
  go_upto_region 5 with (first | (go_at_call 19; refine HDN.out.mono ?_; rintro e4 w4 ⟨rfl, hb4⟩; have H4 := Lib.hid (H3.out.step hb4); clear hb4) | (refine wpList_store_row (by rfl) 48 _ _ (by rfl) w4.heap.size Y (by rfl) (by rfl) 48 (hdC hd0) (by exact HNB.out w4) HIYP.out (by rw [HZ0.out, HZY.out]) HOY.out ?_))
  obtain ⟨j10, hj⟩ : ∃ j, j = w4.heap.size := ⟨_, rfl⟩
  refine gen_codeR (F := LF w [(g, 46, C), (j5, 48, C), (j10, 48, Y)] [(a1, len1, zb), (a6, n6, xs), (a8, n8, xs)]) (by rw [hj]; exact H4.out.newBox 48 (hdC hd0) Y) ?_
  rw [← hj]
  intro w5 h5
  have H5 := Lib.hid h5
  clear hj h5 H4 H3 HDN
  have HDN := Lib.hid (HRD.out w5 H5.out.below)
  clear HRD
  go_upto_region 6 with (first | (go_at_call 20; refine HDN.out.mono ?_; rintro e6 w6 ⟨rfl, hb6⟩; have H6 := Lib.hid (H5.out.step hb6); clear hb6) | (refine wpList_store_row (by rfl) 46 _ _ (by rfl) w6.heap.size Y (by rfl) (by rfl) 46 (hdC hd0) (by exact HNQ.out w6) HIYQ.out (by rw [HZ0.out, HZY.out]) HOY.out ?_))
  obtain ⟨j12, hj⟩ : ∃ j, j = w6.heap.size := ⟨_, rfl⟩
  refine gen_codeR (F := LF w [(g, 46, C), (j5, 48, C), (j10, 48, Y), (j12, 46, Y)] [(a1, len1, zb), (a6, n6, xs), (a8, n8, xs)]) (by rw [hj]; exact H6.out.newBox 46 (hdC hd0) Y) ?_
  rw [← hj]
  intro w7 h7
  have H7 := Lib.hid h7
  clear hj h7 H6 H5 HDN
  have HSM := Lib.hid fun W (hW : LF w [(g, 46, C), (j5, 48, C), (j10, 48, Y), (j12, 46, Y)] [(a1, len1, zb), (a6, n6, xs), (a8, n8, xs)] W) => same_c a6 a8 n6 c6 n8 c8 xs xs W (hW.row (a6, n6, xs) (by simp)) (hW.row (a8, n8, xs) (by simp)) (by have := HN6.out; omega)
  simp only [decide_true] at HSM
  refine anyH_begin (S := LF w [(g, 46, C), (j5, 48, C), (j10, 48, Y), (j12, 46, Y)] [(a1, len1, zb), (a6, n6, xs), (a8, n8, xs)]) (by kernel_rfl) ?_
  obtain ⟨w8, hw8⟩ : ∃ w8, w8 = w7.drew := ⟨_, rfl⟩
  have HS := Lib.hid (show LF w [(g, 46, C), (j5, 48, C), (j10, 48, Y), (j12, 46, Y)] [(a1, len1, zb), (a6, n6, xs), (a8, n8, xs)] w8 from by rw [hw8]; exact H7.out.step (below_drewN' _ w7 1))
  rw [← hw8]
  clear hw8 H7
  refine anyH_callG 0 (d := some 43) (f := 10) (xs := #[]) (ts := #[]) (gd := none) (vs := #[]) (by kernel_rfl) (by rfl) (fun o ho => wanted_plain ho _) (by go_simp) (by go_simp) (awake14_c _) ?_
  rintro e Wq1 ⟨rfl, hbq1⟩
  have HSq1 := Lib.hid (HS.out.step hbq1)
  clear hbq1
  refine ⟨_, rfl, HSq1.out, fun _ => ?_⟩
  simp only [Act.put, List.setIfInBounds_toArray, List.set_cons_zero, List.set_cons_succ]
  refine anyH_pureG 1 (d := 44) (op := .unOp .not 4 (.tmp 43)) (gd := none) (.bool false) (by rfl) (fun o ho => wanted_plain ho _) (by kernel_rfl) (by kernel_rfl) (by kernel_rfl) (fun _ _ _ h => h) (fun o ho W hW => by unfold execOp; simp only [ho]; go_simp; try simp) HSq1.out ?_
  simp only [Act.put, List.setIfInBounds_toArray, List.set_cons_zero, List.set_cons_succ]
  refine anyH_pureG 2 (d := 45) (op := .move (.tmp 44)) (gd := none) (.bool false) (by rfl) (fun o ho => wanted_plain ho _) (by kernel_rfl) (by kernel_rfl) (by kernel_rfl) (fun _ _ _ h => h) (fun o ho W hW => by unfold execOp; simp only [ho]; go_simp) HSq1.out ?_
  simp only [Act.put, List.setIfInBounds_toArray, List.set_cons_zero, List.set_cons_succ]
  refine anyH_loadG 3 (d := 46) (ty := 48) (x := (.tmp 5)) (gd := some (2, false)) (p := .pointer (some ⟨j5, 0, none⟩)) (.agg C) (by rfl) (fun o ho => by simp only [Region.wanted, ho]; rfl) (by kernel_rfl) (by kernel_rfl) (by kernel_rfl) (fun _ _ _ h => h) (by rfl) (fun W hW => (hW.box (j5, 48, C) (by simp)).load Tryd.underlying48 HICP.out) HSq1.out ?_
  simp only [Act.put, List.setIfInBounds_toArray, List.set_cons_zero, List.set_cons_succ]
  refine anyH_loadG 5 (d := 48) (ty := 46) (x := (.tmp 2)) (gd := some (2, false)) (p := .pointer (some ⟨g, 0, none⟩)) (.agg C) (by rfl) (fun o ho => by simp only [Region.wanted, ho]; rfl) (by kernel_rfl) (by kernel_rfl) (by kernel_rfl) (fun _ _ _ h => h) (by rfl) (fun W hW => (hW.box (g, 46, C) (by simp)).load Tryd.underlying46 HICQ.out) HSq1.out ?_
  simp only [Act.put, List.setIfInBounds_toArray, List.set_cons_zero, List.set_cons_succ]
  refine anyH_callG 4 (d := some 47) (f := 21) (xs := #[(.tmp 46)]) (ts := #[48]) (gd := some (2, false)) (vs := #[.agg C]) (by kernel_rfl) (by rfl) (fun o ho => by simp only [Region.wanted, ho]; rfl) (by go_simp) (by go_simp) (HRI.out _) ?_
  rintro e Wq2 ⟨rfl, hbq2⟩
  have HSq2 := Lib.hid (HSq1.out.step hbq2)
  clear hbq2
  refine ⟨_, rfl, HSq2.out, fun _ => ?_⟩
  simp only [Act.put, List.setIfInBounds_toArray, List.set_cons_zero, List.set_cons_succ]
  refine anyH_callG 6 (d := some 49) (f := 22) (xs := #[(.tmp 48)]) (ts := #[46]) (gd := some (2, false)) (vs := #[.agg C]) (by kernel_rfl) (by rfl) (fun o ho => by simp only [Region.wanted, ho]; rfl) (by go_simp) (by go_simp) (HRR.out _) ?_
  rintro e Wq3 ⟨rfl, hbq3⟩
  have HSq3 := Lib.hid (HSq2.out.step hbq3)
  clear hbq3
  refine ⟨_, rfl, HSq3.out, fun _ => ?_⟩
  simp only [Act.put, List.setIfInBounds_toArray, List.set_cons_zero, List.set_cons_succ]
  refine anyH_pureG 7 (d := 50) (op := .binOp .neq 4 (.tmp 47) (.tmp 49) 4) (gd := some (2, false)) (.bool false) (by rfl) (fun o ho => by simp only [Region.wanted, ho]; rfl) (by kernel_rfl) (by kernel_rfl) (by kernel_rfl) (fun _ _ _ h => h) (fun o ho W hW => by unfold execOp; simp only [ho]; go_simp; try simp) HSq3.out ?_
  simp only [Act.put, List.setIfInBounds_toArray, List.set_cons_zero, List.set_cons_succ]
  refine anyH_pureG 8 (d := 51) (op := .pick (.tmp 45) (.const (.bool true)) (.tmp 50)) (gd := none) (.bool false) (by rfl) (fun o ho => wanted_plain ho _) (by kernel_rfl) (by kernel_rfl) (by kernel_rfl) (fun _ _ _ h => h) (fun o ho W hW => by unfold execOp; simp only [ho]; go_simp; try simp) HSq3.out ?_
  simp only [Act.put, List.setIfInBounds_toArray, List.set_cons_zero, List.set_cons_succ]
  refine anyH_pureG 9 (d := 52) (op := .move (.tmp 51)) (gd := none) (.bool false) (by rfl) (fun o ho => wanted_plain ho _) (by kernel_rfl) (by kernel_rfl) (by kernel_rfl) (fun _ _ _ h => h) (fun o ho W hW => by unfold execOp; simp only [ho]; go_simp) HSq3.out ?_
  simp only [Act.put, List.setIfInBounds_toArray, List.set_cons_zero, List.set_cons_succ]
  refine anyH_pureG 10 (d := 53) (op := .move (.tmp 7)) (gd := some (9, false)) (.int .i64 n) (by rfl) (fun o ho => by simp only [Region.wanted, ho]; rfl) (by kernel_rfl) (by kernel_rfl) (by kernel_rfl) (fun _ _ _ h => h) (fun o ho W hW => by unfold execOp; simp only [ho]; go_simp) HSq3.out ?_
  simp only [Act.put, List.setIfInBounds_toArray, List.set_cons_zero, List.set_cons_succ]
  refine anyH_pureG 11 (d := 54) (op := .move (.tmp 9)) (gd := some (9, false)) (.int .i64 n) (by rfl) (fun o ho => by simp only [Region.wanted, ho]; rfl) (by kernel_rfl) (by kernel_rfl) (by kernel_rfl) (fun _ _ _ h => h) (fun o ho W hW => by unfold execOp; simp only [ho]; go_simp) HSq3.out ?_
  simp only [Act.put, List.setIfInBounds_toArray, List.set_cons_zero, List.set_cons_succ]
  refine anyH_pureG 12 (d := 55) (op := .binOp .neq 3 (.tmp 53) (.tmp 54) 3) (gd := some (9, false)) (.bool false) (by rfl) (fun o ho => by simp only [Region.wanted, ho]; rfl) (by kernel_rfl) (by kernel_rfl) (by kernel_rfl) (fun _ _ _ h => h) (fun o ho W hW => by unfold execOp; simp only [ho]; go_simp; try simp) HSq3.out ?_
  simp only [Act.put, List.setIfInBounds_toArray, List.set_cons_zero, List.set_cons_succ]
  refine anyH_pureG 13 (d := 56) (op := .pick (.tmp 52) (.const (.bool true)) (.tmp 55)) (gd := none) (.bool false) (by rfl) (fun o ho => wanted_plain ho _) (by kernel_rfl) (by kernel_rfl) (by kernel_rfl) (fun _ _ _ h => h) (fun o ho W hW => by unfold execOp; simp only [ho]; go_simp; try simp) HSq3.out ?_
  simp only [Act.put, List.setIfInBounds_toArray, List.set_cons_zero, List.set_cons_succ]
  refine anyH_pureG 14 (d := 57) (op := .move (.tmp 56)) (gd := none) (.bool false) (by rfl) (fun o ho => wanted_plain ho _) (by kernel_rfl) (by kernel_rfl) (by kernel_rfl) (fun _ _ _ h => h) (fun o ho W hW => by unfold execOp; simp only [ho]; go_simp) HSq3.out ?_
  simp only [Act.put, List.setIfInBounds_toArray, List.set_cons_zero, List.set_cons_succ]
  refine anyH_pureG 15 (d := 58) (op := .move (.tmp 6)) (gd := some (14, false)) (.slice a6 n6 c6) (by rfl) (fun o ho => by simp only [Region.wanted, ho]; rfl) (by kernel_rfl) (by kernel_rfl) (by kernel_rfl) (fun _ _ _ h => h) (fun o ho W hW => by unfold execOp; simp only [ho]; go_simp) HSq3.out ?_
  simp only [Act.put, List.setIfInBounds_toArray, List.set_cons_zero, List.set_cons_succ]
  refine anyH_pureG 16 (d := 59) (op := .move (.tmp 8)) (gd := some (14, false)) (.slice a8 n8 c8) (by rfl) (fun o ho => by simp only [Region.wanted, ho]; rfl) (by kernel_rfl) (by kernel_rfl) (by kernel_rfl) (fun _ _ _ h => h) (fun o ho W hW => by unfold execOp; simp only [ho]; go_simp) HSq3.out ?_
  simp only [Act.put, List.setIfInBounds_toArray, List.set_cons_zero, List.set_cons_succ]
  refine anyH_callG 17 (d := some 60) (f := 13) (xs := #[(.tmp 58), (.tmp 59)]) (ts := #[25, 25]) (gd := some (14, false)) (vs := #[.slice a6 n6 c6, .slice a8 n8 c8]) (by kernel_rfl) (by rfl) (fun o ho => by simp only [Region.wanted, ho]; rfl) (by go_simp) (by go_simp) ((HSM.out _ HSq3.out).mono fun e w' h => RD.below h) ?_
  rintro e Wq4 ⟨rfl, hbq4⟩
  have HSq4 := Lib.hid (HSq3.out.step hbq4)
  clear hbq4
  refine ⟨_, rfl, HSq4.out, fun _ => ?_⟩
  simp only [Act.put, List.setIfInBounds_toArray, List.set_cons_zero, List.set_cons_succ]
  refine anyH_pureG 18 (d := 61) (op := .unOp .not 4 (.tmp 60)) (gd := some (14, false)) (.bool false) (by rfl) (fun o ho => by simp only [Region.wanted, ho]; rfl) (by kernel_rfl) (by kernel_rfl) (by kernel_rfl) (fun _ _ _ h => h) (fun o ho W hW => by unfold execOp; simp only [ho]; go_simp; try simp) HSq4.out ?_
  simp only [Act.put, List.setIfInBounds_toArray, List.set_cons_zero, List.set_cons_succ]
  refine anyH_pureG 19 (d := 62) (op := .pick (.tmp 57) (.const (.bool true)) (.tmp 61)) (gd := none) (.bool false) (by rfl) (fun o ho => wanted_plain ho _) (by kernel_rfl) (by kernel_rfl) (by kernel_rfl) (fun _ _ _ h => h) (fun o ho W hW => by unfold execOp; simp only [ho]; go_simp; try simp) HSq4.out ?_
  simp only [Act.put, List.setIfInBounds_toArray, List.set_cons_zero, List.set_cons_succ]
  refine anyH_pureG 20 (d := 63) (op := .move (.tmp 62)) (gd := none) (.bool false) (by rfl) (fun o ho => wanted_plain ho _) (by kernel_rfl) (by kernel_rfl) (by kernel_rfl) (fun _ _ _ h => h) (fun o ho W hW => by unfold execOp; simp only [ho]; go_simp) HSq4.out ?_
  simp only [Act.put, List.setIfInBounds_toArray, List.set_cons_zero, List.set_cons_succ]
  refine anyH_pureG 21 (d := 64) (op := .move (.tmp 11)) (gd := some (20, false)) (.int .i64 m) (by rfl) (fun o ho => by simp only [Region.wanted, ho]; rfl) (by kernel_rfl) (by kernel_rfl) (by kernel_rfl) (fun _ _ _ h => h) (fun o ho W hW => by unfold execOp; simp only [ho]; go_simp) HSq4.out ?_
  simp only [Act.put, List.setIfInBounds_toArray, List.set_cons_zero, List.set_cons_succ]
  refine anyH_pureG 22 (d := 65) (op := .move (.tmp 13)) (gd := some (20, false)) (.int .i64 m) (by rfl) (fun o ho => by simp only [Region.wanted, ho]; rfl) (by kernel_rfl) (by kernel_rfl) (by kernel_rfl) (fun _ _ _ h => h) (fun o ho W hW => by unfold execOp; simp only [ho]; go_simp) HSq4.out ?_
  simp only [Act.put, List.setIfInBounds_toArray, List.set_cons_zero, List.set_cons_succ]
  refine anyH_pureG 23 (d := 66) (op := .binOp .neq 3 (.tmp 64) (.tmp 65) 3) (gd := some (20, false)) (.bool false) (by rfl) (fun o ho => by simp only [Region.wanted, ho]; rfl) (by kernel_rfl) (by kernel_rfl) (by kernel_rfl) (fun _ _ _ h => h) (fun o ho W hW => by unfold execOp; simp only [ho]; go_simp; try simp) HSq4.out ?_
  simp only [Act.put, List.setIfInBounds_toArray, List.set_cons_zero, List.set_cons_succ]
  refine anyH_pureG 24 (d := 67) (op := .pick (.tmp 63) (.const (.bool true)) (.tmp 66)) (gd := none) (.bool false) (by rfl) (fun o ho => wanted_plain ho _) (by kernel_rfl) (by kernel_rfl) (by kernel_rfl) (fun _ _ _ h => h) (fun o ho W hW => by unfold execOp; simp only [ho]; go_simp; try simp) HSq4.out ?_
  simp only [Act.put, List.setIfInBounds_toArray, List.set_cons_zero, List.set_cons_succ]
  refine anyH_pureG 25 (d := 68) (op := .move (.tmp 67)) (gd := none) (.bool false) (by rfl) (fun o ho => wanted_plain ho _) (by kernel_rfl) (by kernel_rfl) (by kernel_rfl) (fun _ _ _ h => h) (fun o ho W hW => by unfold execOp; simp only [ho]; go_simp) HSq4.out ?_
  simp only [Act.put, List.setIfInBounds_toArray, List.set_cons_zero, List.set_cons_succ]
  refine anyH_loadG 26 (d := 69) (ty := 48) (x := (.tmp 10)) (gd := some (25, false)) (p := .pointer (some ⟨j10, 0, none⟩)) (.agg Y) (by rfl) (fun o ho => by simp only [Region.wanted, ho]; rfl) (by kernel_rfl) (by kernel_rfl) (by kernel_rfl) (fun _ _ _ h => h) (by rfl) (fun W hW => (hW.box (j10, 48, Y) (by simp)).load Tryd.underlying48 HIYP.out) HSq4.out ?_
  simp only [Act.put, List.setIfInBounds_toArray, List.set_cons_zero, List.set_cons_succ]
  refine anyH_pureG 27 (d := 70) (op := .fieldAddr 46 (.tmp 12) 0) (gd := some (25, false)) (.pointer (some ⟨j12, 0, none⟩)) (by rfl) (fun o ho => by simp only [Region.wanted, ho]; rfl) (by kernel_rfl) (by kernel_rfl) (by kernel_rfl) (fun _ _ _ h => h) (fun o ho W hW => by unfold execOp; simp only [ho]; go_simp) HSq4.out ?_
  simp only [Act.put, List.setIfInBounds_toArray, List.set_cons_zero, List.set_cons_succ]
  refine anyH_loadG 28 (d := 71) (ty := 3) (x := (.tmp 70)) (gd := some (25, false)) (p := .pointer (some ⟨j12, 0, none⟩)) (.int .i64 y.n) (by rfl) (fun o ho => by simp only [Region.wanted, ho]; rfl) (by kernel_rfl) (by kernel_rfl) (by kernel_rfl) (fun _ _ _ h => h) (by rfl) (fun W hW => by have hq := hW.box (j12, 46, Y) (by simp); rw [HYY.out] at hq; have c0 := hq.h0; go_simp) HSq4.out ?_
  simp only [Act.put, List.setIfInBounds_toArray, List.set_cons_zero, List.set_cons_succ]
  refine anyH_pureG 29 (d := 72) (op := .fieldAddr 46 (.tmp 12) 1) (gd := some (25, false)) (.pointer (some ⟨j12, 1, none⟩)) (by rfl) (fun o ho => by simp only [Region.wanted, ho]; rfl) (by kernel_rfl) (by kernel_rfl) (by kernel_rfl) (fun _ _ _ h => h) (fun o ho W hW => by unfold execOp; simp only [ho]; go_simp) HSq4.out ?_
  simp only [Act.put, List.setIfInBounds_toArray, List.set_cons_zero, List.set_cons_succ]
  refine anyH_loadG 30 (d := 73) (ty := 22) (x := (.tmp 72)) (gd := some (25, false)) (p := .pointer (some ⟨j12, 1, none⟩)) (.agg (cellsOf y.root).toArray) (by rfl) (fun o ho => by simp only [Region.wanted, ho]; rfl) (by kernel_rfl) (by kernel_rfl) (by kernel_rfl) (fun _ _ _ h => h) (by rfl) (fun W hW => by have hq := hW.box (j12, 46, Y) (by simp); rw [HYY.out] at hq; exact run_loadAt_mid W j12 1 22 (cellsOf y.root) _ hq.rootAt und_dr rfl (by rw [cellsOf_length, HYO.out.1]; exact info_dr)) HSq4.out ?_
  simp only [Act.put, List.setIfInBounds_toArray, List.set_cons_zero, List.set_cons_succ]
  refine anyH_pureG 31 (d := 74) (op := .fieldAddr 46 (.tmp 12) 2) (gd := some (25, false)) (.pointer (some ⟨j12, 33, none⟩)) (by rfl) (fun o ho => by simp only [Region.wanted, ho]; rfl) (by kernel_rfl) (by kernel_rfl) (by kernel_rfl) (fun _ _ _ h => h) (fun o ho W hW => by unfold execOp; simp only [ho]; go_simp) HSq4.out ?_
  simp only [Act.put, List.setIfInBounds_toArray, List.set_cons_zero, List.set_cons_succ]
  refine anyH_loadG 32 (d := 75) (ty := 3) (x := (.tmp 74)) (gd := some (25, false)) (p := .pointer (some ⟨j12, 33, none⟩)) (.int .i64 y.t) (by rfl) (fun o ho => by simp only [Region.wanted, ho]; rfl) (by kernel_rfl) (by kernel_rfl) (by kernel_rfl) (fun _ _ _ h => h) (by rfl) (fun W hW => by have hq := hW.box (j12, 46, Y) (by simp); rw [HYY.out] at hq; have c33 := hq.h33 HYO.out; go_simp) HSq4.out ?_
  simp only [Act.put, List.setIfInBounds_toArray, List.set_cons_zero, List.set_cons_succ]
  refine anyH_pureG 33 (d := 76) (op := .build 48 #[(0, (.tmp 71)), (1, (.tmp 73)), (2, (.tmp 75))]) (gd := some (25, false)) (.agg Y) (by rfl) (fun o ho => by simp only [Region.wanted, ho]; rfl) (by kernel_rfl) (by kernel_rfl) (by kernel_rfl) (fun _ _ _ h => h) (fun o ho W hW => exec_buildR (by simp only [List.map_toArray, List.map_cons, List.map_nil]; exact HBY.out) o ho W) HSq4.out ?_
  simp only [Act.put, List.setIfInBounds_toArray, List.set_cons_zero, List.set_cons_succ]
  refine anyH_pureG 34 (d := 77) (op := .binOp .neq 48 (.tmp 69) (.tmp 76) 48) (gd := some (25, false)) (.bool false) (by rfl) (fun o ho => by simp only [Region.wanted, ho]; rfl) (by kernel_rfl) (by kernel_rfl) (by kernel_rfl) (fun _ _ _ h => h) (fun o ho W hW => exec_neqS eqg_ph (HEQ.out W) (by rfl) (by rfl) o ho) HSq4.out ?_
  simp only [Act.put, List.setIfInBounds_toArray, List.set_cons_zero, List.set_cons_succ]
  refine anyH_pureG 35 (d := 78) (op := .pick (.tmp 68) (.const (.bool true)) (.tmp 77)) (gd := none) (.bool false) (by rfl) (fun o ho => wanted_plain ho _) (by kernel_rfl) (by kernel_rfl) (by kernel_rfl) (fun _ _ _ h => h) (fun o ho W hW => by unfold execOp; simp only [ho]; go_simp; try simp) HSq4.out ?_
  simp only [Act.put, List.setIfInBounds_toArray, List.set_cons_zero, List.set_cons_succ]
  refine wpAnyH_done (by kernel_rfl) ?_ _
  have H9 := Lib.hid HSq4.out
  obtain ⟨w9, hw9⟩ : ∃ W, W = Wq4 := ⟨_, rfl⟩
  rw [← hw9] at H9 ⊢
  clear hw9 HSM HRI HRR HBY HEQ HYY HYO HIYP HIYQ HOY HZY
  cases b with
  | false =>
    have hx := HEX.out
    rw [if_neg (by decide)] at hx
    obtain ⟨rfl, rfl⟩ := Prod.mk.inj hx
    have HDX := Lib.hid (decH_c a6 n6 c6 [] w9 (H9.out.row (a6, n6, []) (by simp)) HL6.out)
    unfold DH at HDX
    have e0 : hdecL [] = none := rfl
    rw [e0] at HDX
    simp only [Option.getD_none, Option.isSome_none, Bool.false_eq_true, if_false] at HDX
    clear hx e0
    go_upto_region 9 with (first | (go_at_call 19; refine HDX.out.mono ?_; rintro e10 w10 ⟨rfl, hb10⟩; have H10 := Lib.hid (H9.out.step hb10); clear hb10) | (refine wpList_store_row (by rfl) 48 _ _ (by rfl) w10.heap.size (hdC hd0) (by rfl) (by rfl) 48 (hdC hd0) (by exact HNB.out w10) (sizeR (hdC hd0) 48 34 info_ph HZ0.out) rfl (hdC_one hd0) ?_))
    refine gen_codeR (F := fun W => Below w.heap.size w W) (H10.out.newBox 48 (hdC hd0) (hdC hd0)).below ?_
    intro w11 h11
    have H11 := Lib.hid h11
    clear h11
    go_wp2_with fail
    go_ret
    exact ⟨rfl, H11.out⟩
  | true =>
    have hx := HEX.out
    rw [if_pos rfl] at hx
    obtain ⟨rfl, rfl⟩ := Prod.mk.inj hx
    have HDX := Lib.hid (decH_c a6 n6 c6 (hencL h) w9 (H9.out.row (a6, n6, hencL h) (by simp)) HL6.out)
    unfold DH at HDX
    rw [HBK.out rfl] at HDX
    simp only [Option.getD_some, Option.isSome_some, if_true] at HDX
    rw [← HCC.out] at HDX
    clear hx
    go_upto_region 9 with (first | (go_at_call 19; refine HDX.out.mono ?_; rintro e10 w10 ⟨rfl, hb10⟩; have H10 := Lib.hid (H9.out.step hb10); clear hb10) | (refine wpList_store_row (by rfl) 48 _ _ (by rfl) w10.heap.size C (by rfl) (by rfl) 48 (hdC hd0) (by exact HNB.out w10) HICP.out (by rw [HZ0.out, HZC.out]) HOC.out ?_))
    obtain ⟨j14, hj⟩ : ∃ j, j = w10.heap.size := ⟨_, rfl⟩
    refine gen_codeR (F := LF w ([(g, 46, C), (j5, 48, C), (j10, 48, Y), (j12, 46, Y)] ++ [(j14, 48, C)]) [(a1, len1, zb), (a6, n6, hencL h), (a8, n8, hencL h)]) (by rw [hj]; exact H10.out.newBox 48 (hdC hd0) C) ?_
    rw [← hj]
    intro w11 h11
    have H11 := Lib.hid h11
    clear hj h11 H10
    go_wp2_with (first | (refine wpList_runR (by rfl) (.agg C) (exec_ldRow (H11.out.box (j14, 48, C) (by simp)) Tryd.underlying48 HICP.out (by rfl) _ rfl) ?_) | (refine wpList_runR (by rfl) (.agg C) (exec_ldRow (H11.out.box (j5, 48, C) (by simp)) Tryd.underlying48 HICP.out (by rfl) _ rfl) ?_) | (refine wpList_runR (by rfl) (.bool true) (exec_eqS eqg_ph (HEC.out w11) (by rfl) (by rfl) _ rfl) ?_))
    go_ret
    exact ⟨rfl, H11.out.below⟩
end Go.Proofs.YtjjkfbebaoikbaaDoor.Rc
