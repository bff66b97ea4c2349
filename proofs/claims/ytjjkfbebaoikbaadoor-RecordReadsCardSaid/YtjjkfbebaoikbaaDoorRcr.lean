/-
  The walk over RecordReads.
-/
import Derived.Test.YtjjkfbebaoikbaaDoorRcq
import Derived.Test.YtjjkfbebaoikbaaDoorRcn
namespace Go.Proofs.YtjjkfbebaoikbaaDoor.Rc
open Go.RowKit Go.Proofs.Nm Go.Proofs.YtjjkfbebaoikbaaDoor
set_option linter.unusedVariables false
theorem lf_none {w : World} {a : Option Addr} {n : Nat} {zs : List Nat} (h : Rd w a n zs) : LF w [] [(a, n, zs)] w := by
  refine ⟨fun b hb => by simp at hb, fun r hr => ?_, Below.refl _ _⟩
  obtain rfl : r = (a, n, zs) := by simpa using hr
  exact h
set_option maxRecDepth 100000 in
set_option maxHeartbeats 8000000 in
theorem rreads_none (a1 : Option Addr) (len1 cap1 : Nat) (zb : List Nat) (w : World) (r1 : BytesIn w a1 len1 cap1 zb) (hdl : decL zb = none) :
    Calls Tryd.prog 4 #[.slice a1 len1 cap1] w fun e w' => e = .returned (.bool true) ∧ Below w.heap.size w w' := by
  obtain ⟨hr1, hnil1, hlc1, hcm1⟩ := r1
  have hzb := hr1.2.1
  have hdd : dOk rc0.dig := rc0_ok
  have hsz : SzR rc0 := ⟨by decide, by decide⟩
  have hx : encX rc0 = ([], 1) := by unfold encX; rw [if_neg (by decide)]
  obtain ⟨R, hR⟩ : ∃ R, R = rc0 := ⟨_, rfl⟩
  rw [← hR] at hdd hsz hx
  have HDE := Lib.hid fun W (hW : Below w.heap.size w W) => dec_c a1 len1 cap1 zb W (hr1.below hW) hlc1 (by omega) (by omega)
  have HRD := Lib.hid fun W (hW : Below w.heap.size w W) => rdec_c a1 len1 cap1 zb W (hr1.below hW) hlc1 (by omega) (by omega)
  rw [hdl] at HDE HRD
  unfold DR at HDE HRD
  simp only [Option.getD_none, Option.isSome_none, Bool.false_eq_true, if_false, ← hR] at HDE HRD
  have HEN := Lib.hid fun W => enc_c R hdd hsz W
  rw [hx] at HEN
  unfold ER at HEN
  simp only at HEN
  have HFR := Lib.hid fun W => from_c R hdd W
  have HEQ := Lib.hid fun W => eq_rec R R hdd hdd W
  simp only [decide_true] at HEQ
  have HIP := Lib.hid (sizeR (recC R) 31 36 info_p (recC_size hdd))
  have HIQ := Lib.hid (sizeR (recC R) 24 36 info_q (recC_size hdd))
  have HOD := Lib.hid (recC_one R)
  have HZD := Lib.hid (recC_size hdd)
  obtain ⟨D, hD⟩ : ∃ D, D = recC R := ⟨_, rfl⟩
  rw [← hD] at HDE HRD HEN HFR HEQ HIP HIQ HOD HZD
  obtain ⟨xs, hxs⟩ : ∃ xs : List Nat, xs = [] := ⟨_, rfl⟩
  have HXE := Lib.hid hxs
  have HXB := Lib.hid (show ∀ z ∈ xs, z < 256 from by rw [hxs]; simp)
  have HEN2 := Lib.hid (show ∀ W : World, Calls Tryd.prog 7 #[.agg D] W fun e w' => ∃ v, e = .returned (.tuple #[v, .int .i64 1]) ∧ Own w' W.heap.size v xs ∧ Below W.heap.size W w' from fun W => by rw [hxs]; exact HEN.out W)
  have HR1 := Lib.hid hr1
  have HLC := Lib.hid (show len1 ≤ cap1 ∧ cap1 ≤ 140737488351232 from ⟨hlc1, hcm1⟩)
  have HNP := Lib.hid fun W : World => RW.new W 31 (recC rc0)
  have HNQ := Lib.hid fun W : World => RW.new W 24 (recC rc0)
  have HZ0 := Lib.hid (recC_size rc0_ok)
  clear hD hxs hr1 hzb hnil1 hlc1 hcm1 hdl hx hdd hsz HEN hR
  have H0 := Lib.hid (lf_none HR1.out)
  have HD0 := Lib.hid (HDE.out w (Below.refl _ _))
  clear HDE
  go_enter Tryd.func4, Tryd.ntmps4
  go_upto_region 2 with (first | (go_at_call 14; refine HD0.out.mono ?_; rintro e1 w1 ⟨rfl, hb1⟩; have H1 := Lib.hid (H0.out.step hb1); clear hb1) | (refine wpList_store_row (by rfl) 31 _ _ (by rfl) w1.heap.size D (by rfl) (by rfl) 31 (recC rc0) (by exact HNP.out w1) HIP.out (by rw [HZ0.out, HZD.out]) HOD.out ?_))
  obtain ⟨j3, hj⟩ : ∃ j, j = w1.heap.size := ⟨_, rfl⟩
  refine gen_codeR (F := LF w [(j3, 31, D)] [(a1, len1, zb)]) (by rw [hj]; exact H1.out.newBox 31 (recC rc0) D) ?_
  rw [← hj]
  intro w2 h2
  have H2 := Lib.hid h2
  clear hj h2 H1 H0 HD0
  have HD1 := Lib.hid (HRD.out w2 H2.out.below)
  clear HRD
  go_upto_region 3 with (first | (go_at_call 15; refine HD1.out.mono ?_; rintro e3 w3 ⟨rfl, hb3⟩; have H3 := Lib.hid (H2.out.step hb3); clear hb3) | (refine wpList_store_row (by rfl) 24 _ _ (by rfl) w3.heap.size D (by rfl) (by rfl) 24 (recC rc0) (by exact HNQ.out w3) HIQ.out (by rw [HZ0.out, HZD.out]) HOD.out ?_))
  obtain ⟨j5, hj⟩ : ∃ j, j = w3.heap.size := ⟨_, rfl⟩
  refine gen_codeR (F := LF w [(j3, 31, D), (j5, 24, D)] [(a1, len1, zb)]) (by rw [hj]; exact H3.out.newBox 24 (recC rc0) D) ?_
  rw [← hj]
  intro w4 h4
  have H4 := Lib.hid h4
  clear hj h4 H3 H2 HD1
  go_wp2_with (refine wpList_runR (by rfl) (.agg D) (exec_ldRow (H4.out.box (j3, 31, D) (by simp)) Tryd.underlying31 HIP.out (by rfl) _ rfl) ?_)
  refine (HEN2.out _).mono ?_
  rintro e5 w5 ⟨v5, rfl, ho5, hb5⟩
  obtain ⟨a7, n7, c7, rfl, hl7, -, -, -, hr7, -⟩ := ho5.form HXB.out
  have H5 := Lib.hid (show LF w [(j3, 31, D), (j5, 24, D)] [(a1, len1, zb), (a7, n7, xs)] w5 from (H4.out.step hb5).addRow hr7)
  clear ho5 hb5 hl7 hr7 H4 HEN2 HXB
  go_upto_region 4 with fail
  refine anyH_begin (S := LF w [(j3, 31, D), (j5, 24, D)] [(a1, len1, zb), (a7, n7, xs)]) (by kernel_rfl) ?_
  obtain ⟨w6, hw6⟩ : ∃ w6, w6 = w5.drew := ⟨_, rfl⟩
  have HS := Lib.hid (show LF w [(j3, 31, D), (j5, 24, D)] [(a1, len1, zb), (a7, n7, xs)] w6 from by rw [hw6]; exact H5.out.step (below_drewN' _ w5 1))
  rw [← hw6]
  clear hw6 H5
  refine anyH_callG 0 (d := some 24) (f := 10) (xs := #[]) (ts := #[]) (gd := none) (vs := #[]) (by kernel_rfl) (by rfl) (fun o ho => wanted_plain ho _) (by go_simp) (by go_simp) (awake14_c _) ?_
  rintro e Wq1 ⟨rfl, hbq1⟩
  have HSq1 := Lib.hid (HS.out.step hbq1)
  clear hbq1
  refine ⟨_, rfl, HSq1.out, fun _ => ?_⟩
  simp only [Act.put, List.setIfInBounds_toArray, List.set_cons_zero, List.set_cons_succ]
  refine anyH_pureG 1 (d := 25) (op := .move (.tmp 24)) (gd := none) (.bool true) (by rfl) (fun o ho => wanted_plain ho _) (by kernel_rfl) (by kernel_rfl) (by kernel_rfl) (fun _ _ _ h => h) (fun o ho W hW => by unfold execOp; simp only [ho]; go_simp) HSq1.out ?_
  simp only [Act.put, List.setIfInBounds_toArray, List.set_cons_zero, List.set_cons_succ]
  refine anyH_pureG 2 (d := 26) (op := .move (.tmp 4)) (gd := some (1, true)) (.int .i64 10) (by rfl) (fun o ho => by simp only [Region.wanted, ho]; rfl) (by kernel_rfl) (by kernel_rfl) (by kernel_rfl) (fun _ _ _ h => h) (fun o ho W hW => by unfold execOp; simp only [ho]; go_simp) HSq1.out ?_
  simp only [Act.put, List.setIfInBounds_toArray, List.set_cons_zero, List.set_cons_succ]
  refine anyH_pureG 3 (d := 27) (op := .move (.tmp 6)) (gd := some (1, true)) (.int .i64 10) (by rfl) (fun o ho => by simp only [Region.wanted, ho]; rfl) (by kernel_rfl) (by kernel_rfl) (by kernel_rfl) (fun _ _ _ h => h) (fun o ho W hW => by unfold execOp; simp only [ho]; go_simp) HSq1.out ?_
  simp only [Act.put, List.setIfInBounds_toArray, List.set_cons_zero, List.set_cons_succ]
  refine anyH_pureG 4 (d := 28) (op := .binOp .eql 3 (.tmp 26) (.tmp 27) 3) (gd := some (1, true)) (.bool true) (by rfl) (fun o ho => by simp only [Region.wanted, ho]; rfl) (by kernel_rfl) (by kernel_rfl) (by kernel_rfl) (fun _ _ _ h => h) (fun o ho W hW => by unfold execOp; simp only [ho]; go_simp; try simp) HSq1.out ?_
  simp only [Act.put, List.setIfInBounds_toArray, List.set_cons_zero, List.set_cons_succ]
  refine anyH_pureG 5 (d := 29) (op := .pick (.tmp 25) (.tmp 28) (.const (.bool false))) (gd := none) (.bool true) (by rfl) (fun o ho => wanted_plain ho _) (by kernel_rfl) (by kernel_rfl) (by kernel_rfl) (fun _ _ _ h => h) (fun o ho W hW => by unfold execOp; simp only [ho]; go_simp; try simp) HSq1.out ?_
  simp only [Act.put, List.setIfInBounds_toArray, List.set_cons_zero, List.set_cons_succ]
  refine anyH_pureG 6 (d := 30) (op := .move (.tmp 29)) (gd := none) (.bool true) (by rfl) (fun o ho => wanted_plain ho _) (by kernel_rfl) (by kernel_rfl) (by kernel_rfl) (fun _ _ _ h => h) (fun o ho W hW => by unfold execOp; simp only [ho]; go_simp) HSq1.out ?_
  simp only [Act.put, List.setIfInBounds_toArray, List.set_cons_zero, List.set_cons_succ]
  refine anyH_loadG 7 (d := 31) (ty := 31) (x := (.tmp 3)) (gd := some (6, true)) (p := .pointer (some ⟨j3, 0, none⟩)) (.agg D) (by rfl) (fun o ho => by simp only [Region.wanted, ho]; rfl) (by kernel_rfl) (by kernel_rfl) (by kernel_rfl) (fun _ _ _ h => h) (by rfl) (fun W hW => (hW.box (j3, 31, D) (by simp)).load Tryd.underlying31 HIP.out) HSq1.out ?_
  simp only [Act.put, List.setIfInBounds_toArray, List.set_cons_zero, List.set_cons_succ]
  refine anyH_loadG 9 (d := 33) (ty := 24) (x := (.tmp 5)) (gd := some (6, true)) (p := .pointer (some ⟨j5, 0, none⟩)) (.agg D) (by rfl) (fun o ho => by simp only [Region.wanted, ho]; rfl) (by kernel_rfl) (by kernel_rfl) (by kernel_rfl) (fun _ _ _ h => h) (by rfl) (fun W hW => (hW.box (j5, 24, D) (by simp)).load Tryd.underlying24 HIQ.out) HSq1.out ?_
  simp only [Act.put, List.setIfInBounds_toArray, List.set_cons_zero, List.set_cons_succ]
  refine anyH_callG 8 (d := some 32) (f := 16) (xs := #[(.tmp 31)]) (ts := #[31]) (gd := some (6, true)) (vs := #[.agg D]) (by kernel_rfl) (by rfl) (fun o ho => by simp only [Region.wanted, ho]; rfl) (by go_simp) (by go_simp) (HFR.out _) ?_
  rintro e Wq2 ⟨rfl, hbq2⟩
  have HSq2 := Lib.hid (HSq1.out.step hbq2)
  clear hbq2
  refine ⟨_, rfl, HSq2.out, fun _ => ?_⟩
  simp only [Act.put, List.setIfInBounds_toArray, List.set_cons_zero, List.set_cons_succ]
  refine anyH_pureG 10 (d := 34) (op := .binOp .eql 24 (.tmp 32) (.tmp 33) 24) (gd := some (6, true)) (.bool true) (by rfl) (fun o ho => by simp only [Region.wanted, ho]; rfl) (by kernel_rfl) (by kernel_rfl) (by kernel_rfl) (fun _ _ _ h => h) (fun o ho W hW => exec_eqS eqg_q (HEQ.out W) (by rfl) (by rfl) o ho) HSq2.out ?_
  simp only [Act.put, List.setIfInBounds_toArray, List.set_cons_zero, List.set_cons_succ]
  refine anyH_pureG 11 (d := 35) (op := .pick (.tmp 30) (.tmp 34) (.const (.bool false))) (gd := none) (.bool true) (by rfl) (fun o ho => wanted_plain ho _) (by kernel_rfl) (by kernel_rfl) (by kernel_rfl) (fun _ _ _ h => h) (fun o ho W hW => by unfold execOp; simp only [ho]; go_simp; try simp) HSq2.out ?_
  simp only [Act.put, List.setIfInBounds_toArray, List.set_cons_zero, List.set_cons_succ]
  refine anyH_pureG 12 (d := 36) (op := .move (.tmp 35)) (gd := none) (.bool true) (by rfl) (fun o ho => wanted_plain ho _) (by kernel_rfl) (by kernel_rfl) (by kernel_rfl) (fun _ _ _ h => h) (fun o ho W hW => by unfold execOp; simp only [ho]; go_simp) HSq2.out ?_
  simp only [Act.put, List.setIfInBounds_toArray, List.set_cons_zero, List.set_cons_succ]
  refine anyH_pureG 13 (d := 37) (op := .move (.tmp 4)) (gd := some (12, true)) (.int .i64 10) (by rfl) (fun o ho => by simp only [Region.wanted, ho]; rfl) (by kernel_rfl) (by kernel_rfl) (by kernel_rfl) (fun _ _ _ h => h) (fun o ho W hW => by unfold execOp; simp only [ho]; go_simp) HSq2.out ?_
  simp only [Act.put, List.setIfInBounds_toArray, List.set_cons_zero, List.set_cons_succ]
  refine anyH_pureG 14 (d := 38) (op := .binOp .neq 26 (.tmp 37) (.const (.int .i64 0)) 26) (gd := some (12, true)) (.bool true) (by rfl) (fun o ho => by simp only [Region.wanted, ho]; rfl) (by kernel_rfl) (by kernel_rfl) (by kernel_rfl) (fun _ _ _ h => h) (fun o ho W hW => by unfold execOp; simp only [ho]; go_simp; try simp) HSq2.out ?_
  simp only [Act.put, List.setIfInBounds_toArray, List.set_cons_zero, List.set_cons_succ]
  refine anyH_pureG 15 (d := 39) (op := .move (.tmp 38)) (gd := some (12, true)) (.bool true) (by rfl) (fun o ho => by simp only [Region.wanted, ho]; rfl) (by kernel_rfl) (by kernel_rfl) (by kernel_rfl) (fun _ _ _ h => h) (fun o ho W hW => by unfold execOp; simp only [ho]; go_simp) HSq2.out ?_
  simp only [Act.put, List.setIfInBounds_toArray, List.set_cons_zero, List.set_cons_succ]
  refine anyH_skip 16 (d := 40) (op := .move (.tmp 8)) (gd := some (15, false)) (by rfl) (fun o ho => by simp only [Region.wanted, ho]; rfl) (by kernel_rfl) (by kernel_rfl) (by kernel_rfl) (fun _ _ _ h => h) HSq2.out ?_
  simp only [Act.put, List.setIfInBounds_toArray, List.set_cons_zero, List.set_cons_succ]
  refine anyH_skip 17 (d := 41) (op := .binOp .eql 26 (.tmp 40) (.const (.int .i64 0)) 26) (gd := some (15, false)) (by rfl) (fun o ho => by simp only [Region.wanted, ho]; rfl) (by kernel_rfl) (by kernel_rfl) (by kernel_rfl) (fun _ _ _ h => h) HSq2.out ?_
  simp only [Act.put, List.setIfInBounds_toArray, List.set_cons_zero, List.set_cons_succ]
  refine anyH_skip 18 (d := 42) (op := .move (.tmp 41)) (gd := some (15, false)) (by rfl) (fun o ho => by simp only [Region.wanted, ho]; rfl) (by kernel_rfl) (by kernel_rfl) (by kernel_rfl) (fun _ _ _ h => h) HSq2.out ?_
  simp only [Act.put, List.setIfInBounds_toArray, List.set_cons_zero, List.set_cons_succ]
  refine anyH_skip 19 (d := 43) (op := .move (.tmp 0)) (gd := some (18, true)) (by rfl) (fun o ho => by simp only [Region.wanted, ho]; rfl) (by kernel_rfl) (by kernel_rfl) (by kernel_rfl) (fun _ _ _ h => h) HSq2.out ?_
  simp only [Act.put, List.setIfInBounds_toArray, List.set_cons_zero, List.set_cons_succ]
  refine anyH_skip 20 (d := 44) (op := .move (.tmp 7)) (gd := some (18, true)) (by rfl) (fun o ho => by simp only [Region.wanted, ho]; rfl) (by kernel_rfl) (by kernel_rfl) (by kernel_rfl) (fun _ _ _ h => h) HSq2.out ?_
  simp only [Act.put, List.setIfInBounds_toArray, List.set_cons_zero, List.set_cons_succ]
  refine anyH_skip 21 (d := 45) (op := .call { callee := .value (.func 13), args := #[(.tmp 43), (.tmp 44)], argTypes := #[25, 25] }) (gd := some (18, true)) (by rfl) (fun o ho => by simp only [Region.wanted, ho]; rfl) (by kernel_rfl) (by kernel_rfl) (by kernel_rfl) (fun _ _ _ h => h) HSq2.out ?_
  simp only [Act.put, List.setIfInBounds_toArray, List.set_cons_zero, List.set_cons_succ]
  refine anyH_skip 22 (d := 46) (op := .pick (.tmp 42) (.tmp 45) (.const (.bool false))) (gd := some (15, false)) (by rfl) (fun o ho => by simp only [Region.wanted, ho]; rfl) (by kernel_rfl) (by kernel_rfl) (by kernel_rfl) (fun _ _ _ h => h) HSq2.out ?_
  simp only [Act.put, List.setIfInBounds_toArray, List.set_cons_zero, List.set_cons_succ]
  refine anyH_pureG 23 (d := 47) (op := .pick (.tmp 39) (.const (.bool true)) (.tmp 46)) (gd := some (12, true)) (.bool true) (by rfl) (fun o ho => by simp only [Region.wanted, ho]; rfl) (by kernel_rfl) (by kernel_rfl) (by kernel_rfl) (fun _ _ _ h => h) (fun o ho W hW => by unfold execOp; simp only [ho]; go_simp; try simp) HSq2.out ?_
  simp only [Act.put, List.setIfInBounds_toArray, List.set_cons_zero, List.set_cons_succ]
  refine anyH_pureG 24 (d := 48) (op := .pick (.tmp 36) (.tmp 47) (.const (.bool false))) (gd := none) (.bool true) (by rfl) (fun o ho => wanted_plain ho _) (by kernel_rfl) (by kernel_rfl) (by kernel_rfl) (fun _ _ _ h => h) (fun o ho W hW => by unfold execOp; simp only [ho]; go_simp; try simp) HSq2.out ?_
  simp only [Act.put, List.setIfInBounds_toArray, List.set_cons_zero, List.set_cons_succ]
  refine anyH_pureG 25 (d := 2) (op := .assign (.tmp 48)) (gd := none) (.bool true) (by rfl) (fun o ho => wanted_plain ho _) (by kernel_rfl) (by kernel_rfl) (by kernel_rfl) (fun _ _ _ h => h) (fun o ho W hW => by unfold execOp; simp only [ho]; go_simp) HSq2.out ?_
  simp only [Act.put, List.setIfInBounds_toArray, List.set_cons_zero, List.set_cons_succ]
  refine wpAnyH_done (by kernel_rfl) ?_ _
  go_wp2_with fail
  go_ret
  exact ⟨rfl, HSq2.out.below⟩
set_option maxRecDepth 100000 in
set_option maxHeartbeats 8000000 in
theorem rreads_some (a1 : Option Addr) (len1 cap1 : Nat) (zb : List Nat) (w : World) (r1 : BytesIn w a1 len1 cap1 zb) (R : Rcv) (hdl : decL zb = some R) :
    Calls Tryd.prog 4 #[.slice a1 len1 cap1] w fun e w' => e = .returned (.bool true) ∧ Below w.heap.size w w' := by
  obtain ⟨hr1, hnil1, hlc1, hcm1⟩ := r1
  have hzb := hr1.2.1
  obtain ⟨hen, hrr, hdd⟩ := decL_some hzb hdl
  obtain ⟨-, hp2, hp3, -⟩ := right_parts hrr
  have hsz : SzR R := ⟨by omega, by omega⟩
  have hx : encX R = (zb, 0) := by unfold encX; rw [if_pos hrr, hen]
  have HDE := Lib.hid fun W (hW : Below w.heap.size w W) => dec_c a1 len1 cap1 zb W (hr1.below hW) hlc1 (by omega) (by omega)
  have HRD := Lib.hid fun W (hW : Below w.heap.size w W) => rdec_c a1 len1 cap1 zb W (hr1.below hW) hlc1 (by omega) (by omega)
  rw [hdl] at HDE HRD
  unfold DR at HDE HRD
  simp only [Option.getD_some, Option.isSome_some, if_true] at HDE HRD
  have HEN := Lib.hid fun W => enc_c R hdd hsz W
  rw [hx] at HEN
  unfold ER at HEN
  simp only at HEN
  have HFR := Lib.hid fun W => from_c R hdd W
  have HEQ := Lib.hid fun W => eq_rec R R hdd hdd W
  simp only [decide_true] at HEQ
  have HIP := Lib.hid (sizeR (recC R) 31 36 info_p (recC_size hdd))
  have HIQ := Lib.hid (sizeR (recC R) 24 36 info_q (recC_size hdd))
  have HOD := Lib.hid (recC_one R)
  have HZD := Lib.hid (recC_size hdd)
  obtain ⟨D, hD⟩ : ∃ D, D = recC R := ⟨_, rfl⟩
  rw [← hD] at HDE HRD HEN HFR HEQ HIP HIQ HOD HZD
  obtain ⟨xs, hxs⟩ : ∃ xs : List Nat, xs = zb := ⟨_, rfl⟩
  have HXE := Lib.hid hxs
  have HXB := Lib.hid (show ∀ z ∈ xs, z < 256 from by rw [hxs]; exact hzb)
  have HEN2 := Lib.hid (show ∀ W : World, Calls Tryd.prog 7 #[.agg D] W fun e w' => ∃ v, e = .returned (.tuple #[v, .int .i64 0]) ∧ Own w' W.heap.size v xs ∧ Below W.heap.size W w' from fun W => by rw [hxs]; exact HEN.out W)
  have HR1 := Lib.hid hr1
  have HLC := Lib.hid (show len1 ≤ cap1 ∧ cap1 ≤ 140737488351232 from ⟨hlc1, hcm1⟩)
  have HNP := Lib.hid fun W : World => RW.new W 31 (recC rc0)
  have HNQ := Lib.hid fun W : World => RW.new W 24 (recC rc0)
  have HZ0 := Lib.hid (recC_size rc0_ok)
  clear hD hxs hr1 hzb hnil1 hlc1 hcm1 hdl hx hdd hsz HEN hen hrr hp2 hp3
  have H0 := Lib.hid (lf_none HR1.out)
  have HD0 := Lib.hid (HDE.out w (Below.refl _ _))
  clear HDE
  go_enter Tryd.func4, Tryd.ntmps4
  go_upto_region 2 with (first | (go_at_call 14; refine HD0.out.mono ?_; rintro e1 w1 ⟨rfl, hb1⟩; have H1 := Lib.hid (H0.out.step hb1); clear hb1) | (refine wpList_store_row (by rfl) 31 _ _ (by rfl) w1.heap.size D (by rfl) (by rfl) 31 (recC rc0) (by exact HNP.out w1) HIP.out (by rw [HZ0.out, HZD.out]) HOD.out ?_))
  obtain ⟨j3, hj⟩ : ∃ j, j = w1.heap.size := ⟨_, rfl⟩
  refine gen_codeR (F := LF w [(j3, 31, D)] [(a1, len1, zb)]) (by rw [hj]; exact H1.out.newBox 31 (recC rc0) D) ?_
  rw [← hj]
  intro w2 h2
  have H2 := Lib.hid h2
  clear hj h2 H1 H0 HD0
  have HD1 := Lib.hid (HRD.out w2 H2.out.below)
  clear HRD
  go_upto_region 3 with (first | (go_at_call 15; refine HD1.out.mono ?_; rintro e3 w3 ⟨rfl, hb3⟩; have H3 := Lib.hid (H2.out.step hb3); clear hb3) | (refine wpList_store_row (by rfl) 24 _ _ (by rfl) w3.heap.size D (by rfl) (by rfl) 24 (recC rc0) (by exact HNQ.out w3) HIQ.out (by rw [HZ0.out, HZD.out]) HOD.out ?_))
  obtain ⟨j5, hj⟩ : ∃ j, j = w3.heap.size := ⟨_, rfl⟩
  refine gen_codeR (F := LF w [(j3, 31, D), (j5, 24, D)] [(a1, len1, zb)]) (by rw [hj]; exact H3.out.newBox 24 (recC rc0) D) ?_
  rw [← hj]
  intro w4 h4
  have H4 := Lib.hid h4
  clear hj h4 H3 H2 HD1
  go_wp2_with (refine wpList_runR (by rfl) (.agg D) (exec_ldRow (H4.out.box (j3, 31, D) (by simp)) Tryd.underlying31 HIP.out (by rfl) _ rfl) ?_)
  refine (HEN2.out _).mono ?_
  rintro e5 w5 ⟨v5, rfl, ho5, hb5⟩
  obtain ⟨a7, n7, c7, rfl, hl7, -, -, -, hr7, -⟩ := ho5.form HXB.out
  have H5 := Lib.hid (show LF w [(j3, 31, D), (j5, 24, D)] [(a1, len1, zb), (a7, n7, xs)] w5 from (H4.out.step hb5).addRow hr7)
  clear ho5 hb5 hl7 hr7 H4 HEN2 HXB
  have HSM := Lib.hid fun W (hW : LF w [(j3, 31, D), (j5, 24, D)] [(a1, len1, zb), (a7, n7, xs)] W) => show Calls Tryd.prog 13 #[.slice a1 len1 cap1, .slice a7 n7 c7] W (RetD (.bool true) W) from by
    have h := same_c a1 a7 len1 cap1 n7 c7 zb xs W (hW.row (a1, len1, zb) (by simp)) (hW.row (a7, n7, xs) (by simp)) (by have := HLC.out; omega)
    rw [decide_eq_true HXE.out.symm] at h
    exact h
  go_upto_region 4 with fail
  refine anyH_begin (S := LF w [(j3, 31, D), (j5, 24, D)] [(a1, len1, zb), (a7, n7, xs)]) (by kernel_rfl) ?_
  obtain ⟨w6, hw6⟩ : ∃ w6, w6 = w5.drew := ⟨_, rfl⟩
  have HS := Lib.hid (show LF w [(j3, 31, D), (j5, 24, D)] [(a1, len1, zb), (a7, n7, xs)] w6 from by rw [hw6]; exact H5.out.step (below_drewN' _ w5 1))
  rw [← hw6]
  clear hw6 H5
  refine anyH_callG 0 (d := some 24) (f := 10) (xs := #[]) (ts := #[]) (gd := none) (vs := #[]) (by kernel_rfl) (by rfl) (fun o ho => wanted_plain ho _) (by go_simp) (by go_simp) (awake14_c _) ?_
  rintro e Wq1 ⟨rfl, hbq1⟩
  have HSq1 := Lib.hid (HS.out.step hbq1)
  clear hbq1
  refine ⟨_, rfl, HSq1.out, fun _ => ?_⟩
  simp only [Act.put, List.setIfInBounds_toArray, List.set_cons_zero, List.set_cons_succ]
  refine anyH_pureG 1 (d := 25) (op := .move (.tmp 24)) (gd := none) (.bool true) (by rfl) (fun o ho => wanted_plain ho _) (by kernel_rfl) (by kernel_rfl) (by kernel_rfl) (fun _ _ _ h => h) (fun o ho W hW => by unfold execOp; simp only [ho]; go_simp) HSq1.out ?_
  simp only [Act.put, List.setIfInBounds_toArray, List.set_cons_zero, List.set_cons_succ]
  refine anyH_pureG 2 (d := 26) (op := .move (.tmp 4)) (gd := some (1, true)) (.int .i64 0) (by rfl) (fun o ho => by simp only [Region.wanted, ho]; rfl) (by kernel_rfl) (by kernel_rfl) (by kernel_rfl) (fun _ _ _ h => h) (fun o ho W hW => by unfold execOp; simp only [ho]; go_simp) HSq1.out ?_
  simp only [Act.put, List.setIfInBounds_toArray, List.set_cons_zero, List.set_cons_succ]
  refine anyH_pureG 3 (d := 27) (op := .move (.tmp 6)) (gd := some (1, true)) (.int .i64 0) (by rfl) (fun o ho => by simp only [Region.wanted, ho]; rfl) (by kernel_rfl) (by kernel_rfl) (by kernel_rfl) (fun _ _ _ h => h) (fun o ho W hW => by unfold execOp; simp only [ho]; go_simp) HSq1.out ?_
  simp only [Act.put, List.setIfInBounds_toArray, List.set_cons_zero, List.set_cons_succ]
  refine anyH_pureG 4 (d := 28) (op := .binOp .eql 3 (.tmp 26) (.tmp 27) 3) (gd := some (1, true)) (.bool true) (by rfl) (fun o ho => by simp only [Region.wanted, ho]; rfl) (by kernel_rfl) (by kernel_rfl) (by kernel_rfl) (fun _ _ _ h => h) (fun o ho W hW => by unfold execOp; simp only [ho]; go_simp; try simp) HSq1.out ?_
  simp only [Act.put, List.setIfInBounds_toArray, List.set_cons_zero, List.set_cons_succ]
  refine anyH_pureG 5 (d := 29) (op := .pick (.tmp 25) (.tmp 28) (.const (.bool false))) (gd := none) (.bool true) (by rfl) (fun o ho => wanted_plain ho _) (by kernel_rfl) (by kernel_rfl) (by kernel_rfl) (fun _ _ _ h => h) (fun o ho W hW => by unfold execOp; simp only [ho]; go_simp; try simp) HSq1.out ?_
  simp only [Act.put, List.setIfInBounds_toArray, List.set_cons_zero, List.set_cons_succ]
  refine anyH_pureG 6 (d := 30) (op := .move (.tmp 29)) (gd := none) (.bool true) (by rfl) (fun o ho => wanted_plain ho _) (by kernel_rfl) (by kernel_rfl) (by kernel_rfl) (fun _ _ _ h => h) (fun o ho W hW => by unfold execOp; simp only [ho]; go_simp) HSq1.out ?_
  simp only [Act.put, List.setIfInBounds_toArray, List.set_cons_zero, List.set_cons_succ]
  refine anyH_loadG 7 (d := 31) (ty := 31) (x := (.tmp 3)) (gd := some (6, true)) (p := .pointer (some ⟨j3, 0, none⟩)) (.agg D) (by rfl) (fun o ho => by simp only [Region.wanted, ho]; rfl) (by kernel_rfl) (by kernel_rfl) (by kernel_rfl) (fun _ _ _ h => h) (by rfl) (fun W hW => (hW.box (j3, 31, D) (by simp)).load Tryd.underlying31 HIP.out) HSq1.out ?_
  simp only [Act.put, List.setIfInBounds_toArray, List.set_cons_zero, List.set_cons_succ]
  refine anyH_loadG 9 (d := 33) (ty := 24) (x := (.tmp 5)) (gd := some (6, true)) (p := .pointer (some ⟨j5, 0, none⟩)) (.agg D) (by rfl) (fun o ho => by simp only [Region.wanted, ho]; rfl) (by kernel_rfl) (by kernel_rfl) (by kernel_rfl) (fun _ _ _ h => h) (by rfl) (fun W hW => (hW.box (j5, 24, D) (by simp)).load Tryd.underlying24 HIQ.out) HSq1.out ?_
  simp only [Act.put, List.setIfInBounds_toArray, List.set_cons_zero, List.set_cons_succ]
  refine anyH_callG 8 (d := some 32) (f := 16) (xs := #[(.tmp 31)]) (ts := #[31]) (gd := some (6, true)) (vs := #[.agg D]) (by kernel_rfl) (by rfl) (fun o ho => by simp only [Region.wanted, ho]; rfl) (by go_simp) (by go_simp) (HFR.out _) ?_
  rintro e Wq2 ⟨rfl, hbq2⟩
  have HSq2 := Lib.hid (HSq1.out.step hbq2)
  clear hbq2
  refine ⟨_, rfl, HSq2.out, fun _ => ?_⟩
  simp only [Act.put, List.setIfInBounds_toArray, List.set_cons_zero, List.set_cons_succ]
  refine anyH_pureG 10 (d := 34) (op := .binOp .eql 24 (.tmp 32) (.tmp 33) 24) (gd := some (6, true)) (.bool true) (by rfl) (fun o ho => by simp only [Region.wanted, ho]; rfl) (by kernel_rfl) (by kernel_rfl) (by kernel_rfl) (fun _ _ _ h => h) (fun o ho W hW => exec_eqS eqg_q (HEQ.out W) (by rfl) (by rfl) o ho) HSq2.out ?_
  simp only [Act.put, List.setIfInBounds_toArray, List.set_cons_zero, List.set_cons_succ]
  refine anyH_pureG 11 (d := 35) (op := .pick (.tmp 30) (.tmp 34) (.const (.bool false))) (gd := none) (.bool true) (by rfl) (fun o ho => wanted_plain ho _) (by kernel_rfl) (by kernel_rfl) (by kernel_rfl) (fun _ _ _ h => h) (fun o ho W hW => by unfold execOp; simp only [ho]; go_simp; try simp) HSq2.out ?_
  simp only [Act.put, List.setIfInBounds_toArray, List.set_cons_zero, List.set_cons_succ]
  refine anyH_pureG 12 (d := 36) (op := .move (.tmp 35)) (gd := none) (.bool true) (by rfl) (fun o ho => wanted_plain ho _) (by kernel_rfl) (by kernel_rfl) (by kernel_rfl) (fun _ _ _ h => h) (fun o ho W hW => by unfold execOp; simp only [ho]; go_simp) HSq2.out ?_
  simp only [Act.put, List.setIfInBounds_toArray, List.set_cons_zero, List.set_cons_succ]
  refine anyH_pureG 13 (d := 37) (op := .move (.tmp 4)) (gd := some (12, true)) (.int .i64 0) (by rfl) (fun o ho => by simp only [Region.wanted, ho]; rfl) (by kernel_rfl) (by kernel_rfl) (by kernel_rfl) (fun _ _ _ h => h) (fun o ho W hW => by unfold execOp; simp only [ho]; go_simp) HSq2.out ?_
  simp only [Act.put, List.setIfInBounds_toArray, List.set_cons_zero, List.set_cons_succ]
  refine anyH_pureG 14 (d := 38) (op := .binOp .neq 26 (.tmp 37) (.const (.int .i64 0)) 26) (gd := some (12, true)) (.bool false) (by rfl) (fun o ho => by simp only [Region.wanted, ho]; rfl) (by kernel_rfl) (by kernel_rfl) (by kernel_rfl) (fun _ _ _ h => h) (fun o ho W hW => by unfold execOp; simp only [ho]; go_simp; try simp) HSq2.out ?_
  simp only [Act.put, List.setIfInBounds_toArray, List.set_cons_zero, List.set_cons_succ]
  refine anyH_pureG 15 (d := 39) (op := .move (.tmp 38)) (gd := some (12, true)) (.bool false) (by rfl) (fun o ho => by simp only [Region.wanted, ho]; rfl) (by kernel_rfl) (by kernel_rfl) (by kernel_rfl) (fun _ _ _ h => h) (fun o ho W hW => by unfold execOp; simp only [ho]; go_simp) HSq2.out ?_
  simp only [Act.put, List.setIfInBounds_toArray, List.set_cons_zero, List.set_cons_succ]
  refine anyH_pureG 16 (d := 40) (op := .move (.tmp 8)) (gd := some (15, false)) (.int .i64 0) (by rfl) (fun o ho => by simp only [Region.wanted, ho]; rfl) (by kernel_rfl) (by kernel_rfl) (by kernel_rfl) (fun _ _ _ h => h) (fun o ho W hW => by unfold execOp; simp only [ho]; go_simp) HSq2.out ?_
  simp only [Act.put, List.setIfInBounds_toArray, List.set_cons_zero, List.set_cons_succ]
  refine anyH_pureG 17 (d := 41) (op := .binOp .eql 26 (.tmp 40) (.const (.int .i64 0)) 26) (gd := some (15, false)) (.bool true) (by rfl) (fun o ho => by simp only [Region.wanted, ho]; rfl) (by kernel_rfl) (by kernel_rfl) (by kernel_rfl) (fun _ _ _ h => h) (fun o ho W hW => by unfold execOp; simp only [ho]; go_simp; try simp) HSq2.out ?_
  simp only [Act.put, List.setIfInBounds_toArray, List.set_cons_zero, List.set_cons_succ]
  refine anyH_pureG 18 (d := 42) (op := .move (.tmp 41)) (gd := some (15, false)) (.bool true) (by rfl) (fun o ho => by simp only [Region.wanted, ho]; rfl) (by kernel_rfl) (by kernel_rfl) (by kernel_rfl) (fun _ _ _ h => h) (fun o ho W hW => by unfold execOp; simp only [ho]; go_simp) HSq2.out ?_
  simp only [Act.put, List.setIfInBounds_toArray, List.set_cons_zero, List.set_cons_succ]
  refine anyH_pureG 19 (d := 43) (op := .move (.tmp 0)) (gd := some (18, true)) (.slice a1 len1 cap1) (by rfl) (fun o ho => by simp only [Region.wanted, ho]; rfl) (by kernel_rfl) (by kernel_rfl) (by kernel_rfl) (fun _ _ _ h => h) (fun o ho W hW => by unfold execOp; simp only [ho]; go_simp) HSq2.out ?_
  simp only [Act.put, List.setIfInBounds_toArray, List.set_cons_zero, List.set_cons_succ]
  refine anyH_pureG 20 (d := 44) (op := .move (.tmp 7)) (gd := some (18, true)) (.slice a7 n7 c7) (by rfl) (fun o ho => by simp only [Region.wanted, ho]; rfl) (by kernel_rfl) (by kernel_rfl) (by kernel_rfl) (fun _ _ _ h => h) (fun o ho W hW => by unfold execOp; simp only [ho]; go_simp) HSq2.out ?_
  simp only [Act.put, List.setIfInBounds_toArray, List.set_cons_zero, List.set_cons_succ]
  refine anyH_callG 21 (d := some 45) (f := 13) (xs := #[(.tmp 43), (.tmp 44)]) (ts := #[25, 25]) (gd := some (18, true)) (vs := #[.slice a1 len1 cap1, .slice a7 n7 c7]) (by kernel_rfl) (by rfl) (fun o ho => by simp only [Region.wanted, ho]; rfl) (by go_simp) (by go_simp) ((HSM.out _ HSq2.out).mono fun e w' h => RD.below h) ?_
  rintro e Wq9 ⟨rfl, hbq9⟩
  have HSq9 := Lib.hid (HSq2.out.step hbq9)
  clear hbq9
  refine ⟨_, rfl, HSq9.out, fun _ => ?_⟩
  simp only [Act.put, List.setIfInBounds_toArray, List.set_cons_zero, List.set_cons_succ]
  refine anyH_pureG 22 (d := 46) (op := .pick (.tmp 42) (.tmp 45) (.const (.bool false))) (gd := some (15, false)) (.bool true) (by rfl) (fun o ho => by simp only [Region.wanted, ho]; rfl) (by kernel_rfl) (by kernel_rfl) (by kernel_rfl) (fun _ _ _ h => h) (fun o ho W hW => by unfold execOp; simp only [ho]; go_simp; try simp) HSq9.out ?_
  simp only [Act.put, List.setIfInBounds_toArray, List.set_cons_zero, List.set_cons_succ]
  refine anyH_pureG 23 (d := 47) (op := .pick (.tmp 39) (.const (.bool true)) (.tmp 46)) (gd := some (12, true)) (.bool true) (by rfl) (fun o ho => by simp only [Region.wanted, ho]; rfl) (by kernel_rfl) (by kernel_rfl) (by kernel_rfl) (fun _ _ _ h => h) (fun o ho W hW => by unfold execOp; simp only [ho]; go_simp; try simp) HSq9.out ?_
  simp only [Act.put, List.setIfInBounds_toArray, List.set_cons_zero, List.set_cons_succ]
  refine anyH_pureG 24 (d := 48) (op := .pick (.tmp 36) (.tmp 47) (.const (.bool false))) (gd := none) (.bool true) (by rfl) (fun o ho => wanted_plain ho _) (by kernel_rfl) (by kernel_rfl) (by kernel_rfl) (fun _ _ _ h => h) (fun o ho W hW => by unfold execOp; simp only [ho]; go_simp; try simp) HSq9.out ?_
  simp only [Act.put, List.setIfInBounds_toArray, List.set_cons_zero, List.set_cons_succ]
  refine anyH_pureG 25 (d := 2) (op := .assign (.tmp 48)) (gd := none) (.bool true) (by rfl) (fun o ho => wanted_plain ho _) (by kernel_rfl) (by kernel_rfl) (by kernel_rfl) (fun _ _ _ h => h) (fun o ho W hW => by unfold execOp; simp only [ho]; go_simp) HSq9.out ?_
  simp only [Act.put, List.setIfInBounds_toArray, List.set_cons_zero, List.set_cons_succ]
  refine wpAnyH_done (by kernel_rfl) ?_ _
  go_wp2_with fail
  go_ret
  exact ⟨rfl, HSq9.out.below⟩
theorem rreads_c (a1 : Option Addr) (len1 cap1 : Nat) (zb : List Nat) (w : World) (r1 : BytesIn w a1 len1 cap1 zb) : Calls Tryd.prog 4 #[.slice a1 len1 cap1] w fun e w' => e = .returned (.bool true) ∧ Below w.heap.size w w' := by
  cases h : decL zb with
  | none => exact rreads_none a1 len1 cap1 zb w r1 h
  | some R => exact rreads_some a1 len1 cap1 zb w r1 R h
end Go.Proofs.YtjjkfbebaoikbaaDoor.Rc
