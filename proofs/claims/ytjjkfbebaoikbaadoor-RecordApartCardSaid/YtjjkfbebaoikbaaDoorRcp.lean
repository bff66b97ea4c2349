/-
  The walk over RecordApart.
-/
import Derived.Test.YtjjkfbebaoikbaaDoorRco
namespace Go.Proofs.YtjjkfbebaoikbaaDoor.Rc
open Go.RowKit Go.Proofs.Nm Go.Proofs.YtjjkfbebaoikbaaDoor
set_option linter.unusedVariables false
theorem lf_two (w : World) (t : TypeId) (C D : Array Value) : LF w [(w.heap.size, t, C), (w.heap.size + 1, t, D)] [] ((w.alloc (.cells C t (0, 0))).alloc (.cells D t (0, 0))) := by
  have h := B2.new w t t C D
  refine ⟨fun b hb => ?_, fun r hr => by simp at hr, h.below⟩
  simp only [List.mem_cons, List.not_mem_nil, or_false] at hb
  rcases hb with rfl | rfl
  · exact h.a
  · exact h.b
/-- neither has bytes that count: nothing is asked -/
def Apt (w : World) (e : Ending) (w' : World) : Prop := e = .returned (.bool true) ∧ Below w.heap.size w w'
set_option maxRecDepth 100000 in
set_option maxHeartbeats 8000000 in
theorem apart_n1 (x y : Rcv) (w : World) (hx : dOk x.dig) (sx : SzR x) (hy : dOk y.dig) (sy : SzR y) (h1 : rightB x = false) :
    Calls Tryd.prog 6 #[.agg (recC x), .agg (recC y)] w (Apt w) := by
  have HIA := Lib.hid (sizeR (recC x) 24 36 info_q (recC_size hx))
  have HIB := Lib.hid (sizeR (recC y) 24 36 info_q (recC_size hy))
  have HTA := Lib.hid fun W => to_c x hx W
  have HTB := Lib.hid fun W => to_c y hy W
  have HEA := Lib.hid fun W => enc_c x hx sx W
  have HEB := Lib.hid fun W => enc_c y hy sy W
  have HXA := Lib.hid (encX_byte x hx)
  have HXB := Lib.hid (encX_byte y hy)
  have HLA := Lib.hid (encX_len x hx)
  have HLB := Lib.hid (encX_len y hy)
  rw [show encX x = ([], 1) from by unfold encX; rw [h1]; rfl] at HEA HXA HLA
  obtain ⟨Y, hY⟩ : ∃ Y, Y = encX y := ⟨_, rfl⟩
  rw [← hY] at HEB HXB HLB
  clear hY h1
  obtain ⟨ys, n⟩ := Y
  obtain ⟨xs, hxs⟩ : ∃ xs : List Nat, xs = [] := ⟨_, rfl⟩
  rw [← hxs] at HEA HXA HLA
  clear hxs
  obtain ⟨CA, hCA⟩ : ∃ C, C = recC x := ⟨_, rfl⟩
  obtain ⟨CB, hCB⟩ : ∃ C, C = recC y := ⟨_, rfl⟩
  rw [← hCA] at HIA HTA HEA ⊢
  rw [← hCB] at HIB HTB HEB ⊢
  clear hCA hCB hx hy sx sy
  unfold ER at HEA HEB
  simp only at HEA HEB HXA HXB HLA HLB
  go_enter Tryd.func6, Tryd.ntmps6
  go_upto_region 1 with (fail)
  obtain ⟨g, hg⟩ : ∃ g, g = w.heap.size := ⟨_, rfl⟩
  obtain ⟨g2, hg2⟩ : ∃ g2, g2 = g + 1 := ⟨_, rfl⟩
  refine gen_codeR (F := LF w [(g, 24, CA), (g2, 24, CB)] []) (by
    rw [hg2, hg]
    exact lf_two w 24 CA CB) ?_
  rw [← hg, ← hg2]
  intro w0 h0
  have H0 := Lib.hid h0
  clear hg hg2 h0
  go_wp2_with (refine wpList_runR (by rfl) (.agg CA) (exec_ldRow (H0.out.box (g, 24, CA) (by simp)) Tryd.underlying24 HIA.out (by rfl) _ rfl) ?_)
  refine (HTA.out _).mono ?_
  rintro e1 w1 ⟨rfl, hb1⟩
  have H1 := Lib.hid (H0.out.step hb1)
  clear hb1 H0
  go_wp2_with fail
  refine (HEA.out _).mono ?_
  rintro e2 w2 ⟨v2, rfl, ho2, hb2⟩
  obtain ⟨a5, n5, c5, rfl, hl5, hlc5, hcm5, -, hr5, -⟩ := ho2.form HXA.out
  have H2 := Lib.hid (show LF w [(g, 24, CA), (g2, 24, CB)] [(a5, n5, xs)] w2 from (H1.out.step hb2).addRow hr5)
  have HN5 := Lib.hid (show n5 ≤ 1000 by have := HLA.out; omega)
  have HC5 := Lib.hid (show n5 ≤ c5 ∧ c5 ≤ 9223372036854775807 from ⟨hlc5, hcm5⟩)
  clear ho2 hb2 hl5 hr5 hlc5 hcm5 H1 HEA
  go_wp2_with (refine wpList_runR (by rfl) (.agg CB) (exec_ldRow (H2.out.box (g2, 24, CB) (by simp)) Tryd.underlying24 HIB.out (by rfl) _ rfl) ?_)
  refine (HTB.out _).mono ?_
  rintro e3 w3 ⟨rfl, hb3⟩
  have H3 := Lib.hid (H2.out.step hb3)
  clear hb3 H2
  go_wp2_with fail
  refine (HEB.out _).mono ?_
  rintro e4 w4 ⟨v4, rfl, ho4, hb4⟩
  obtain ⟨a7, n7, c7, rfl, hl7, -, -, -, hr7, -⟩ := ho4.form HXB.out
  have H4 := Lib.hid (show LF w [(g, 24, CA), (g2, 24, CB)] [(a5, n5, xs), (a7, n7, ys)] w4 from (H3.out.step hb4).addRow hr7)
  clear ho4 hb4 hl7 hr7 H3 HEB HXA HXB HLA HLB
  go_wp2_with fail
  refine (awake14_c _).mono ?_
  rintro e5 w5 ⟨rfl, hb5⟩
  have H5 := Lib.hid (H4.out.step hb5)
  clear hb5 H4
  go_wp2_with fail
  refine (awake14_c _).mono ?_
  rintro e6 w6 ⟨rfl, hb6⟩
  have H6 := Lib.hid (H5.out.below.trans (hb6.mono H5.out.below.size))
  clear hb6
  go_wp2_with fail
  go_ret
  exact ⟨rfl, H6.out⟩
set_option maxRecDepth 100000 in
set_option maxHeartbeats 8000000 in
theorem apart_n2 (x y : Rcv) (w : World) (hx : dOk x.dig) (sx : SzR x) (hy : dOk y.dig) (sy : SzR y) (h1 : rightB x = true) (h2 : rightB y = false) :
    Calls Tryd.prog 6 #[.agg (recC x), .agg (recC y)] w (Apt w) := by
  have HIA := Lib.hid (sizeR (recC x) 24 36 info_q (recC_size hx))
  have HIB := Lib.hid (sizeR (recC y) 24 36 info_q (recC_size hy))
  have HTA := Lib.hid fun W => to_c x hx W
  have HTB := Lib.hid fun W => to_c y hy W
  have HEA := Lib.hid fun W => enc_c x hx sx W
  have HEB := Lib.hid fun W => enc_c y hy sy W
  have HXA := Lib.hid (encX_byte x hx)
  have HXB := Lib.hid (encX_byte y hy)
  have HLA := Lib.hid (encX_len x hx)
  have HLB := Lib.hid (encX_len y hy)
  rw [show encX x = (encL x, 0) from by unfold encX; rw [h1]; rfl] at HEA HXA HLA
  rw [show encX y = ([], 1) from by unfold encX; rw [h2]; rfl] at HEB HXB HLB
  obtain ⟨xs, hxs⟩ : ∃ xs : List Nat, xs = encL x := ⟨_, rfl⟩
  obtain ⟨ys, hys⟩ : ∃ ys : List Nat, ys = [] := ⟨_, rfl⟩
  rw [← hxs] at HEA HXA HLA
  rw [← hys] at HEB HXB HLB
  clear hxs hys h1 h2
  obtain ⟨CA, hCA⟩ : ∃ C, C = recC x := ⟨_, rfl⟩
  obtain ⟨CB, hCB⟩ : ∃ C, C = recC y := ⟨_, rfl⟩
  rw [← hCA] at HIA HTA HEA ⊢
  rw [← hCB] at HIB HTB HEB ⊢
  clear hCA hCB hx hy sx sy
  unfold ER at HEA HEB
  simp only at HEA HEB HXA HXB HLA HLB
  go_enter Tryd.func6, Tryd.ntmps6
  go_upto_region 1 with (fail)
  obtain ⟨g, hg⟩ : ∃ g, g = w.heap.size := ⟨_, rfl⟩
  obtain ⟨g2, hg2⟩ : ∃ g2, g2 = g + 1 := ⟨_, rfl⟩
  refine gen_codeR (F := LF w [(g, 24, CA), (g2, 24, CB)] []) (by
    rw [hg2, hg]
    exact lf_two w 24 CA CB) ?_
  rw [← hg, ← hg2]
  intro w0 h0
  have H0 := Lib.hid h0
  clear hg hg2 h0
  go_wp2_with (refine wpList_runR (by rfl) (.agg CA) (exec_ldRow (H0.out.box (g, 24, CA) (by simp)) Tryd.underlying24 HIA.out (by rfl) _ rfl) ?_)
  refine (HTA.out _).mono ?_
  rintro e1 w1 ⟨rfl, hb1⟩
  have H1 := Lib.hid (H0.out.step hb1)
  clear hb1 H0
  go_wp2_with fail
  refine (HEA.out _).mono ?_
  rintro e2 w2 ⟨v2, rfl, ho2, hb2⟩
  obtain ⟨a5, n5, c5, rfl, hl5, hlc5, hcm5, -, hr5, -⟩ := ho2.form HXA.out
  have H2 := Lib.hid (show LF w [(g, 24, CA), (g2, 24, CB)] [(a5, n5, xs)] w2 from (H1.out.step hb2).addRow hr5)
  have HN5 := Lib.hid (show n5 ≤ 1000 by have := HLA.out; omega)
  have HC5 := Lib.hid (show n5 ≤ c5 ∧ c5 ≤ 9223372036854775807 from ⟨hlc5, hcm5⟩)
  clear ho2 hb2 hl5 hr5 hlc5 hcm5 H1 HEA
  go_wp2_with (refine wpList_runR (by rfl) (.agg CB) (exec_ldRow (H2.out.box (g2, 24, CB) (by simp)) Tryd.underlying24 HIB.out (by rfl) _ rfl) ?_)
  refine (HTB.out _).mono ?_
  rintro e3 w3 ⟨rfl, hb3⟩
  have H3 := Lib.hid (H2.out.step hb3)
  clear hb3 H2
  go_wp2_with fail
  refine (HEB.out _).mono ?_
  rintro e4 w4 ⟨v4, rfl, ho4, hb4⟩
  obtain ⟨a7, n7, c7, rfl, hl7, -, -, -, hr7, -⟩ := ho4.form HXB.out
  have H4 := Lib.hid (show LF w [(g, 24, CA), (g2, 24, CB)] [(a5, n5, xs), (a7, n7, ys)] w4 from (H3.out.step hb4).addRow hr7)
  clear ho4 hb4 hl7 hr7 H3 HEB HXA HXB HLA HLB
  go_wp2_with fail
  refine (awake14_c _).mono ?_
  rintro e5 w5 ⟨rfl, hb5⟩
  have H5 := Lib.hid (H4.out.step hb5)
  clear hb5 H4
  go_wp2_with fail
  refine (awake14_c _).mono ?_
  rintro e6 w6 ⟨rfl, hb6⟩
  have H6 := Lib.hid (H5.out.below.trans (hb6.mono H5.out.below.size))
  clear hb6
  go_wp2_with fail
  go_ret
  exact ⟨rfl, H6.out⟩
set_option maxRecDepth 100000 in
set_option maxHeartbeats 8000000 in
theorem apart_ok (x y : Rcv) (w : World) (hx : dOk x.dig) (sx : SzR x) (hy : dOk y.dig) (sy : SzR y) (h1 : rightB x = true) (h2 : rightB y = true) :
    Calls Tryd.prog 6 #[.agg (recC x), .agg (recC y)] w (Apt w) := by
  have HIA := Lib.hid (sizeR (recC x) 24 36 info_q (recC_size hx))
  have HIB := Lib.hid (sizeR (recC y) 24 36 info_q (recC_size hy))
  have HTA := Lib.hid fun W => to_c x hx W
  have HTB := Lib.hid fun W => to_c y hy W
  have HEA := Lib.hid fun W => enc_c x hx sx W
  have HEB := Lib.hid fun W => enc_c y hy sy W
  have HXA := Lib.hid (encX_byte x hx)
  have HXB := Lib.hid (encX_byte y hy)
  have HLA := Lib.hid (encX_len x hx)
  have HLB := Lib.hid (encX_len y hy)
  rw [show encX x = (encL x, 0) from by unfold encX; rw [h1]; rfl] at HEA HXA HLA
  rw [show encX y = (encL y, 0) from by unfold encX; rw [h2]; rfl] at HEB HXB HLB
  have HFR := Lib.hid fun W => from_c x hx W
  have HEQ := Lib.hid fun W => eq_rec x y hx hy W
  have HEA2 := Lib.hid fun W => eq_rec x x hx hx W
  simp only [decide_true] at HEA2
  have HIP := Lib.hid (sizeR (recC x) 31 36 info_p (recC_size hx))
  have HOP := Lib.hid (recC_one x)
  have HZP := Lib.hid (recC_size hx)
  have HDX := Lib.hid fun (a : Option Addr) (len cap : Nat) (W : World) (h : Rd W a len (encL x)) (hc : len ≤ cap) => decH_c a len cap (encL x) W h hc
  rw [hdecL_rec h1] at HDX
  have HDR := Lib.hid fun (a : Option Addr) (len cap : Nat) (W : World) (h : Rd W a len (encL x)) (hc : len ≤ cap) (hm : len ≤ 140737488355328) (hm0 : cap ≤ 9223372036854775807) => dec_c a len cap (encL x) W h hc hm hm0
  rw [decL_enc h1 hx] at HDR
  unfold DH at HDX
  unfold DR at HDR
  simp only [Option.getD_none, Option.isSome_none, Bool.false_eq_true, if_false] at HDX
  simp only [Option.getD_some, Option.isSome_some, if_true] at HDR
  have HBB := Lib.hid (show decide (encL x = encL y) = decide (x = y) from by
    by_cases e : x = y
    · rw [decide_eq_true e, decide_eq_true (congrArg encL e)]
    · rw [decide_eq_false e, decide_eq_false (fun h => e (encL_inj h1 h2 hx hy h))])
  have HSAME := Lib.hid fun (a1 a2 : Option Addr) (n1 c1 n2 c2 : Nat) (W : World) (p1 : Rd W a1 n1 (encL x)) (p2 : Rd W a2 n2 (encL y)) (hm : n1 ≤ 9223372036854775807) => same_c a1 a2 n1 c1 n2 c2 (encL x) (encL y) W p1 p2 hm
  simp only [HBB.out] at HSAME
  obtain ⟨bb, hbb⟩ : ∃ b, b = decide (x = y) := ⟨_, rfl⟩
  simp only [← hbb] at HSAME HEQ
  obtain ⟨xs, hxs⟩ : ∃ xs : List Nat, xs = encL x := ⟨_, rfl⟩
  obtain ⟨ys, hys⟩ : ∃ ys : List Nat, ys = encL y := ⟨_, rfl⟩
  rw [← hxs] at HEA HXA HLA HDX HDR HSAME
  rw [← hys] at HEB HXB HLB HSAME
  obtain ⟨CA, hCA⟩ : ∃ C, C = recC x := ⟨_, rfl⟩
  obtain ⟨CB, hCB⟩ : ∃ C, C = recC y := ⟨_, rfl⟩
  rw [← hCA] at HIA HTA HEA HFR HEQ HEA2 HIP HOP HZP HDR ⊢
  rw [← hCB] at HIB HTB HEB HEQ ⊢
  clear hCA hCB hx hy sx sy h1 h2 hbb hxs hys HBB
  have HIH := Lib.hid (sizeR (hdC hd0) 48 34 info_ph (hdC_size hd0_ok))
  have HOH := Lib.hid (hdC_one hd0)
  have HZH := Lib.hid (hdC_size hd0_ok)
  have HNH := Lib.hid fun W : World => RW.new W 48 (hdC hd0)
  have HNP := Lib.hid fun W : World => RW.new W 31 (recC rc0)
  have HZ0 := Lib.hid (recC_size rc0_ok)
  obtain ⟨HH, hHH⟩ : ∃ C, C = hdC hd0 := ⟨_, rfl⟩
  rw [← hHH] at HDX HIH HOH HZH
  have HHE := Lib.hid hHH
  clear hHH
  unfold ER at HEA HEB
  simp only at HEA HEB HXA HXB HLA HLB
  go_enter Tryd.func6, Tryd.ntmps6
  go_upto_region 1 with (fail)
  obtain ⟨g, hg⟩ : ∃ g, g = w.heap.size := ⟨_, rfl⟩
  obtain ⟨g2, hg2⟩ : ∃ g2, g2 = g + 1 := ⟨_, rfl⟩
  refine gen_codeR (F := LF w [(g, 24, CA), (g2, 24, CB)] []) (by
    rw [hg2, hg]
    exact lf_two w 24 CA CB) ?_
  rw [← hg, ← hg2]
  intro w0 h0
  have H0 := Lib.hid h0
  clear hg hg2 h0
  go_wp2_with (refine wpList_runR (by rfl) (.agg CA) (exec_ldRow (H0.out.box (g, 24, CA) (by simp)) Tryd.underlying24 HIA.out (by rfl) _ rfl) ?_)
  refine (HTA.out _).mono ?_
  rintro e1 w1 ⟨rfl, hb1⟩
  have H1 := Lib.hid (H0.out.step hb1)
  clear hb1 H0
  go_wp2_with fail
  refine (HEA.out _).mono ?_
  rintro e2 w2 ⟨v2, rfl, ho2, hb2⟩
  obtain ⟨a5, n5, c5, rfl, hl5, hlc5, hcm5, -, hr5, -⟩ := ho2.form HXA.out
  have H2 := Lib.hid (show LF w [(g, 24, CA), (g2, 24, CB)] [(a5, n5, xs)] w2 from (H1.out.step hb2).addRow hr5)
  have HN5 := Lib.hid (show n5 ≤ 1000 by have := HLA.out; omega)
  have HC5 := Lib.hid (show n5 ≤ c5 ∧ c5 ≤ 9223372036854775807 from ⟨hlc5, hcm5⟩)
  clear ho2 hb2 hl5 hr5 hlc5 hcm5 H1 HEA
  go_wp2_with (refine wpList_runR (by rfl) (.agg CB) (exec_ldRow (H2.out.box (g2, 24, CB) (by simp)) Tryd.underlying24 HIB.out (by rfl) _ rfl) ?_)
  refine (HTB.out _).mono ?_
  rintro e3 w3 ⟨rfl, hb3⟩
  have H3 := Lib.hid (H2.out.step hb3)
  clear hb3 H2
  go_wp2_with fail
  refine (HEB.out _).mono ?_
  rintro e4 w4 ⟨v4, rfl, ho4, hb4⟩
  obtain ⟨a7, n7, c7, rfl, hl7, -, -, -, hr7, -⟩ := ho4.form HXB.out
  have H4 := Lib.hid (show LF w [(g, 24, CA), (g2, 24, CB)] [(a5, n5, xs), (a7, n7, ys)] w4 from (H3.out.step hb4).addRow hr7)
  clear ho4 hb4 hl7 hr7 H3 HEB HXA HXB HLA HLB
  go_wp2_with fail
  refine (awake14_c _).mono ?_
  rintro e5 w5 ⟨rfl, hb5⟩
  have H5 := Lib.hid (H4.out.step hb5)
  clear hb5 H4
  have HDX5 := Lib.hid (HDX.out a5 n5 c5 w5 (H5.out.row (a5, n5, xs) (by simp)) HC5.out.1)
  go_upto_region 6 with (first | (go_at_call 19; refine HDX5.out.mono ?_; rintro e6 w6 ⟨rfl, hb6⟩; have H6 := Lib.hid (H5.out.step hb6); clear hb6) | (refine wpList_store_row (by rfl) 48 _ _ (by rfl) w6.heap.size HH (by rfl) (by rfl) 48 (hdC hd0) (by exact HNH.out w6) HIH.out (by rw [hdC_size hd0_ok, HZH.out]) HOH.out ?_))
  obtain ⟨j9, hj⟩ : ∃ j, j = w6.heap.size := ⟨_, rfl⟩
  refine gen_codeR (F := LF w [(g, 24, CA), (g2, 24, CB), (j9, 48, HH)] [(a5, n5, xs), (a7, n7, ys)]) (by rw [hj]; exact H6.out.newBox 48 (hdC hd0) HH) ?_
  rw [← hj]
  intro w7 h7
  have H7 := Lib.hid h7
  clear hj h7 H6 H5 HDX5 HDX
  have HDR7 := Lib.hid (HDR.out a5 n5 c5 w7 (H7.out.row (a5, n5, xs) (by simp)) HC5.out.1 (by have := HN5.out; omega) HC5.out.2)
  go_upto_region 7 with (first | (go_at_call 14; refine HDR7.out.mono ?_; rintro e8 w8 ⟨rfl, hb8⟩; have H8 := Lib.hid (H7.out.step hb8); clear hb8) | (refine wpList_store_row (by rfl) 31 _ _ (by rfl) w8.heap.size CA (by rfl) (by rfl) 31 (recC rc0) (by exact HNP.out w8) HIP.out (by rw [HZ0.out, HZP.out]) HOP.out ?_))
  obtain ⟨j11, hj⟩ : ∃ j, j = w8.heap.size := ⟨_, rfl⟩
  refine gen_codeR (F := LF w [(g, 24, CA), (g2, 24, CB), (j9, 48, HH), (j11, 31, CA)] [(a5, n5, xs), (a7, n7, ys)]) (by rw [hj]; exact H8.out.newBox 31 (recC rc0) CA) ?_
  rw [← hj]
  intro w9 h9
  have H9 := Lib.hid h9
  clear hj h9 H8 H7 HDR7 HDR
  have HSM := Lib.hid fun W (hW : LF w [(g, 24, CA), (g2, 24, CB), (j9, 48, HH), (j11, 31, CA)] [(a5, n5, xs), (a7, n7, ys)] W) => HSAME.out a5 a7 n5 c5 n7 c7 W (hW.row (a5, n5, xs) (by simp)) (hW.row (a7, n7, ys) (by simp)) (by have := HN5.out; omega)
  refine anyH_begin (S := LF w [(g, 24, CA), (g2, 24, CB), (j9, 48, HH), (j11, 31, CA)] [(a5, n5, xs), (a7, n7, ys)]) (by kernel_rfl) ?_
  obtain ⟨w10, hw10⟩ : ∃ w10, w10 = w9.drew := ⟨_, rfl⟩
  have HS := Lib.hid (show LF w [(g, 24, CA), (g2, 24, CB), (j9, 48, HH), (j11, 31, CA)] [(a5, n5, xs), (a7, n7, ys)] w10 from by rw [hw10]; exact H9.out.step (below_drewN' _ w9 1))
  rw [← hw10]
  clear hw10 H9
  refine anyH_pureG 0 (d := 46) (op := .move (.tmp 5)) (gd := none) (.slice a5 n5 c5) (by rfl) (fun o ho => wanted_plain ho _) (by kernel_rfl) (by kernel_rfl) (by kernel_rfl) (fun _ _ _ h => h) (fun o ho W hW => by unfold execOp; simp only [ho]; go_simp) HS.out ?_
  simp only [Act.put, List.setIfInBounds_toArray, List.set_cons_zero, List.set_cons_succ]
  refine anyH_pureG 1 (d := 47) (op := .move (.tmp 7)) (gd := none) (.slice a7 n7 c7) (by rfl) (fun o ho => wanted_plain ho _) (by kernel_rfl) (by kernel_rfl) (by kernel_rfl) (fun _ _ _ h => h) (fun o ho W hW => by unfold execOp; simp only [ho]; go_simp) HS.out ?_
  simp only [Act.put, List.setIfInBounds_toArray, List.set_cons_zero, List.set_cons_succ]
  refine anyH_loadG 3 (d := 49) (ty := 24) (x := (.tmp 2)) (gd := none) (p := .pointer (some ⟨g, 0, none⟩)) (.agg CA) (by rfl) (fun o ho => wanted_plain ho _) (by kernel_rfl) (by kernel_rfl) (by kernel_rfl) (fun _ _ _ h => h) (by rfl) (fun W hW => (hW.box (g, 24, CA) (by simp)).load Tryd.underlying24 HIA.out) HS.out ?_
  simp only [Act.put, List.setIfInBounds_toArray, List.set_cons_zero, List.set_cons_succ]
  refine anyH_loadG 4 (d := 50) (ty := 24) (x := (.tmp 3)) (gd := none) (p := .pointer (some ⟨g2, 0, none⟩)) (.agg CB) (by rfl) (fun o ho => wanted_plain ho _) (by kernel_rfl) (by kernel_rfl) (by kernel_rfl) (fun _ _ _ h => h) (by rfl) (fun W hW => (hW.box (g2, 24, CB) (by simp)).load Tryd.underlying24 HIB.out) HS.out ?_
  simp only [Act.put, List.setIfInBounds_toArray, List.set_cons_zero, List.set_cons_succ]
  refine anyH_pureG 5 (d := 51) (op := .binOp .eql 24 (.tmp 49) (.tmp 50) 24) (gd := none) (.bool bb) (by rfl) (fun o ho => wanted_plain ho _) (by kernel_rfl) (by kernel_rfl) (by kernel_rfl) (fun _ _ _ h => h) (fun o ho W hW => exec_eqS eqg_q (HEQ.out W) (by rfl) (by rfl) o ho) HS.out ?_
  simp only [Act.put, List.setIfInBounds_toArray, List.set_cons_zero, List.set_cons_succ]
  refine anyH_callG 2 (d := some 48) (f := 13) (xs := #[(.tmp 46), (.tmp 47)]) (ts := #[25, 25]) (gd := none) (vs := #[.slice a5 n5 c5, .slice a7 n7 c7]) (by kernel_rfl) (by rfl) (fun o ho => wanted_plain ho _) (by go_simp) (by go_simp) ((HSM.out _ HS.out).mono fun e w' h => RD.below h) ?_
  rintro e Wq1 ⟨rfl, hbq1⟩
  have HSq1 := Lib.hid (HS.out.step hbq1)
  clear hbq1
  refine ⟨_, rfl, HSq1.out, fun _ => ?_⟩
  simp only [Act.put, List.setIfInBounds_toArray, List.set_cons_zero, List.set_cons_succ]
  refine anyH_pureG 6 (d := 52) (op := .binOp .eql 4 (.tmp 48) (.tmp 51) 4) (gd := none) (.bool true) (by rfl) (fun o ho => wanted_plain ho _) (by kernel_rfl) (by kernel_rfl) (by kernel_rfl) (fun _ _ _ h => h) (fun o ho W hW => by unfold execOp; simp only [ho]; go_simp; try simp) HSq1.out ?_
  simp only [Act.put, List.setIfInBounds_toArray, List.set_cons_zero, List.set_cons_succ]
  refine anyH_pureG 7 (d := 53) (op := .move (.tmp 52)) (gd := none) (.bool true) (by rfl) (fun o ho => wanted_plain ho _) (by kernel_rfl) (by kernel_rfl) (by kernel_rfl) (fun _ _ _ h => h) (fun o ho W hW => by unfold execOp; simp only [ho]; go_simp) HSq1.out ?_
  simp only [Act.put, List.setIfInBounds_toArray, List.set_cons_zero, List.set_cons_succ]
  refine anyH_pureG 8 (d := 54) (op := .move (.tmp 10)) (gd := some (7, true)) (.int .i64 10) (by rfl) (fun o ho => by simp only [Region.wanted, ho]; rfl) (by kernel_rfl) (by kernel_rfl) (by kernel_rfl) (fun _ _ _ h => h) (fun o ho W hW => by unfold execOp; simp only [ho]; go_simp) HSq1.out ?_
  simp only [Act.put, List.setIfInBounds_toArray, List.set_cons_zero, List.set_cons_succ]
  refine anyH_pureG 9 (d := 55) (op := .binOp .eql 26 (.tmp 54) (.const (.int .i64 10)) 26) (gd := some (7, true)) (.bool true) (by rfl) (fun o ho => by simp only [Region.wanted, ho]; rfl) (by kernel_rfl) (by kernel_rfl) (by kernel_rfl) (fun _ _ _ h => h) (fun o ho W hW => by unfold execOp; simp only [ho]; go_simp; try simp) HSq1.out ?_
  simp only [Act.put, List.setIfInBounds_toArray, List.set_cons_zero, List.set_cons_succ]
  refine anyH_pureG 10 (d := 56) (op := .pick (.tmp 53) (.tmp 55) (.const (.bool false))) (gd := none) (.bool true) (by rfl) (fun o ho => wanted_plain ho _) (by kernel_rfl) (by kernel_rfl) (by kernel_rfl) (fun _ _ _ h => h) (fun o ho W hW => by unfold execOp; simp only [ho]; go_simp; try simp) HSq1.out ?_
  simp only [Act.put, List.setIfInBounds_toArray, List.set_cons_zero, List.set_cons_succ]
  refine anyH_pureG 11 (d := 57) (op := .move (.tmp 56)) (gd := none) (.bool true) (by rfl) (fun o ho => wanted_plain ho _) (by kernel_rfl) (by kernel_rfl) (by kernel_rfl) (fun _ _ _ h => h) (fun o ho W hW => by unfold execOp; simp only [ho]; go_simp) HSq1.out ?_
  simp only [Act.put, List.setIfInBounds_toArray, List.set_cons_zero, List.set_cons_succ]
  refine anyH_pureG 12 (d := 58) (op := .move (.tmp 12)) (gd := some (11, true)) (.int .i64 0) (by rfl) (fun o ho => by simp only [Region.wanted, ho]; rfl) (by kernel_rfl) (by kernel_rfl) (by kernel_rfl) (fun _ _ _ h => h) (fun o ho W hW => by unfold execOp; simp only [ho]; go_simp) HSq1.out ?_
  simp only [Act.put, List.setIfInBounds_toArray, List.set_cons_zero, List.set_cons_succ]
  refine anyH_pureG 13 (d := 59) (op := .binOp .eql 26 (.tmp 58) (.const (.int .i64 0)) 26) (gd := some (11, true)) (.bool true) (by rfl) (fun o ho => by simp only [Region.wanted, ho]; rfl) (by kernel_rfl) (by kernel_rfl) (by kernel_rfl) (fun _ _ _ h => h) (fun o ho W hW => by unfold execOp; simp only [ho]; go_simp; try simp) HSq1.out ?_
  simp only [Act.put, List.setIfInBounds_toArray, List.set_cons_zero, List.set_cons_succ]
  refine anyH_pureG 14 (d := 60) (op := .pick (.tmp 57) (.tmp 59) (.const (.bool false))) (gd := none) (.bool true) (by rfl) (fun o ho => wanted_plain ho _) (by kernel_rfl) (by kernel_rfl) (by kernel_rfl) (fun _ _ _ h => h) (fun o ho W hW => by unfold execOp; simp only [ho]; go_simp; try simp) HSq1.out ?_
  simp only [Act.put, List.setIfInBounds_toArray, List.set_cons_zero, List.set_cons_succ]
  refine anyH_pureG 15 (d := 61) (op := .move (.tmp 60)) (gd := none) (.bool true) (by rfl) (fun o ho => wanted_plain ho _) (by kernel_rfl) (by kernel_rfl) (by kernel_rfl) (fun _ _ _ h => h) (fun o ho W hW => by unfold execOp; simp only [ho]; go_simp) HSq1.out ?_
  simp only [Act.put, List.setIfInBounds_toArray, List.set_cons_zero, List.set_cons_succ]
  refine anyH_loadG 16 (d := 62) (ty := 31) (x := (.tmp 11)) (gd := some (15, true)) (p := .pointer (some ⟨j11, 0, none⟩)) (.agg CA) (by rfl) (fun o ho => by simp only [Region.wanted, ho]; rfl) (by kernel_rfl) (by kernel_rfl) (by kernel_rfl) (fun _ _ _ h => h) (by rfl) (fun W hW => (hW.box (j11, 31, CA) (by simp)).load Tryd.underlying31 HIP.out) HSq1.out ?_
  simp only [Act.put, List.setIfInBounds_toArray, List.set_cons_zero, List.set_cons_succ]
  refine anyH_loadG 18 (d := 64) (ty := 24) (x := (.tmp 2)) (gd := some (15, true)) (p := .pointer (some ⟨g, 0, none⟩)) (.agg CA) (by rfl) (fun o ho => by simp only [Region.wanted, ho]; rfl) (by kernel_rfl) (by kernel_rfl) (by kernel_rfl) (fun _ _ _ h => h) (by rfl) (fun W hW => (hW.box (g, 24, CA) (by simp)).load Tryd.underlying24 HIA.out) HSq1.out ?_
  simp only [Act.put, List.setIfInBounds_toArray, List.set_cons_zero, List.set_cons_succ]
  refine anyH_callG 17 (d := some 63) (f := 16) (xs := #[(.tmp 62)]) (ts := #[31]) (gd := some (15, true)) (vs := #[.agg CA]) (by kernel_rfl) (by rfl) (fun o ho => by simp only [Region.wanted, ho]; rfl) (by go_simp) (by go_simp) (HFR.out _) ?_
  rintro e Wq2 ⟨rfl, hbq2⟩
  have HSq2 := Lib.hid (HSq1.out.step hbq2)
  clear hbq2
  refine ⟨_, rfl, HSq2.out, fun _ => ?_⟩
  simp only [Act.put, List.setIfInBounds_toArray, List.set_cons_zero, List.set_cons_succ]
  refine anyH_pureG 19 (d := 65) (op := .binOp .eql 24 (.tmp 63) (.tmp 64) 24) (gd := some (15, true)) (.bool true) (by rfl) (fun o ho => by simp only [Region.wanted, ho]; rfl) (by kernel_rfl) (by kernel_rfl) (by kernel_rfl) (fun _ _ _ h => h) (fun o ho W hW => exec_eqS eqg_q (HEA2.out W) (by rfl) (by rfl) o ho) HSq2.out ?_
  simp only [Act.put, List.setIfInBounds_toArray, List.set_cons_zero, List.set_cons_succ]
  refine anyH_pureG 20 (d := 66) (op := .pick (.tmp 61) (.tmp 65) (.const (.bool false))) (gd := none) (.bool true) (by rfl) (fun o ho => wanted_plain ho _) (by kernel_rfl) (by kernel_rfl) (by kernel_rfl) (fun _ _ _ h => h) (fun o ho W hW => by unfold execOp; simp only [ho]; go_simp; try simp) HSq2.out ?_
  simp only [Act.put, List.setIfInBounds_toArray, List.set_cons_zero, List.set_cons_succ]
  refine anyH_pureG 21 (d := 4) (op := .assign (.tmp 66)) (gd := none) (.bool true) (by rfl) (fun o ho => wanted_plain ho _) (by kernel_rfl) (by kernel_rfl) (by kernel_rfl) (fun _ _ _ h => h) (fun o ho W hW => by unfold execOp; simp only [ho]; go_simp) HSq2.out ?_
  simp only [Act.put, List.setIfInBounds_toArray, List.set_cons_zero, List.set_cons_succ]
  refine wpAnyH_done (by kernel_rfl) ?_ _
  go_wp2_with fail
  go_ret
  exact ⟨rfl, HSq2.out.below⟩
theorem rapart_c (x y : Rcv) (w : World) (hx : dOk x.dig) (sx : SzR x) (hy : dOk y.dig) (sy : SzR y) : Calls Tryd.prog 6 #[.agg (recC x), .agg (recC y)] w fun e w' => e = .returned (.bool true) ∧ Below w.heap.size w w' := by
  cases h1 : rightB x with
  | false => exact apart_n1 x y w hx sx hy sy h1
  | true =>
    cases h2 : rightB y with
    | false => exact apart_n2 x y w hx sx hy sy h1 h2
    | true => exact apart_ok x y w hx sx hy sy h1 h2
end Go.Proofs.YtjjkfbebaoikbaaDoor.Rc
