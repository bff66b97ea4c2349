/-
  The walk over MerklePaths.
-/
import Derived.Test.YthnfbdmkdpokcaaDoorMrt
import Derived.Test.YthnfbdmkdpokcaaDoorChk
namespace Go.Proofs.YthnfbdmkdpokcaaDoor
open Go.RowKit
set_option linter.unusedVariables false
def MP (w : World) (a1 : Option Addr) (n1 : Nat) (es : Ds) (va : Option Addr) (vn : Nat) (p : Ds) (W : World) : Prop := DR W a1 n1 es ∧ DR W va vn p ∧ Below w.heap.size w W
theorem MP.step {w : World} {a1 : Option Addr} {n1 : Nat} {es : Ds} {va : Option Addr} {vn : Nat} {p : Ds} {W W' : World} (h : MP w a1 n1 es va vn p W) (hb : Below W.heap.size W W') : MP w a1 n1 es va vn p W' := ⟨h.1.below hb, h.2.1.below hb, h.2.2.trans (hb.mono h.2.2.size)⟩
theorem top_pathS (es : Ds) (k : Nat) (hk : k < es.length) : topS es.length k (es.getD k []) (pathS es k) = some (rootS es) := by
  have := Mk.top_path (Sha.sum []) nodeS es.length es k rfl hk
  rw [show es.getD k (Sha.sum []) = es.getD k [] by simp [List.getD_eq_getElem?_getD, List.getElem?_eq_getElem hk]] at this
  exact this
set_option maxRecDepth 100000 in
set_option maxHeartbeats 2000000 in
theorem paths_no (i : Int) (a : Option Addr) (n cap : Nat) (ds : Ds) (w : World) (r : DigsIn w a n cap ds) (hi : i < 0 ∨ (min n 70 : Nat) ≤ i) (hm : i ≤ 9223372036854775807) (hm2 : -9223372036854775808 ≤ i) (ht : Tab w) :
    Calls Tryd.prog 4 #[.slice a n cap, .int .i64 i] w fun e w' => e = .returned (.bool true) ∧ Below w.heap.size w w' := by
  obtain ⟨hr, hnil, hlc, hcm⟩ := r
  have HT := Lib.hid ht
  have hpos := ht.pos
  obtain ⟨m, hmm⟩ : ∃ m : Nat, m = min n 70 := ⟨_, rfl⟩
  rw [← hmm] at hi
  have HCUT := Lib.hid (cut_c n m 70 ds a cap w hr hlc hnil (by omega) (by omega))
  obtain ⟨es, hes⟩ : ∃ es, es = ds.take m := ⟨_, rfl⟩
  rw [← hes] at HCUT
  have HES := Lib.hid (show ∀ d ∈ es, D32 d from by rw [hes]; exact d32_take hr.2.1 m)
  have hel : es.length = m := by rw [hes, List.length_take, hr.1]; omega
  have hm70 : m ≤ 70 := by omega
  clear hr hnil ht hmm hes
  go_enter Tryd.func4, Tryd.ntmps4
  go_wp2_with fail
  refine HCUT.out.mono ?_
  rintro e w1 ⟨v, rfl, hov, hb1⟩
  obtain ⟨a1, n1, c1, rfl, hn1, hc1, hc1m, hnil1, hr1⟩ := hov.form HES.out
  obtain rfl : n1 = m := by rw [← hn1, hel]
  have HBc := Lib.hid hb1
  have HTO := Lib.hid (to_c n1 es a1 c1 w1 hr1 (by omega))
  have HEL := Lib.hid hel
  clear hov hb1 hr1 HCUT hn1 hel
  go_wp2_with fail
  refine HTO.out.mono ?_
  rintro e w2 ⟨v2, rfl, hov, hb2⟩
  obtain ⟨a2, n2, c2, rfl, hn2, hc2, hc2m, hnil2, hr2⟩ := hov.form HES.out
  obtain rfl : n2 = n1 := by rw [← hn2, HEL.out]
  have HBc := Lib.hid (HBc.out.trans (hb2.mono HBc.out.size))
  have HPA := Lib.hid (Path_no n2 i a2 c2 w2 hi)
  clear hov hb2 hr2 HTO hnil2 hn2
  by_cases h0 : i < 0
  · clear hi
    go_wp2_with (first | (go_at_call 20; refine HPA.out.mono ?_; rintro e wp ⟨rfl, rfl⟩) | (go_at_call 14; refine (awake3_c _ (HT.out.below HBc.out hpos)).mono ?_; rintro e wb ⟨rfl, hbb⟩; have HBc := Lib.hid (HBc.out.trans (hbb.mono HBc.out.size)); clear hbb))
    go_ret
    exact ⟨rfl, HBc.out⟩
  · have h1 : ¬ i < (n2 : Int) := by omega
    clear hi
    go_wp2_with (first | (go_at_call 20; refine HPA.out.mono ?_; rintro e wp ⟨rfl, rfl⟩) | (go_at_call 14; refine (awake3_c _ (HT.out.below HBc.out hpos)).mono ?_; rintro e wb ⟨rfl, hbb⟩; have HBc := Lib.hid (HBc.out.trans (hbb.mono HBc.out.size)); clear hbb))
    go_ret
    exact ⟨rfl, HBc.out⟩
set_option maxRecDepth 100000 in
set_option maxHeartbeats 4000000 in
theorem paths_yes (k : Nat) (a : Option Addr) (n cap : Nat) (ds : Ds) (w : World) (r : DigsIn w a n cap ds) (hk : k < min n 70) (ht : Tab w) :
    Calls Tryd.prog 4 #[.slice a n cap, .int .i64 (k : Int)] w fun e w' => e = .returned (.bool true) ∧ Below w.heap.size w w' := by
  obtain ⟨hr, hnil, hlc, hcm⟩ := r
  have HT := Lib.hid ht
  have hpos := ht.pos
  obtain ⟨m, hmm⟩ : ∃ m : Nat, m = min n 70 := ⟨_, rfl⟩
  rw [← hmm] at hk
  have HCUT := Lib.hid (cut_c n m 70 ds a cap w hr hlc hnil (by omega) (by omega))
  obtain ⟨es, hes⟩ : ∃ es, es = ds.take m := ⟨_, rfl⟩
  rw [← hes] at HCUT
  have HES := Lib.hid (show ∀ d ∈ es, D32 d from by rw [hes]; exact d32_take hr.2.1 m)
  have hel : es.length = m := by rw [hes, List.length_take, hr.1]; omega
  have hm70 : m ≤ 70 := by omega
  clear hr hnil ht hmm hes
  go_enter Tryd.func4, Tryd.ntmps4
  go_wp2_with fail
  refine HCUT.out.mono ?_
  rintro e w1 ⟨v, rfl, hov, hb1⟩
  obtain ⟨a1, n1, c1, rfl, hn1, hc1, hc1m, hnil1, hr1⟩ := hov.form HES.out
  obtain rfl : n1 = m := by rw [← hn1, hel]
  obtain ⟨lb, lo, rfl, _, _⟩ := hr1.at k hk
  have HR := Lib.hid hr1
  have HBc := Lib.hid hb1
  have HTO := Lib.hid (to_c n1 es (some ⟨lb, lo, none⟩) c1 w1 hr1 (by omega))
  have HEL := Lib.hid hel
  clear hov hb1 hr1 HCUT hn1 hel
  go_wp2_with fail
  refine HTO.out.mono ?_
  rintro e w2 ⟨v2, rfl, hov, hb2⟩
  obtain ⟨a2, n2, c2, rfl, hn2, hc2, hc2m, hnil2, hr2⟩ := hov.form HES.out
  obtain rfl : n2 = n1 := by rw [← hn2, HEL.out]
  have HBc := Lib.hid (HBc.out.trans (hb2.mono HBc.out.size))
  have HR := Lib.hid (HR.out.below hb2)
  have HPA := Lib.hid (Path_ok n2 k es a2 c2 w2 (by omega) hr2 hk hc2 hc2m (HT.out.below HBc.out hpos))
  clear hov hb2 hr2 HTO hnil2 hn2
  go_wp2_with fail
  refine HPA.out.mono ?_
  rintro e w3 ⟨v3, rfl, hov, hb3⟩
  obtain ⟨p, hp⟩ : ∃ p, p = pathS es k := ⟨_, rfl⟩
  rw [← hp] at hov
  have HPD := Lib.hid (show ∀ d ∈ p, D32 d from by rw [hp]; exact d32_path _ es k rfl HES.out)
  have hpl : p.length + 1 ≤ n2 := by rw [hp]; exact path_len n2 es k HEL.out hk
  have HPE := Lib.hid hp
  obtain ⟨va, vn, vc, rfl, hvn, hvc, hvm, _, hvr⟩ := hov.form HPD.out
  have HBc := Lib.hid (HBc.out.trans (hb3.mono HBc.out.size))
  have HR := Lib.hid (HR.out.below hb3)
  have HV := Lib.hid hvr
  have q0 : ¬ (k : Int) < 0 := by omega
  have q1 : (k : Int) < (n2 : Int) := by omega
  clear hov hb3 hvr hp HPA
  go_upto_region 5 with (first | (go_at_call 14; refine (awake3_c _ (HT.out.below HBc.out hpos)).mono ?_; rintro e wb ⟨rfl, hbb⟩; have HR := Lib.hid (HR.out.below hbb); have HV := Lib.hid (HV.out.below hbb); have HBc := Lib.hid (HBc.out.trans (hbb.mono HBc.out.size)); clear hbb))
  (try dsimp only [Act.put, List.setIfInBounds_toArray, List.set_cons_zero, List.set_cons_succ])
  have HS := Lib.hid (show MP w (some ⟨lb, lo, none⟩) n2 es va vn p wb.drew from ⟨HR.out, HV.out, HBc.out.drew⟩)
  have hvn70 : vn ≤ 70 := by omega
  have HFROM := Lib.hid (fun W (hW : DR W va vn p) => from_c vn p va vc W hW (by omega))
  have HT' := Lib.hid (show ∀ W, MP w (some ⟨lb, lo, none⟩) n2 es va vn p W → Tab W from fun W hW => HT.out.below hW.2.2 hpos)
  have HRP := Lib.hid (show ∀ W, MP w (some ⟨lb, lo, none⟩) n2 es va vn p W → Calls Tryd.prog 23 #[.slice (some ⟨lb, lo, none⟩) n2 c1, .int .i64 (k : Int)] W (RetDs 26 p W) from fun W hW => by rw [HPE.out]; exact rpath_c n2 es k _ c1 W (by omega) hW.1 hk hc1 hc1m (HT'.out W hW))
  have HSAME := Lib.hid (show ∀ W fa ga fn gn fc gc, DR W fa fn p → DR W ga gn p → Calls Tryd.prog 21 #[.slice fa fn fc, .slice ga gn gc] W (fun e w' => e = .returned (.bool true) ∧ Below W.heap.size W w') from fun W fa ga fn gn fc gc h1 h2 => by
    have := dsame_c fn gn (by rw [← h1.1]; omega) fa ga fc gc p p W h1 h2
    rw [decide_eq_true rfl] at this
    exact this)
  obtain ⟨R, hR⟩ : ∃ R, R = rootS es := ⟨_, rfl⟩
  have HRD := Lib.hid (show D32 R from by rw [hR]; exact d32_root _ HES.out)
  have HRR := Lib.hid (show ∀ W, DR W (some ⟨lb, lo, none⟩) n2 es → Calls Tryd.prog 19 #[.slice (some ⟨lb, lo, none⟩) n2 c1] W (DigRet R W) from fun W h => by rw [hR]; exact rroot_c n2 es _ c1 W h hc1 hc1m)
  obtain ⟨D, hD⟩ : ∃ D, D = es.getD k [] := ⟨_, rfl⟩
  have HDD := Lib.hid (show D32 D from by rw [hD]; exact D32.get HES.out k (by rw [HEL.out]; exact hk))
  have HCHK := Lib.hid (show ∀ W, MP w (some ⟨lb, lo, none⟩) n2 es va vn p W → Calls Tryd.prog 24 #[.agg (cellsOf R).toArray, .int .i64 (n2 : Int), .int .i64 (k : Int), .agg (cellsOf D).toArray, .slice va vn vc] W (fun e w' => e = .returned (.bool true) ∧ Below W.heap.size W w') from fun W hW => by
    have h := check_yes n2 k R D va vn vc p W (by omega) hk HRD.out HDD.out hW.2.1 hvc hvm (HT'.out W hW)
    have e := top_pathS es k (by rw [HEL.out]; exact hk)
    rw [HEL.out, ← HPE.out, ← hD, ← hR] at e
    rw [e, decide_eq_true rfl] at h
    exact h)
  have HIX := Lib.hid (fun W => run_dindex dtR W lb lo n2 c1 k hk)
  have HLD := Lib.hid (fun W (hW : MP w (some ⟨lb, lo, none⟩) n2 es va vn p W) => run_dload dtR W lb (lo + k * 32) D HDD.out (by
    obtain ⟨b', o', h1, _, h3⟩ := hW.1.at k hk
    simp only [Option.some.injEq, Addr.mk.injEq, and_true] at h1
    obtain ⟨rfl, rfl⟩ := h1
    rw [hD]
    exact h3))
  clear hR hD HBc
  refine anyH_begin (S := MP w (some ⟨lb, lo, none⟩) n2 es va vn p) (by kernel_rfl) ?_
  refine anyH_pureG 0 (d := 38) (op := .move (.tmp 6)) (gd := none) (.int .i64 0) (by rfl) (fun o ho => wanted_plain ho _) (by kernel_rfl) (by kernel_rfl) (by kernel_rfl) (fun _ _ _ h => h) (fun o ho W hW => by unfold execOp; simp only [ho]; go_simp) HS.out ?_
  simp only [Act.put, List.setIfInBounds_toArray, List.set_cons_zero, List.set_cons_succ]
  refine anyH_pureG 1 (d := 39) (op := .binOp .eql 35 (.tmp 38) (.const (.int .i64 0)) 35) (gd := none) (.bool true) (by rfl) (fun o ho => wanted_plain ho _) (by kernel_rfl) (by kernel_rfl) (by kernel_rfl) (fun _ _ _ h => h) (fun o ho W hW => by unfold execOp; simp only [ho]; go_simp) HS.out ?_
  simp only [Act.put, List.setIfInBounds_toArray, List.set_cons_zero, List.set_cons_succ]
  refine anyH_pureG 2 (d := 40) (op := .move (.tmp 39)) (gd := none) (.bool true) (by rfl) (fun o ho => wanted_plain ho _) (by kernel_rfl) (by kernel_rfl) (by kernel_rfl) (fun _ _ _ h => h) (fun o ho W hW => by unfold execOp; simp only [ho]; go_simp) HS.out ?_
  simp only [Act.put, List.setIfInBounds_toArray, List.set_cons_zero, List.set_cons_succ]
  refine anyH_pureG 3 (d := 41) (op := .move (.tmp 5)) (gd := some (2, true)) (.slice va vn vc) (by rfl) (fun o ho => by simp only [Region.wanted, ho]; rfl) (by kernel_rfl) (by kernel_rfl) (by kernel_rfl) (fun _ _ _ h => h) (fun o ho W hW => by unfold execOp; simp only [ho]; go_simp) HS.out ?_
  simp only [Act.put, List.setIfInBounds_toArray, List.set_cons_zero, List.set_cons_succ]
  refine anyH_pureG 5 (d := 43) (op := .move (.tmp 0)) (gd := some (2, true)) (.slice (some ⟨lb, lo, none⟩) n2 c1) (by rfl) (fun o ho => by simp only [Region.wanted, ho]; rfl) (by kernel_rfl) (by kernel_rfl) (by kernel_rfl) (fun _ _ _ h => h) (fun o ho W hW => by unfold execOp; simp only [ho]; go_simp) HS.out ?_
  simp only [Act.put, List.setIfInBounds_toArray, List.set_cons_zero, List.set_cons_succ]
  refine anyH_pureG 6 (d := 44) (op := .move (.tmp 1)) (gd := some (2, true)) (.int .i64 (k : Int)) (by rfl) (fun o ho => by simp only [Region.wanted, ho]; rfl) (by kernel_rfl) (by kernel_rfl) (by kernel_rfl) (fun _ _ _ h => h) (fun o ho W hW => by unfold execOp; simp only [ho]; go_simp) HS.out ?_
  simp only [Act.put, List.setIfInBounds_toArray, List.set_cons_zero, List.set_cons_succ]
  refine anyH_callG 4 (d := some 42) (f := 22) (xs := #[(.tmp 41)]) (ts := #[31]) (gd := some (2, true)) (vs := #[.slice va vn vc]) (by kernel_rfl) (by rfl) (fun o ho => by simp only [Region.wanted, ho]; rfl) (by go_simp) (by go_simp) (HFROM.out _ HS.out.2.1) ?_
  rintro e91 w91 ⟨v91, rfl, hov91, hb91⟩
  obtain ⟨fa, fn, fc, rfl, hfn, hfc, hfm, _, hr91⟩ := hov91.form HPD.out
  refine ⟨_, rfl, HS.out.step hb91, fun hS91 => ?_⟩
  have HS := Lib.hid hS91
  have HF := Lib.hid hr91
  clear hov91 hr91 hS91 hb91
  simp only [Act.put, List.setIfInBounds_toArray, List.set_cons_zero, List.set_cons_succ]
  refine anyH_callG 7 (d := some 45) (f := 23) (xs := #[(.tmp 43), (.tmp 44)]) (ts := #[22, 3]) (gd := some (2, true)) (vs := #[.slice (some ⟨lb, lo, none⟩) n2 c1, .int .i64 (k : Int)]) (by kernel_rfl) (by rfl) (fun o ho => by simp only [Region.wanted, ho]; rfl) (by go_simp) (by go_simp) (HRP.out _ HS.out) ?_
  rintro e92 w92 ⟨v92, rfl, hov92, hb92⟩
  obtain ⟨ga, gn, gc, rfl, hgn, hgc, hgm, _, hr92⟩ := hov92.form HPD.out
  refine ⟨_, rfl, HS.out.step hb92, fun hS92 => ?_⟩
  have HS := Lib.hid hS92
  have HG := Lib.hid hr92
  have HF := Lib.hid (HF.out.below hb92)
  clear hov92 hr92 hS92 hb92
  simp only [Act.put, List.setIfInBounds_toArray, List.set_cons_zero, List.set_cons_succ]
  refine anyH_callG 8 (d := some 46) (f := 21) (xs := #[(.tmp 42), (.tmp 45)]) (ts := #[22, 22]) (gd := some (2, true)) (vs := #[.slice fa fn fc, .slice ga gn gc]) (by kernel_rfl) (by rfl) (fun o ho => by simp only [Region.wanted, ho]; rfl) (by go_simp) (by go_simp) (HSAME.out _ fa ga fn gn fc gc HF.out HG.out) ?_
  rintro e93 w93 ⟨rfl, hb93⟩
  refine ⟨_, rfl, HS.out.step hb93, fun hS93 => ?_⟩
  have HS := Lib.hid hS93
  clear hS93 hb93
  simp only [Act.put, List.setIfInBounds_toArray, List.set_cons_zero, List.set_cons_succ]
  refine anyH_pureG 9 (d := 47) (op := .pick (.tmp 40) (.tmp 46) (.const (.bool false))) (gd := none) (.bool true) (by rfl) (fun o ho => wanted_plain ho _) (by kernel_rfl) (by kernel_rfl) (by kernel_rfl) (fun _ _ _ h => h) (fun o ho W hW => by unfold execOp; simp only [ho]; go_simp) HS.out ?_
  simp only [Act.put, List.setIfInBounds_toArray, List.set_cons_zero, List.set_cons_succ]
  refine anyH_pureG 10 (d := 48) (op := .move (.tmp 47)) (gd := none) (.bool true) (by rfl) (fun o ho => wanted_plain ho _) (by kernel_rfl) (by kernel_rfl) (by kernel_rfl) (fun _ _ _ h => h) (fun o ho W hW => by unfold execOp; simp only [ho]; go_simp) HS.out ?_
  simp only [Act.put, List.setIfInBounds_toArray, List.set_cons_zero, List.set_cons_succ]
  refine anyH_pureG 11 (d := 49) (op := .move (.tmp 0)) (gd := some (10, true)) (.slice (some ⟨lb, lo, none⟩) n2 c1) (by rfl) (fun o ho => by simp only [Region.wanted, ho]; rfl) (by kernel_rfl) (by kernel_rfl) (by kernel_rfl) (fun _ _ _ h => h) (fun o ho W hW => by unfold execOp; simp only [ho]; go_simp) HS.out ?_
  simp only [Act.put, List.setIfInBounds_toArray, List.set_cons_zero, List.set_cons_succ]
  refine anyH_pureG 13 (d := 51) (op := .move (.tmp 0)) (gd := some (10, true)) (.slice (some ⟨lb, lo, none⟩) n2 c1) (by rfl) (fun o ho => by simp only [Region.wanted, ho]; rfl) (by kernel_rfl) (by kernel_rfl) (by kernel_rfl) (fun _ _ _ h => h) (fun o ho W hW => by unfold execOp; simp only [ho]; go_simp) HS.out ?_
  simp only [Act.put, List.setIfInBounds_toArray, List.set_cons_zero, List.set_cons_succ]
  refine anyH_pureG 14 (d := 52) (op := .call { callee := .builtin .len, args := #[(.tmp 51)], argTypes := #[22] }) (gd := some (10, true)) (.int .i64 (n2 : Int)) (by rfl) (fun o ho => by simp only [Region.wanted, ho]; rfl) (by kernel_rfl) (by kernel_rfl) (by kernel_rfl) (fun _ _ _ h => h) (fun o ho W hW => by unfold execOp; simp only [ho]; go_simp) HS.out ?_
  simp only [Act.put, List.setIfInBounds_toArray, List.set_cons_zero, List.set_cons_succ]
  refine anyH_pureG 15 (d := 53) (op := .move (.tmp 1)) (gd := some (10, true)) (.int .i64 (k : Int)) (by rfl) (fun o ho => by simp only [Region.wanted, ho]; rfl) (by kernel_rfl) (by kernel_rfl) (by kernel_rfl) (fun _ _ _ h => h) (fun o ho W hW => by unfold execOp; simp only [ho]; go_simp) HS.out ?_
  simp only [Act.put, List.setIfInBounds_toArray, List.set_cons_zero, List.set_cons_succ]
  refine anyH_pureG 16 (d := 54) (op := .move (.tmp 0)) (gd := some (10, true)) (.slice (some ⟨lb, lo, none⟩) n2 c1) (by rfl) (fun o ho => by simp only [Region.wanted, ho]; rfl) (by kernel_rfl) (by kernel_rfl) (by kernel_rfl) (fun _ _ _ h => h) (fun o ho W hW => by unfold execOp; simp only [ho]; go_simp) HS.out ?_
  simp only [Act.put, List.setIfInBounds_toArray, List.set_cons_zero, List.set_cons_succ]
  refine anyH_pureG 17 (d := 55) (op := .move (.tmp 1)) (gd := some (10, true)) (.int .i64 (k : Int)) (by rfl) (fun o ho => by simp only [Region.wanted, ho]; rfl) (by kernel_rfl) (by kernel_rfl) (by kernel_rfl) (fun _ _ _ h => h) (fun o ho W hW => by unfold execOp; simp only [ho]; go_simp) HS.out ?_
  simp only [Act.put, List.setIfInBounds_toArray, List.set_cons_zero, List.set_cons_succ]
  refine anyH_pureG 18 (d := 56) (op := .indexAddr 22 (.tmp 54) (.tmp 55)) (gd := some (10, true)) (.pointer (some ⟨lb, lo + k * 32, none⟩)) (by rfl) (fun o ho => by simp only [Region.wanted, ho]; rfl) (by kernel_rfl) (by kernel_rfl) (by kernel_rfl) (fun _ _ _ h => h) (fun o ho W hW => by unfold execOp; simp only [ho, Sem.run_bind, Sem.run_pure]; exact Eq.trans (congrArg (fun r => Result.andThen r (fun v W1 => .ok (Next.value v) W1)) (HIX.out W)) rfl) HS.out ?_
  simp only [Act.put, List.setIfInBounds_toArray, List.set_cons_zero, List.set_cons_succ]
  refine anyH_loadG 19 (d := 57) (ty := 26) (x := (.tmp 56)) (gd := some (10, true)) (p := .pointer (some ⟨lb, lo + k * 32, none⟩)) (.agg (cellsOf D).toArray) (by rfl) (fun o ho => by simp only [Region.wanted, ho]; rfl) (by kernel_rfl) (by kernel_rfl) (by kernel_rfl) (fun _ _ _ h => h) (by rfl) HLD.out HS.out ?_
  simp only [Act.put, List.setIfInBounds_toArray, List.set_cons_zero, List.set_cons_succ]
  refine anyH_pureG 20 (d := 58) (op := .move (.tmp 5)) (gd := some (10, true)) (.slice va vn vc) (by rfl) (fun o ho => by simp only [Region.wanted, ho]; rfl) (by kernel_rfl) (by kernel_rfl) (by kernel_rfl) (fun _ _ _ h => h) (fun o ho W hW => by unfold execOp; simp only [ho]; go_simp) HS.out ?_
  simp only [Act.put, List.setIfInBounds_toArray, List.set_cons_zero, List.set_cons_succ]
  refine anyH_callG 12 (d := some 50) (f := 19) (xs := #[(.tmp 49)]) (ts := #[22]) (gd := some (10, true)) (vs := #[.slice (some ⟨lb, lo, none⟩) n2 c1]) (by kernel_rfl) (by rfl) (fun o ho => by simp only [Region.wanted, ho]; rfl) (by go_simp) (by go_simp) (HRR.out _ HS.out.1) ?_
  rintro e94 w94 ⟨rfl, hb94⟩
  refine ⟨_, rfl, HS.out.step hb94, fun hS94 => ?_⟩
  have HS := Lib.hid hS94
  clear hS94 hb94
  simp only [Act.put, List.setIfInBounds_toArray, List.set_cons_zero, List.set_cons_succ]
  refine anyH_callG 21 (d := some 59) (f := 24) (xs := #[(.tmp 50), (.tmp 52), (.tmp 53), (.tmp 57), (.tmp 58)]) (ts := #[27, 3, 3, 27, 31]) (gd := some (10, true)) (vs := #[.agg (cellsOf R).toArray, .int .i64 (n2 : Int), .int .i64 (k : Int), .agg (cellsOf D).toArray, .slice va vn vc]) (by kernel_rfl) (by rfl) (fun o ho => by simp only [Region.wanted, ho]; rfl) (by go_simp) (by go_simp) (HCHK.out _ HS.out) ?_
  rintro e95 w95 ⟨rfl, hb95⟩
  refine ⟨_, rfl, HS.out.step hb95, fun hS95 => ?_⟩
  have HS := Lib.hid hS95
  clear hS95 hb95
  simp only [Act.put, List.setIfInBounds_toArray, List.set_cons_zero, List.set_cons_succ]
  refine anyH_pureG 22 (d := 60) (op := .pick (.tmp 48) (.tmp 59) (.const (.bool false))) (gd := none) (.bool true) (by rfl) (fun o ho => wanted_plain ho _) (by kernel_rfl) (by kernel_rfl) (by kernel_rfl) (fun _ _ _ h => h) (fun o ho W hW => by unfold execOp; simp only [ho]; go_simp) HS.out ?_
  simp only [Act.put, List.setIfInBounds_toArray, List.set_cons_zero, List.set_cons_succ]
  refine anyH_pureG 23 (d := 4) (op := .assign (.tmp 60)) (gd := none) (.bool true) (by rfl) (fun o ho => wanted_plain ho _) (by kernel_rfl) (by kernel_rfl) (by kernel_rfl) (fun _ _ _ h => h) (fun o ho W hW => by unfold execOp; simp only [ho]; go_simp) HS.out ?_
  simp only [Act.put, List.setIfInBounds_toArray, List.set_cons_zero, List.set_cons_succ]
  refine wpAnyH_done (by kernel_rfl) ?_ _
  go_wp2
  go_ret
  exact ⟨rfl, HS.out.2.2⟩
theorem mpaths_c (a : Option Addr) (n cap : Nat) (ds : Ds) (i : Int) (w : World) (r : DigsIn w a n cap ds) (hi : (Lit.int .i64 i).wf = true) (ht : Tab w) :
    Calls Tryd.prog 4 #[.slice a n cap, .int .i64 i] w fun e w' => e = .returned (.bool true) ∧ Below w.heap.size w w' := by
  have hb : -9223372036854775808 ≤ i ∧ i ≤ 9223372036854775807 := by simpa [Lit.wf, IntKind.min, IntKind.max, IntKind.signed, IntKind.bits] using hi
  by_cases h : i < 0 ∨ (min n 70 : Nat) ≤ i
  · exact paths_no i a n cap ds w r h hb.2 hb.1 ht
  · obtain ⟨k, rfl⟩ : ∃ k : Nat, i = (k : Int) := ⟨i.toNat, by omega⟩
    exact paths_yes k a n cap ds w r (by omega) ht
end Go.Proofs.YthnfbdmkdpokcaaDoor
