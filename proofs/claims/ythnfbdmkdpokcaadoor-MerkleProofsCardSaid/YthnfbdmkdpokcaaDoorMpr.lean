/-
  The walk over MerkleProofs.
-/
import Derived.Test.YthnfbdmkdpokcaaDoorMpt
import Derived.Test.YthnfbdmkdpokcaaDoorExz
namespace Go.Proofs.YthnfbdmkdpokcaaDoor
open Go.RowKit
set_option linter.unusedVariables false
set_option maxRecDepth 100000 in
set_option maxHeartbeats 2000000 in
theorem proofs_no (i : Int) (a : Option Addr) (n cap : Nat) (ds : Ds) (w : World) (r : DigsIn w a n cap ds) (hi : i < 0 ∨ (min n 70 : Nat) < i) (hm : i ≤ 9223372036854775807) (hm2 : -9223372036854775808 ≤ i) (ht : Tab w) :
    Calls Tryd.prog 6 #[.slice a n cap, .int .i64 i] w fun e w' => e = .returned (.bool true) ∧ Below w.heap.size w w' := by
  obtain ⟨hr, hnil, hlc, hcm⟩ := r
  have HT := Lib.hid ht
  have hpos := ht.pos
  obtain ⟨m, hmm⟩ : ∃ m : Nat, m = min n 70 := ⟨_, rfl⟩
  rw [← hmm] at hi
  have HCUT := Lib.hid (cut_c n m 70 ds a cap w hr hlc hnil (by omega) (by omega))
  obtain ⟨es, hes⟩ : ∃ es, es = ds.take m := ⟨_, rfl⟩
  rw [← hes] at HCUT
  have HES := Lib.hid (show ∀ d ∈ es, D32 d from by rw [hes]; exact d32_take hr.2.1 m)
  have hel : es.length = m := by rw [hes, List.length_take, hr.1]; omega
  have hm70 : m ≤ 70 := by omega
  clear hr hnil ht hmm hes
  go_enter Tryd.func6, Tryd.ntmps6
  go_wp2_with fail
  refine HCUT.out.mono ?_
  rintro e w1 ⟨v, rfl, hov, hb1⟩
  obtain ⟨a1, n1, c1, rfl, hn1, hc1, hc1m, hnil1, hr1⟩ := hov.form HES.out
  obtain rfl : n1 = m := by rw [← hn1, hel]
  have HR := Lib.hid hr1
  have HBc := Lib.hid hb1
  have HTO := Lib.hid (to_c n1 es a1 c1 w1 hr1 (by omega))
  have HEL := Lib.hid hel
  clear hov hb1 hr1 HCUT hn1 hel
  go_wp2_with fail
  refine HTO.out.mono ?_
  rintro e w2 ⟨v2, rfl, hov, hb2⟩
  obtain ⟨a2, n2, c2, rfl, hn2, hc2, hc2m, hnil2, hr2⟩ := hov.form HES.out
  obtain rfl : n2 = n1 := by rw [← hn2, HEL.out]
  have HBc := Lib.hid (HBc.out.trans (hb2.mono HBc.out.size))
  have HR := Lib.hid (HR.out.below hb2)
  have HPA := Lib.hid (Proof_no n2 i a2 c2 w2 hi)
  clear hov hb2 hr2 HTO hnil2 hn2 HR
  by_cases h0 : i < 0
  · clear hi
    go_wp2_with (first | (go_at_call 27; refine HPA.out.mono ?_; rintro e wp ⟨rfl, rfl⟩) | (go_at_call 14; refine (awake3_c _ (HT.out.below HBc.out hpos)).mono ?_; rintro e wb ⟨rfl, hbb⟩; have HBc := Lib.hid (HBc.out.trans (hbb.mono HBc.out.size)); clear hbb))
    go_ret
    exact ⟨rfl, HBc.out⟩
  · have h1 : (n2 : Int) < i := by omega
    clear hi
    go_wp2_with (first | (go_at_call 27; refine HPA.out.mono ?_; rintro e wp ⟨rfl, rfl⟩) | (go_at_call 14; refine (awake3_c _ (HT.out.below HBc.out hpos)).mono ?_; rintro e wb ⟨rfl, hbb⟩; have HBc := Lib.hid (HBc.out.trans (hbb.mono HBc.out.size)); clear hbb))
    go_ret
    exact ⟨rfl, HBc.out⟩
/-- the proof of the first k of some leaves -/
def proofS (es : Ds) (k : Nat) : Ds := if k = 0 then [] else partS es k true
theorem Proof_all (n k : Nat) (ds : Ds) (a : Option Addr) (cap : Nat) (w : World) (hnm : n ≤ 4398046511104) (hr : DR w a n ds) (hi : k ≤ n) (hlc : n ≤ cap) (hcm : cap ≤ 9223372036854775807) (ht : Tab w) :
    Calls Tryd.prog 27 #[.slice a n cap, .int .i64 (k : Int)] w (RetDs2 27 (proofS ds k) w) := by
  unfold proofS
  by_cases h : k = 0
  · subst h; exact Proof_zero n a cap w
  · rw [if_neg h]; exact Proof_ok n k ds a cap w hnm hr (by omega) hi hlc hcm ht
theorem rProof_all (n k : Nat) (ds : Ds) (a : Option Addr) (cap : Nat) (w : World) (hnm : n ≤ 4398046511104) (hr : DR w a n ds) (hi : k ≤ n) (hlc : n ≤ cap) (hcm : cap ≤ 9223372036854775807) (ht : Tab w) :
    Calls Tryd.prog 28 #[.slice a n cap, .int .i64 (k : Int)] w (RetDs 26 (proofS ds k) w) := by
  unfold proofS
  by_cases h : k = 0
  · subst h; exact rProof_zero n a cap w
  · rw [if_neg h]; exact rProof_ok n k ds a cap w hnm hr (by omega) hi hlc hcm ht
theorem proofS_len (n k : Nat) (ds : Ds) (hl : ds.length = n) (hi : k ≤ n) : (proofS ds k).length ≤ n := by
  unfold proofS
  by_cases h : k = 0
  · rw [if_pos h]; simp
  · rw [if_neg h]; exact part_len n ds k true hl (by omega) hi
theorem d32_proofS (n k : Nat) (ds : Ds) (hl : ds.length = n) (hi : k ≤ n) (hd : ∀ d ∈ ds, D32 d) : ∀ d ∈ proofS ds k, D32 d := by
  unfold proofS
  by_cases h : k = 0
  · rw [if_pos h]; simp
  · rw [if_neg h]; exact d32_part n ds k true hl (by omega) hi hd
theorem ext_proofS (n k : Nat) (ds : Ds) (a : Option Addr) (l cap : Nat) (w : World) (hl : ds.length = n) (hn : n ≤ 9223372036854775807) (hi : k ≤ n) (hd : ∀ d ∈ ds, D32 d) (hw : DR w a l (proofS ds k)) (hlc : l ≤ cap) (hcm : cap ≤ 9223372036854775807) (ht : Tab w) :
    Calls Tryd.prog 29 #[.agg (cellsOf (rootS (ds.take k))).toArray, .int .i64 (k : Int), .agg (cellsOf (rootS ds)).toArray, .int .i64 (n : Int), .slice a l cap] w fun e w' => e = .returned (.bool true) ∧ Below w.heap.size w w' := by
  have ho := d32_root _ (d32_take hd k)
  have hr := d32_root _ hd
  by_cases h : k = 0
  · subst h
    have h0 : l = 0 := by have := hw.1; unfold proofS at this; simp at this; omega
    have hc := ext_zero (rootS (ds.take 0)) (rootS ds) n a l cap w hn ho hr ht
    have hv : (decide (l = 0) && (decide (rootS (ds.take 0) = Sha.sum []) && (decide (n ≠ 0) || decide (rootS ds = Sha.sum [])))) = true := by
      rw [List.take_zero, rootS_nil]
      by_cases hn0 : n = 0
      · have : ds = [] := List.eq_nil_of_length_eq_zero (hl.trans hn0)
        subst this
        rw [rootS_nil]; simp [h0]
      · simp [h0, hn0]
    rw [hv] at hc
    exact hc
  · have hp : proofS ds k = partS ds k true := by unfold proofS; rw [if_neg h]
    have hc := ext_yes (rootS (ds.take k)) (rootS ds) k n a l cap (proofS ds k) w (by omega) hi hn ho hr hw hlc hcm ht
    have hb : bothS (rootS (ds.take k)) k n true (proofS ds k) = some (rootS (ds.take k), rootS ds) := by
      rw [hp]
      exact Mk.both_proof nodeS (Sha.sum []) n ds k true (rootS (ds.take k)) hl (by omega) hi (fun _ => rfl)
    rw [decide_eq_true hb] at hc
    exact hc
set_option maxRecDepth 100000 in
set_option maxHeartbeats 2000000 in
theorem proofs_yes (k : Nat) (a : Option Addr) (n cap : Nat) (ds : Ds) (w : World) (r : DigsIn w a n cap ds) (hk : k ≤ min n 70) (ht : Tab w) :
    Calls Tryd.prog 6 #[.slice a n cap, .int .i64 (k : Int)] w fun e w' => e = .returned (.bool true) ∧ Below w.heap.size w w' := by
  obtain ⟨hr, hnil, hlc, hcm⟩ := r
  have HT := Lib.hid ht
  have hpos := ht.pos
  obtain ⟨m, hmm⟩ : ∃ m : Nat, m = min n 70 := ⟨_, rfl⟩
  rw [← hmm] at hk
  have HCUT := Lib.hid (cut_c n m 70 ds a cap w hr hlc hnil (by omega) (by omega))
  obtain ⟨es, hes⟩ : ∃ es, es = ds.take m := ⟨_, rfl⟩
  rw [← hes] at HCUT
  have HES := Lib.hid (show ∀ d ∈ es, D32 d from by rw [hes]; exact d32_take hr.2.1 m)
  have hel : es.length = m := by rw [hes, List.length_take, hr.1]; omega
  have hm70 : m ≤ 70 := by omega
  clear hr hnil ht hmm hes
  go_enter Tryd.func6, Tryd.ntmps6
  go_wp2_with fail
  refine HCUT.out.mono ?_
  rintro e w1 ⟨v, rfl, hov, hb1⟩
  obtain ⟨a1, n1, c1, rfl, hn1, hc1, hc1m, hnil1, hr1⟩ := hov.form HES.out
  obtain rfl : n1 = m := by rw [← hn1, hel]
  have HR := Lib.hid hr1
  have HBc := Lib.hid hb1
  have HTO := Lib.hid (to_c n1 es a1 c1 w1 hr1 (by omega))
  have HEL := Lib.hid hel
  clear hov hb1 hr1 HCUT hn1 hel
  go_wp2_with fail
  refine HTO.out.mono ?_
  rintro e w2 ⟨v2, rfl, hov, hb2⟩
  obtain ⟨a2, n2, c2, rfl, hn2, hc2, hc2m, hnil2, hr2⟩ := hov.form HES.out
  obtain rfl : n2 = n1 := by rw [← hn2, HEL.out]
  have HBc := Lib.hid (HBc.out.trans (hb2.mono HBc.out.size))
  have HR := Lib.hid (HR.out.below hb2)
  have HPA := Lib.hid (Proof_all n2 k es a2 c2 w2 (by omega) hr2 hk hc2 hc2m (HT.out.below HBc.out hpos))
  clear hov hb2 hr2 HTO hnil2 hn2
  go_wp2_with fail
  refine HPA.out.mono ?_
  rintro e w3 ⟨v3, rfl, hov, hb3⟩
  obtain ⟨p, hp⟩ : ∃ p, p = proofS es k := ⟨_, rfl⟩
  rw [← hp] at hov
  have HPD := Lib.hid (show ∀ d ∈ p, D32 d from by rw [hp]; exact d32_proofS n2 k es HEL.out hk HES.out)
  have hpl : p.length ≤ n2 := by rw [hp]; exact proofS_len n2 k es HEL.out hk
  have HPE := Lib.hid hp
  obtain ⟨va, vn, vc, rfl, hvn, hvc, hvm, _, hvr⟩ := hov.form HPD.out
  have HBc := Lib.hid (HBc.out.trans (hb3.mono HBc.out.size))
  have HR := Lib.hid (HR.out.below hb3)
  have HV := Lib.hid hvr
  have q0 : ¬ (k : Int) < 0 := by omega
  have q1 : ¬ (n2 : Int) < (k : Int) := by omega
  have q2 : k ≤ n2 := hk
  have kH := fun W => run_dheadAt dtR W a1 n2 c1 k (by omega)
  have hvn70 : vn ≤ 70 := by omega
  have HFROM := Lib.hid (fun W (hW : DR W va vn p) => from_c vn p va vc W hW (by omega))
  have HT' := Lib.hid (show ∀ W, MP w a1 n2 es va vn p W → Tab W from fun W hW => HT.out.below hW.2.2 hpos)
  have HS := Lib.hid (show MP w a1 n2 es va vn p w3 from ⟨HR.out, HV.out, HBc.out⟩)
  have HRP := Lib.hid (show ∀ W, MP w a1 n2 es va vn p W → Calls Tryd.prog 28 #[.slice a1 n2 c1, .int .i64 (k : Int)] W (RetDs 26 p W) from fun W hW => by rw [HPE.out]; exact rProof_all n2 k es _ c1 W (by omega) hW.1 hk hc1 hc1m (HT'.out W hW))
  have HSAME := Lib.hid (show ∀ W fa ga fn gn fc gc, DR W fa fn p → DR W ga gn p → Calls Tryd.prog 21 #[.slice fa fn fc, .slice ga gn gc] W (fun e w' => e = .returned (.bool true) ∧ Below W.heap.size W w') from fun W fa ga fn gn fc gc h1 h2 => by
    have := dsame_c fn gn (by rw [← h1.1]; omega) fa ga fc gc p p W h1 h2
    rw [decide_eq_true rfl] at this
    exact this)
  have HEX := Lib.hid (show ∀ W, MP w a1 n2 es va vn p W → Calls Tryd.prog 29 #[.agg (cellsOf (rootS (es.take k))).toArray, .int .i64 (k : Int), .agg (cellsOf (rootS es)).toArray, .int .i64 (n2 : Int), .slice va vn vc] W (fun e w' => e = .returned (.bool true) ∧ Below W.heap.size W w') from fun W hW => ext_proofS n2 k es va vn vc W HEL.out (by omega) hk HES.out (by have := hW.2.1; rw [HPE.out] at this; exact this) hvc hvm (HT'.out W hW))
  obtain ⟨R, hR⟩ : ∃ R, R = rootS es := ⟨_, rfl⟩
  obtain ⟨S, hS⟩ : ∃ S, S = rootS (es.take k) := ⟨_, rfl⟩
  have HRR := Lib.hid (show ∀ W, MP w a1 n2 es va vn p W → Calls Tryd.prog 19 #[.slice a1 n2 c1] W (DigRet R W) from fun W h => by rw [hR]; exact rroot_c n2 es _ c1 W h.1 hc1 hc1m)
  have HRS := Lib.hid (show ∀ W, MP w a1 n2 es va vn p W → Calls Tryd.prog 19 #[.slice a1 k c1] W (DigRet S W) from fun W h => by rw [hS]; exact rroot_c k _ _ c1 W (h.1.take k (by omega)) (by omega) hc1m)
  rw [← hR, ← hS] at HEX
  clear hov hb3 hvr hp HPA hR hS HR HV HBc
  go_wp2_with (first | (go_at_call 14; refine (awake3_c _ (HT'.out _ HS.out)).mono ?_; rintro e wb ⟨rfl, hbb⟩; have HS := Lib.hid (HS.out.step hbb); clear hbb) | (go_at_call 22; refine (HFROM.out _ HS.out.2.1).mono ?_; rintro e wb ⟨vf, rfl, hovf, hbb⟩; obtain ⟨fa, fn, fc, rfl, hfn, hfc, hfm, hfx, hrf⟩ := hovf.form HPD.out; have HS := Lib.hid (HS.out.step hbb); have HF := Lib.hid hrf; clear hbb hovf hrf hfx hfn hfc hfm) | (go_at_call 28; refine (HRP.out _ HS.out).mono ?_; rintro e wb ⟨vg, rfl, hovg, hbb⟩; obtain ⟨ga, gn, gc, rfl, hgn, hgc, hgm, hgx, hrg⟩ := hovg.form HPD.out; have HS := Lib.hid (HS.out.step hbb); have HG := Lib.hid hrg; have HF := Lib.hid (HF.out.below hbb); clear hbb hovg hrg hgx hgn hgc hgm) | (go_at_call 21; refine (HSAME.out _ fa ga fn gn fc gc HF.out HG.out).mono ?_; rintro e wb ⟨rfl, hbb⟩; have HS := Lib.hid (HS.out.step hbb); clear hbb) | (go_at_call 19; refine (HRS.out _ HS.out).mono ?_; rintro e wb ⟨rfl, hbb⟩; have HS := Lib.hid (HS.out.step hbb); clear hbb HRS) | (go_at_call 19; refine (HRR.out _ HS.out).mono ?_; rintro e wb ⟨rfl, hbb⟩; have HS := Lib.hid (HS.out.step hbb); clear hbb) | (go_at_call 29; refine (HEX.out _ HS.out).mono ?_; rintro e wb ⟨rfl, hbb⟩; have HS := Lib.hid (HS.out.step hbb); clear hbb))
  go_ret
  exact ⟨rfl, HS.out.2.2⟩
theorem mproofs_c (a : Option Addr) (n cap : Nat) (ds : Ds) (i : Int) (w : World) (r : DigsIn w a n cap ds) (hi : (Lit.int .i64 i).wf = true) (ht : Tab w) :
    Calls Tryd.prog 6 #[.slice a n cap, .int .i64 i] w fun e w' => e = .returned (.bool true) ∧ Below w.heap.size w w' := by
  have hb : -9223372036854775808 ≤ i ∧ i ≤ 9223372036854775807 := by simpa [Lit.wf, IntKind.min, IntKind.max, IntKind.signed, IntKind.bits] using hi
  by_cases h : i < 0 ∨ (min n 70 : Nat) < i
  · exact proofs_no i a n cap ds w r h hb.2 hb.1 ht
  · obtain ⟨k, rfl⟩ : ∃ k : Nat, i = (k : Int) := ⟨i.toNat, by omega⟩
    exact proofs_yes k a n cap ds w r (by omega) ht
end Go.Proofs.YthnfbdmkdpokcaaDoor
