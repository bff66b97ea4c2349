/-
  The walk over MerkleStays.
-/
import Derived.Test.YtoknjhpdbigbhaaDoorSts
import Derived.Test.YtoknjhpdbigbhaaDoorMpr
import Derived.Test.YtoknjhpdbigbhaaDoorMck
namespace Go.Proofs.YtoknjhpdbigbhaaDoor
open Go.RowKit
set_option linter.unusedVariables false
def SP (w : World) (B : Nat) (a1 : Option Addr) (n1 : Nat) (es : Ds) (a2 : Option Addr) (n2 : Nat) (fs : Ds) (a3 : Option Addr) (n3 : Nat) (ws : Ds) (W : World) : Prop := DR W a1 n1 es ∧ DR W a2 n2 fs ∧ DR W a3 n3 ws ∧ Below w.heap.size w W ∧ B ≤ W.heap.size
theorem SP.step {w W W' : World} {B : Nat} {a1 : Option Addr} {n1 : Nat} {es : Ds} {a2 : Option Addr} {n2 : Nat} {fs : Ds} {a3 : Option Addr} {n3 : Nat} {ws : Ds} (h : SP w B a1 n1 es a2 n2 fs a3 n3 ws W) (hb : Below W.heap.size W W') : SP w B a1 n1 es a2 n2 fs a3 n3 ws W' := ⟨h.1.below hb, h.2.1.below hb, h.2.2.1.below hb, h.2.2.2.1.trans (hb.mono h.2.2.2.1.size), Nat.le_trans h.2.2.2.2 hb.size⟩
theorem exB_proofS (n k : Nat) (ds : Ds) (hl : ds.length = n) (hi : k ≤ n) : exB (rootS (ds.take k)) (k : Int) (rootS ds) (n : Int) (proofS ds k) = true := by
  unfold exB
  rw [if_neg (by omega)]
  by_cases h : k = 0
  · subst h
    rw [if_pos (by rfl), List.take_zero, rootS_nil]
    unfold proofS
    by_cases hn0 : n = 0
    · have : ds = [] := List.eq_nil_of_length_eq_zero (hl.trans hn0)
      subst this
      rw [rootS_nil]; simp
    · simp [hn0]
  · rw [if_neg (by omega)]
    have hp : proofS ds k = partS ds k true := by unfold proofS; rw [if_neg h]
    have hb : bothS (rootS (ds.take k)) k n true (proofS ds k) = some (rootS (ds.take k), rootS ds) := by
      rw [hp]
      exact Mk.both_proof nodeS (Sha.sum []) n ds k true (rootS (ds.take k)) hl (by omega) hi (fun _ => rfl)
    rw [Int.toNat_natCast, Int.toNat_natCast]
    exact decide_eq_true hb
theorem exB_both {es fs ws : Ds} {n1 n2 : Nat} (h1 : es.length = n1) (h2 : 1 ≤ n1) (h : exB (rootS es) (n1 : Int) (rootS fs) (n2 : Int) ws = true) : bothS (rootS es) n1 n2 true ws = some (rootS es, rootS fs) := by
  unfold exB at h
  split at h
  · cases h
  · rw [if_neg (by omega), Int.toNat_natCast, Int.toNat_natCast] at h
    exact of_decide_eq_true h
set_option maxRecDepth 100000 in
set_option maxHeartbeats 8000000 in
theorem mstays_c (aa : Option Addr) (an ac : Nat) (als : Ds) (ba : Option Addr) (bn bc : Nat) (bs : Ds) (wa : Option Addr) (wl wk : Nat) (wz : Ds) (w : World) (ra : DigsIn w aa an ac als) (rb : DigsIn w ba bn bc bs) (rw_ : DigsIn w wa wl wk wz) (ht : Tab w) :
    Calls Tryd.prog 5 #[.slice aa an ac, .slice ba bn bc, .slice wa wl wk] w fun e w' => e = .returned (.bool true) ∧ Below w.heap.size w w' := by
  obtain ⟨h1, h1n, h1c, _⟩ := ra
  obtain ⟨h2, h2n, h2c, _⟩ := rb
  obtain ⟨h3, h3n, h3c, _⟩ := rw_
  have HT := Lib.hid ht
  have hpos := ht.pos
  obtain ⟨p1, hp1⟩ : ∃ q : Nat, q = min an 70 := ⟨_, rfl⟩
  obtain ⟨p2, hp2⟩ : ∃ q : Nat, q = min bn 70 := ⟨_, rfl⟩
  obtain ⟨p3, hp3⟩ : ∃ q : Nat, q = min wl 70 := ⟨_, rfl⟩
  have HC1 := Lib.hid (show ∀ W, Below w.heap.size w W → Calls Tryd.prog 7 #[.slice aa an ac, .int .i64 70] W (RetDs 31 (als.take p1) W) from fun W hW => cut_c an p1 70 als aa ac W (h1.below hW) h1c h1n (by omega) (by omega))
  have HC2 := Lib.hid (show ∀ W, Below w.heap.size w W → Calls Tryd.prog 7 #[.slice ba bn bc, .int .i64 70] W (RetDs 31 (bs.take p2) W) from fun W hW => cut_c bn p2 70 bs ba bc W (h2.below hW) h2c h2n (by omega) (by omega))
  have HC3 := Lib.hid (show ∀ W, Below w.heap.size w W → Calls Tryd.prog 7 #[.slice wa wl wk, .int .i64 70] W (RetDs 31 (wz.take p3) W) from fun W hW => cut_c wl p3 70 wz wa wk W (h3.below hW) h3c h3n (by omega) (by omega))
  obtain ⟨es, hes⟩ : ∃ es, es = als.take p1 := ⟨_, rfl⟩
  obtain ⟨fs, hfs⟩ : ∃ fs, fs = bs.take p2 := ⟨_, rfl⟩
  obtain ⟨ws, hws⟩ : ∃ ws, ws = wz.take p3 := ⟨_, rfl⟩
  rw [← hes] at HC1
  rw [← hfs] at HC2
  rw [← hws] at HC3
  have HES := Lib.hid (show ∀ d ∈ es, D32 d from by rw [hes]; exact d32_take h1.2.1 p1)
  have HFS := Lib.hid (show ∀ d ∈ fs, D32 d from by rw [hfs]; exact d32_take h2.2.1 p2)
  have HWS := Lib.hid (show ∀ d ∈ ws, D32 d from by rw [hws]; exact d32_take h3.2.1 p3)
  have hel : es.length = p1 := by rw [hes, List.length_take, h1.1]; omega
  have hfl : fs.length = p2 := by rw [hfs, List.length_take, h2.1]; omega
  have hwl : ws.length = p3 := by rw [hws, List.length_take, h3.1]; omega
  have hp170 : p1 ≤ 70 := by omega
  have hp270 : p2 ≤ 70 := by omega
  have hp370 : p3 ≤ 70 := by omega
  clear h1 h1n h2 h2n h3 h3n ht hp1 hp2 hp3 hes hfs hws
  go_enter Tryd.func5, Tryd.ntmps5
  go_wp2_with fail
  refine (HC1.out _ (Below.refl _ _)).mono ?_
  rintro e w1 ⟨v1, rfl, hov1, hb1⟩
  obtain ⟨a1, n1, c1, rfl, hn1, hc1, hc1m, _, hr1⟩ := hov1.form HES.out
  have HR1 := Lib.hid hr1
  have HB1 := Lib.hid hb1
  clear hov1 hr1 hb1 HC1
  go_wp2_with fail
  refine (HC2.out _ HB1.out).mono ?_
  rintro e w2 ⟨v2, rfl, hov2, hb2⟩
  obtain ⟨a2, n2, c2, rfl, hn2, hc2, hc2m, _, hr2⟩ := hov2.form HFS.out
  have HR2 := Lib.hid hr2
  have HR1 := Lib.hid (HR1.out.below hb2)
  have HB2 := Lib.hid (HB1.out.trans (hb2.mono HB1.out.size))
  clear hov2 hr2 hb2 HC2 HB1
  go_wp2_with fail
  refine (HC3.out _ HB2.out).mono ?_
  rintro e w3 ⟨v3, rfl, hov3, hb3⟩
  obtain ⟨a3, n3, c3, rfl, hn3, hc3, hc3m, _, hr3⟩ := hov3.form HWS.out
  have hab := hov3.blk
  obtain ⟨B, hB⟩ : ∃ B, B = w3.heap.size := ⟨_, rfl⟩
  rw [← hB] at hab
  have HAB := Lib.hid hab
  have HS := Lib.hid (show SP w B a1 n1 es a2 n2 fs a3 n3 ws w3 from ⟨HR1.out.below hb3, HR2.out.below hb3, hr3, HB2.out.trans (hb3.mono HB2.out.size), by rw [hB]; exact Nat.le_refl _⟩)
  have g1 : n1 ≤ 70 := by omega
  have g2 : n2 ≤ 70 := by omega
  have g3 : n3 ≤ 70 := by omega
  have HL1 := Lib.hid hn1
  have HL2 := Lib.hid hn2
  clear hov3 hr3 hb3 HC3 HB2 HR1 HR2 hab hB hel hfl hwl hn1 hn2 hn3 hp170 hp270 hp370
  by_cases hlt : n2 < n1
  · have q0 : (n2 : Int) < (n1 : Int) := by omega
    obtain ⟨R, hR⟩ : ∃ R, R = rootS fs := ⟨_, rfl⟩
    obtain ⟨S, hS⟩ : ∃ S, S = rootS es := ⟨_, rfl⟩
    have HRD := Lib.hid (show D32 R from by rw [hR]; exact d32_root _ HFS.out)
    have HSD := Lib.hid (show D32 S from by rw [hS]; exact d32_root _ HES.out)
    obtain ⟨V, hV⟩ : ∃ V, V = exB R (n2 : Int) S (n1 : Int) ws := ⟨_, rfl⟩
    obtain ⟨H, hH⟩ : ∃ H, H = decide (fs = es.take n2) := ⟨_, rfl⟩
    have HSAME := Lib.hid (show ∀ W, SP w B a1 n1 es a2 n2 fs a3 n3 ws W → Calls Tryd.prog 13 #[.slice a2 n2 c2, .slice a1 n2 c1] W (fun e w' => e = .returned (.bool H) ∧ Below W.heap.size W w') from fun W hW => by rw [hH]; exact dsame_c n2 n2 (by omega) a2 a1 c2 c1 fs (es.take n2) W hW.2.1 (hW.1.take n2 (by omega)))
    have HRR := Lib.hid (show ∀ W, SP w B a1 n1 es a2 n2 fs a3 n3 ws W → Calls Tryd.prog 12 #[.slice a2 n2 c2] W (DigRet R W) from fun W h => by rw [hR]; exact rroot_c n2 fs _ c2 W h.2.1 (by omega) (by omega))
    have HRS := Lib.hid (show ∀ W, SP w B a1 n1 es a2 n2 fs a3 n3 ws W → Calls Tryd.prog 12 #[.slice a1 n1 c1] W (DigRet S W) from fun W h => by rw [hS]; exact rroot_c n1 es _ c1 W h.1 (by omega) (by omega))
    have HTO := Lib.hid (fun W (hW : SP w B a1 n1 es a2 n2 fs a3 n3 ws W) => to_c n3 ws a3 c3 W hW.2.2.1 (by omega))
    have HEX := Lib.hid (show ∀ W fa fn fc, SP w B a1 n1 es a2 n2 fs a3 n3 ws W → DR W fa fn ws → fn ≤ fc → fc ≤ 9223372036854775807 → Calls Tryd.prog 21 #[.agg (cellsOf R).toArray, .int .i64 (n2 : Int), .agg (cellsOf S).toArray, .int .i64 (n1 : Int), .slice fa fn fc] W (fun e w' => e = .returned (.bool V) ∧ Below W.heap.size W w') from fun W fa fn fc h1 h2 h3 h4 => by rw [hV]; exact ext_g (n2 : Int) (n1 : Int) R S fa fn fc ws W (by omega) HRD.out HSD.out h2 h3 h4 (HT.out.below h1.2.2.2.1 hpos))
    obtain ⟨pf, hpf⟩ : ∃ pf, pf = proofS es n2 := ⟨_, rfl⟩
    have HPR := Lib.hid (show ∀ W, SP w B a1 n1 es a2 n2 fs a3 n3 ws W → Calls Tryd.prog 22 #[.slice a1 n1 c1, .int .i64 (n2 : Int)] W (RetDs 31 pf W) from fun W hW => by rw [hpf]; exact rProof_all n1 n2 es _ c1 W (by omega) hW.1 (by omega) (by omega) (by omega) (HT.out.below hW.2.2.2.1 hpos))
    have HPD := Lib.hid (show ∀ d ∈ pf, D32 d from by rw [hpf]; exact d32_proofS n1 n2 es HL1.out (by omega) HES.out)
    have HSM := Lib.hid (show V = false → H = true → ∀ W fa fn fc, SP w B a1 n1 es a2 n2 fs a3 n3 ws W → DR W fa fn pf → Calls Tryd.prog 13 #[.slice a3 n3 c3, .slice fa fn fc] W (fun e w' => e = .returned (.bool false) ∧ Below W.heap.size W w') from fun e1 e2 W fa fn fc h1 h2 => by
      have h := dsame_c n3 fn (by omega) a3 fa c3 fc ws pf W h1.2.2.1 h2
      have hne : ws ≠ pf := by
        intro he
        rw [hH] at e2
        have e3 := of_decide_eq_true e2
        rw [hV, he, hpf, hR, hS, e3] at e1
        have e4 := exB_proofS n1 n2 es HL1.out (by omega)
        rw [e1] at e4
        cases e4
      rw [decide_eq_false hne] at h
      exact h)
    have HST := Lib.hid (show V = true → H = false → ∀ W, SP w B a1 n1 es a2 n2 fs a3 n3 ws W → Calls Tryd.prog 23 #[.slice a2 n2 c2, .slice a1 n1 c1, .bool true, .slice a3 n3 c3] W (RetTrue W) from fun e1 e2 W hW => by
      rw [hH] at e2
      have e3 := of_decide_eq_false e2
      have h1 : 1 ≤ n2 := by
        apply Classical.byContradiction
        intro h
        obtain rfl : n2 = 0 := by omega
        exact e3 (by rw [List.take_zero]; exact List.eq_nil_of_length_eq_zero HL2.out)
      rw [hV, hR, hS] at e1
      exact strays_c n1 (by omega) B n1 (by omega) n2 fs es ws true _ _ _ _ _ _ _ W h1 (by omega) hW.2.1 (by omega) (by omega) hW.1 (by omega) (by omega) hW.2.2.1 (by omega) (by omega) HAB.out hW.2.2.2.2 (exB_both HL2.out h1 e1) e3)
    have kH := fun W => run_dheadAt dtR W a1 n1 c1 n2 (by omega)
    have HTB := Lib.hid (show ∀ W, SP w B a1 n1 es a2 n2 fs a3 n3 ws W → Tab W from fun W hW => HT.out.below hW.2.2.2.1 hpos)
    clear hV hH hR hS hpf
    go_wp2_with fail
    refine (HSAME.out _ HS.out).mono ?_
    rintro e w4 ⟨rfl, hb4⟩
    have HS := Lib.hid (HS.out.step hb4)
    clear hb4 HSAME kH
    go_wp2_with fail
    refine (HRR.out _ HS.out).mono ?_
    rintro e w5 ⟨rfl, hb5⟩
    have HS := Lib.hid (HS.out.step hb5)
    clear hb5 HRR
    go_wp2_with fail
    refine (HRS.out _ HS.out).mono ?_
    rintro e w6 ⟨rfl, hb6⟩
    have HS := Lib.hid (HS.out.step hb6)
    clear hb6 HRS
    go_wp2_with fail
    refine (HTO.out _ HS.out).mono ?_
    rintro e w7 ⟨v7, rfl, hov7, hb7⟩
    obtain ⟨ua, un, uc, rfl, _, uc0, um0, _, hr7⟩ := hov7.form HWS.out
    have HS := Lib.hid (HS.out.step hb7)
    have HFu := Lib.hid hr7
    clear hb7 hov7 hr7 HTO
    go_wp2_with fail
    refine (HEX.out _ _ _ _ HS.out HFu.out uc0 um0).mono ?_
    rintro e w8 ⟨rfl, hb8⟩
    have HS := Lib.hid (HS.out.step hb8)
    clear hb8 HEX HFu
    cases V with
    | false =>
      have HSN := Lib.hid (HSM.out rfl)
      clear HST HSM
      cases H with
      | false =>
        clear HSN HPR
        go_wp2_with (first | (go_at_call 6; refine (awake3_c _ (HTB.out _ HS.out)).mono ?_; rintro e wb ⟨rfl, hbb⟩; have HS := Lib.hid (HS.out.step hbb); clear hbb))
        go_ret
        exact ⟨rfl, HS.out.2.2.2.1⟩
      | true =>
        have HSO := Lib.hid (HSN.out rfl)
        clear HSN
        go_wp2_with (first | (go_at_call 6; refine (awake3_c _ (HTB.out _ HS.out)).mono ?_; rintro e wb ⟨rfl, hbb⟩; have HS := Lib.hid (HS.out.step hbb); clear hbb) | (go_at_call 22; refine (HPR.out _ HS.out).mono ?_; rintro e wb ⟨vg, rfl, hovg, hbb⟩; obtain ⟨ga, gn, gc, rfl, gn0, gc0, gm0, gx0, gr0⟩ := hovg.form HPD.out; have HS := Lib.hid (HS.out.step hbb); have HFg := Lib.hid gr0; clear hbb hovg gr0 gx0 gn0) | (go_at_call 13; refine (HSO.out _ _ _ _ HS.out HFg.out).mono ?_; rintro e wb ⟨rfl, hbb⟩; have HS := Lib.hid (HS.out.step hbb); clear hbb))
        go_ret
        exact ⟨rfl, HS.out.2.2.2.1⟩
    | true =>
      have HSU := Lib.hid (HST.out rfl)
      clear HSM HPR HST
      cases H with
      | false =>
        have HSV := Lib.hid (HSU.out rfl)
        clear HSU
        go_wp2_with (first | (go_at_call 6; refine (awake3_c _ (HTB.out _ HS.out)).mono ?_; rintro e wb ⟨rfl, hbb⟩; have HS := Lib.hid (HS.out.step hbb); clear hbb) | (go_at_call 23; refine (HSV.out _ HS.out).mono ?_; rintro e wb ⟨rfl, hbb⟩; have HS := Lib.hid (HS.out.step hbb); clear hbb))
        go_ret
        exact ⟨rfl, HS.out.2.2.2.1⟩
      | true =>
        clear HSU
        go_wp2_with (first | (go_at_call 6; refine (awake3_c _ (HTB.out _ HS.out)).mono ?_; rintro e wb ⟨rfl, hbb⟩; have HS := Lib.hid (HS.out.step hbb); clear hbb))
        go_ret
        exact ⟨rfl, HS.out.2.2.2.1⟩
  · have q0 : ¬ (n2 : Int) < (n1 : Int) := by omega
    obtain ⟨R, hR⟩ : ∃ R, R = rootS es := ⟨_, rfl⟩
    obtain ⟨S, hS⟩ : ∃ S, S = rootS fs := ⟨_, rfl⟩
    have HRD := Lib.hid (show D32 R from by rw [hR]; exact d32_root _ HES.out)
    have HSD := Lib.hid (show D32 S from by rw [hS]; exact d32_root _ HFS.out)
    obtain ⟨V, hV⟩ : ∃ V, V = exB R (n1 : Int) S (n2 : Int) ws := ⟨_, rfl⟩
    obtain ⟨H, hH⟩ : ∃ H, H = decide (es = fs.take n1) := ⟨_, rfl⟩
    have HSAME := Lib.hid (show ∀ W, SP w B a1 n1 es a2 n2 fs a3 n3 ws W → Calls Tryd.prog 13 #[.slice a1 n1 c1, .slice a2 n1 c2] W (fun e w' => e = .returned (.bool H) ∧ Below W.heap.size W w') from fun W hW => by rw [hH]; exact dsame_c n1 n1 (by omega) a1 a2 c1 c2 es (fs.take n1) W hW.1 (hW.2.1.take n1 (by omega)))
    have HRR := Lib.hid (show ∀ W, SP w B a1 n1 es a2 n2 fs a3 n3 ws W → Calls Tryd.prog 12 #[.slice a1 n1 c1] W (DigRet R W) from fun W h => by rw [hR]; exact rroot_c n1 es _ c1 W h.1 (by omega) (by omega))
    have HRS := Lib.hid (show ∀ W, SP w B a1 n1 es a2 n2 fs a3 n3 ws W → Calls Tryd.prog 12 #[.slice a2 n2 c2] W (DigRet S W) from fun W h => by rw [hS]; exact rroot_c n2 fs _ c2 W h.2.1 (by omega) (by omega))
    have HTO := Lib.hid (fun W (hW : SP w B a1 n1 es a2 n2 fs a3 n3 ws W) => to_c n3 ws a3 c3 W hW.2.2.1 (by omega))
    have HEX := Lib.hid (show ∀ W fa fn fc, SP w B a1 n1 es a2 n2 fs a3 n3 ws W → DR W fa fn ws → fn ≤ fc → fc ≤ 9223372036854775807 → Calls Tryd.prog 21 #[.agg (cellsOf R).toArray, .int .i64 (n1 : Int), .agg (cellsOf S).toArray, .int .i64 (n2 : Int), .slice fa fn fc] W (fun e w' => e = .returned (.bool V) ∧ Below W.heap.size W w') from fun W fa fn fc h1 h2 h3 h4 => by rw [hV]; exact ext_g (n1 : Int) (n2 : Int) R S fa fn fc ws W (by omega) HRD.out HSD.out h2 h3 h4 (HT.out.below h1.2.2.2.1 hpos))
    obtain ⟨pf, hpf⟩ : ∃ pf, pf = proofS fs n1 := ⟨_, rfl⟩
    have HPR := Lib.hid (show ∀ W, SP w B a1 n1 es a2 n2 fs a3 n3 ws W → Calls Tryd.prog 22 #[.slice a2 n2 c2, .int .i64 (n1 : Int)] W (RetDs 31 pf W) from fun W hW => by rw [hpf]; exact rProof_all n2 n1 fs _ c2 W (by omega) hW.2.1 (by omega) (by omega) (by omega) (HT.out.below hW.2.2.2.1 hpos))
    have HPD := Lib.hid (show ∀ d ∈ pf, D32 d from by rw [hpf]; exact d32_proofS n2 n1 fs HL2.out (by omega) HFS.out)
    have HSM := Lib.hid (show V = false → H = true → ∀ W fa fn fc, SP w B a1 n1 es a2 n2 fs a3 n3 ws W → DR W fa fn pf → Calls Tryd.prog 13 #[.slice a3 n3 c3, .slice fa fn fc] W (fun e w' => e = .returned (.bool false) ∧ Below W.heap.size W w') from fun e1 e2 W fa fn fc h1 h2 => by
      have h := dsame_c n3 fn (by omega) a3 fa c3 fc ws pf W h1.2.2.1 h2
      have hne : ws ≠ pf := by
        intro he
        rw [hH] at e2
        have e3 := of_decide_eq_true e2
        rw [hV, he, hpf, hR, hS, e3] at e1
        have e4 := exB_proofS n2 n1 fs HL2.out (by omega)
        rw [e1] at e4
        cases e4
      rw [decide_eq_false hne] at h
      exact h)
    have HST := Lib.hid (show V = true → H = false → ∀ W, SP w B a1 n1 es a2 n2 fs a3 n3 ws W → Calls Tryd.prog 23 #[.slice a1 n1 c1, .slice a2 n2 c2, .bool true, .slice a3 n3 c3] W (RetTrue W) from fun e1 e2 W hW => by
      rw [hH] at e2
      have e3 := of_decide_eq_false e2
      have h1 : 1 ≤ n1 := by
        apply Classical.byContradiction
        intro h
        obtain rfl : n1 = 0 := by omega
        exact e3 (by rw [List.take_zero]; exact List.eq_nil_of_length_eq_zero HL1.out)
      rw [hV, hR, hS] at e1
      exact strays_c n2 (by omega) B n2 (by omega) n1 es fs ws true _ _ _ _ _ _ _ W h1 (by omega) hW.1 (by omega) (by omega) hW.2.1 (by omega) (by omega) hW.2.2.1 (by omega) (by omega) HAB.out hW.2.2.2.2 (exB_both HL1.out h1 e1) e3)
    have kH := fun W => run_dheadAt dtR W a2 n2 c2 n1 (by omega)
    have HTB := Lib.hid (show ∀ W, SP w B a1 n1 es a2 n2 fs a3 n3 ws W → Tab W from fun W hW => HT.out.below hW.2.2.2.1 hpos)
    clear hV hH hR hS hpf
    go_wp2_with fail
    refine (HSAME.out _ HS.out).mono ?_
    rintro e w4 ⟨rfl, hb4⟩
    have HS := Lib.hid (HS.out.step hb4)
    clear hb4 HSAME kH
    go_wp2_with fail
    refine (HRR.out _ HS.out).mono ?_
    rintro e w5 ⟨rfl, hb5⟩
    have HS := Lib.hid (HS.out.step hb5)
    clear hb5 HRR
    go_wp2_with fail
    refine (HRS.out _ HS.out).mono ?_
    rintro e w6 ⟨rfl, hb6⟩
    have HS := Lib.hid (HS.out.step hb6)
    clear hb6 HRS
    go_wp2_with fail
    refine (HTO.out _ HS.out).mono ?_
    rintro e w7 ⟨v7, rfl, hov7, hb7⟩
    obtain ⟨ua, un, uc, rfl, _, uc0, um0, _, hr7⟩ := hov7.form HWS.out
    have HS := Lib.hid (HS.out.step hb7)
    have HFu := Lib.hid hr7
    clear hb7 hov7 hr7 HTO
    go_wp2_with fail
    refine (HEX.out _ _ _ _ HS.out HFu.out uc0 um0).mono ?_
    rintro e w8 ⟨rfl, hb8⟩
    have HS := Lib.hid (HS.out.step hb8)
    clear hb8 HEX HFu
    cases V with
    | false =>
      have HSN := Lib.hid (HSM.out rfl)
      clear HST HSM
      cases H with
      | false =>
        clear HSN HPR
        go_wp2_with (first | (go_at_call 6; refine (awake3_c _ (HTB.out _ HS.out)).mono ?_; rintro e wb ⟨rfl, hbb⟩; have HS := Lib.hid (HS.out.step hbb); clear hbb))
        go_ret
        exact ⟨rfl, HS.out.2.2.2.1⟩
      | true =>
        have HSO := Lib.hid (HSN.out rfl)
        clear HSN
        go_wp2_with (first | (go_at_call 6; refine (awake3_c _ (HTB.out _ HS.out)).mono ?_; rintro e wb ⟨rfl, hbb⟩; have HS := Lib.hid (HS.out.step hbb); clear hbb) | (go_at_call 22; refine (HPR.out _ HS.out).mono ?_; rintro e wb ⟨vg, rfl, hovg, hbb⟩; obtain ⟨ga, gn, gc, rfl, gn0, gc0, gm0, gx0, gr0⟩ := hovg.form HPD.out; have HS := Lib.hid (HS.out.step hbb); have HFg := Lib.hid gr0; clear hbb hovg gr0 gx0 gn0) | (go_at_call 13; refine (HSO.out _ _ _ _ HS.out HFg.out).mono ?_; rintro e wb ⟨rfl, hbb⟩; have HS := Lib.hid (HS.out.step hbb); clear hbb))
        go_ret
        exact ⟨rfl, HS.out.2.2.2.1⟩
    | true =>
      have HSU := Lib.hid (HST.out rfl)
      clear HSM HPR HST
      cases H with
      | false =>
        have HSV := Lib.hid (HSU.out rfl)
        clear HSU
        go_wp2_with (first | (go_at_call 6; refine (awake3_c _ (HTB.out _ HS.out)).mono ?_; rintro e wb ⟨rfl, hbb⟩; have HS := Lib.hid (HS.out.step hbb); clear hbb) | (go_at_call 23; refine (HSV.out _ HS.out).mono ?_; rintro e wb ⟨rfl, hbb⟩; have HS := Lib.hid (HS.out.step hbb); clear hbb))
        go_ret
        exact ⟨rfl, HS.out.2.2.2.1⟩
      | true =>
        clear HSU
        go_wp2_with (first | (go_at_call 6; refine (awake3_c _ (HTB.out _ HS.out)).mono ?_; rintro e wb ⟨rfl, hbb⟩; have HS := Lib.hid (HS.out.step hbb); clear hbb))
        go_ret
        exact ⟨rfl, HS.out.2.2.2.1⟩
end Go.Proofs.YtoknjhpdbigbhaaDoor
