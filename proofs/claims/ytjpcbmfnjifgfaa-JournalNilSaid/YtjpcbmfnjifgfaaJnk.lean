/-
  The walk over the statement of a nil journal, a nil disk, records that are too long.
-/
import Derived.Test.YtjpcbmfnjifgfaaJnj
namespace Go.Proofs.Ytjpcbmfnjifgfaa
open Go.Proofs.Ytjpcbmfnjifgfaa.Ev
open Go.RowKit
set_option linter.unusedVariables false
theorem jc_of {w0 W : World} {V : Vl} {m : Mem} {pd pj : Nat × Nat} (h : Stt w0 V m W) (hm : isCells1 (m.get 1) = true) (hd : V 0 = some pd) (hj : V 1 = some pj) : JC pj.1 pd.1 W ∧ pj.1 < W.heap.size := by
  unfold isCells1 at hm
  split at hm
  · rename_i t s r hb
    have hs := of_decide_eq_true hm
    subst hs
    obtain ⟨p, v, h1, h2, h3, h4⟩ := h.cell hb (i := 0) rfl
    obtain ⟨p', v', h1', h2', h3', h4'⟩ := h.cell hb (i := 1) rfl
    rw [hj] at h1 h1'
    cases h1
    cases h1'
    obtain ⟨q, hq, rfl⟩ := h4
    rw [hd] at hq
    cases hq
    obtain rfl : v' = _ := h4'
    exact ⟨⟨h3, h3'⟩, h2⟩
  · cases hm
theorem jnone (f : FuncId) (args : List AV) (vs : List Value) (x : Int) (h : retOf (callE Try.prog jnil_book 1000 60 f args noMem) = some (.lit (.int .i64 x))) (ha : AV.are (fun _ => none) args vs) (W : World) :
    Calls Try.prog f vs.toArray W fun e w' => e = .returned (.int .i64 x) ∧ Below W.heap.size W w' := by
  refine (Stt.run jnil_book (fun _ => rfl) (by kernel_rfl) h (Stt.start W) ha).mono ?_
  rintro e w' ⟨V', v, _, hs, rfl, hv⟩
  exact ⟨by rw [show v = _ from hv], hs.below⟩
set_option maxRecDepth 100000 in
set_option maxHeartbeats 1000000 in
theorem jlong_c (pj g n c : Nat) (hn : 1048568 < n) (w : World) : Calls Try.prog 42 #[.pointer (some ⟨pj, 0, none⟩), .slice (some ⟨g, 0, none⟩) n c] w fun e w' => e = .returned (.int .i64 8) ∧ w = w' := by
  have i0 : ¬ (n : Int) ≤ 1048568 := by omega
  have hfit : ∀ w, Calls Try.prog 71 #[.slice (some ⟨g, 0, none⟩) n c] w fun e w' => e = .returned (.bool false) ∧ w = w' := fun w => by
    go_enter Try.func71, Try.ntmps71
    go_wp2_with fail
    go_ret
    exact ⟨rfl, rfl⟩
  have HF := Lib.hid hfit
  clear hfit
  go_enter Try.func42, Try.ntmps42
  go_wp2_with fail
  refine (HF.out _).mono ?_
  rintro e1 w1 ⟨rfl, rfl⟩
  go_wp2_with fail
  go_ret
  exact ⟨rfl, rfl⟩
set_option maxRecDepth 100000 in
set_option maxHeartbeats 1000000 in
theorem jrewr_c (pj g n c h : Nat) (hn : 1048568 < n) (w : World) (hc : w.cell? ⟨h, 0, none⟩ = some (.slice (some ⟨g, 0, none⟩) n c)) : Calls Try.prog 44 #[.pointer (some ⟨pj, 0, none⟩), .slice (some ⟨h, 0, none⟩) 1 1] w fun e w' => e = .returned (.int .i64 8) ∧ w = w' := by
  have i0 : ¬ (n : Int) ≤ 1048568 := by omega
  have hfit : ∀ w, Calls Try.prog 71 #[.slice (some ⟨g, 0, none⟩) n c] w fun e w' => e = .returned (.bool false) ∧ w = w' := fun w => by
    go_enter Try.func71, Try.ntmps71
    go_wp2_with fail
    go_ret
    exact ⟨rfl, rfl⟩
  have HF := Lib.hid hfit
  clear hfit
  go_enter Try.func44, Try.ntmps44
  go_wp2_with fail
  refine wp_loop_rounds 1 ?_
  rw [rounds_succ]
  go_wp2_with fail
  refine (HF.out _).mono ?_
  rintro e1 w1 ⟨rfl, rfl⟩
  go_wp2_with fail
  go_ret
  exact ⟨rfl, rfl⟩
set_option maxRecDepth 100000 in
set_option maxHeartbeats 4000000 in
theorem jnil_c (a : Option Addr) (len cap : Nat) (w : World) :
    Calls Try.prog 12 #[.slice a len cap] w fun e w' => e = .returned (.bool true) ∧ Below w.heap.size w w' := by
  obtain ⟨i0, hi, hz0, hz1, hz2⟩ := info_parts byteInfo
  have hmix : Try.prog.follows .mixedOrders = true := by kernel_rfl
  have HA1 := Lib.hid (jnone 42 _ [.pointer none, .slice a len cap] 2 (jn1 a len cap) (are_lits [.pointer none, .slice a len cap]))
  have HA2 := Lib.hid (jnone 43 _ [.pointer none] 2 jn2 (are_lits [.pointer none]))
  have HA3 := Lib.hid (jnone 48 _ [.pointer none] 0 jn3 (are_lits [.pointer none]))
  have HA4 := Lib.hid (jnone 44 _ [.pointer none, .slice none 0 0] 2 jn4 (are_lits [.pointer none, .slice none 0 0]))
  have HO1 := Lib.hid (Stt.run jnil_book (fun _ => rfl) hmix jr1 (Stt.start w) (vs := [.pointer none, .string ⟨#[106]⟩]) (are_lits [.pointer none, .string ⟨#[106]⟩]))
  go_enter Try.func12, Try.ntmps12
  go_wp2_with fail
  refine HO1.out.mono ?_
  rintro e1 w1 ⟨V1, v1, hle1, hs1, rfl, hv1⟩
  obtain rfl : v1 = .tuple #[.pointer none, .slice none 0 0, .int .i64 2] := hv1
  have HN2 := Lib.hid (Stt.run jnil_book (fun _ => rfl) hmix jr2 hs1 (vs := [.int .i64 100]) (are_lits [.int .i64 100]))
  clear hs1 hle1 HO1
  go_wp2_with fail
  refine HN2.out.mono ?_
  rintro e2 w2 ⟨V2, v2, hle2, hs2, rfl, hv2⟩
  obtain ⟨_, ⟨x1, _, rfl, ⟨pd, hpd, rfl⟩, ⟨x2, _, rfl, hx2, hx3⟩⟩, rfl⟩ := hv2
  obtain rfl : x2 = .int .i64 0 := hx2
  obtain rfl := hx3
  have HO3 := Lib.hid (Stt.run jnil_book (fun _ => rfl) hmix jr3 hs2 (vs := [.pointer (some ⟨pd.1, 0, none⟩), .string ⟨#[106]⟩]) ⟨_, _, rfl, ⟨pd, hpd, rfl⟩, ⟨_, _, rfl, rfl, rfl⟩⟩)
  have HPD := Lib.hid hpd
  clear hs2 hle2 HN2 hpd
  go_wp2_with fail
  refine HO3.out.mono ?_
  rintro e3 w3 ⟨V3, v3, hle3, hs3, rfl, hv3⟩
  obtain ⟨_, ⟨x1, _, rfl, ⟨pj, hpj, rfl⟩, ⟨x2, _, rfl, hx2, ⟨x3, _, rfl, hx3, hx4⟩⟩⟩, rfl⟩ := hv3
  obtain rfl : x2 = .slice none 0 0 := hx2
  obtain rfl : x3 = .int .i64 0 := hx3
  obtain rfl := hx4
  have HS3 := Lib.hid hs3
  have HD3 := Lib.hid (hle3 _ _ HPD.out)
  have HJ3 := Lib.hid hpj
  clear hs3 hle3 HO3 HPD hpj
  go_wp2_with (at_make; refine wpList_make_full _ rfl _ _ 30 rfl w3.heap.size 5 i0 (.int .u8 0) 1 Try.underlying30 hi hz0 hz1 .i64 .i64 _ _ 1048569 rfl rfl rfl rfl (by rw [hz2]; omega) (by unfold maxLen; omega) (Nat.le_refl _) ?_)
  intro w4 hown0 hg0
  have hb4 : Below w3.heap.size w3 w4 := (Below.refl _ _).grown hg0 (Nat.le_refl _) (by simp)
  obtain ⟨zs, hzl, hzb, hown⟩ := make_own hown0
  have HS4 := Lib.hid (HS3.out.keep hb4)
  have HW4 := Lib.hid hown
  have HZL := Lib.hid hzl
  have HZB := Lib.hid hzb
  clear hown0 hg0 hb4 hzl hzb hown HS3
  obtain ⟨g, hg⟩ : ∃ g, g = w3.heap.size := ⟨_, rfl⟩
  rw [← hg] at HW4 ⊢
  clear hg
  go_wp2_with fail
  refine (awake10_c _).mono ?_
  rintro e5 w5 ⟨rfl, hb5⟩
  have HS5 := Lib.hid (HS4.out.keep hb5)
  have HW5 := Lib.hid (HW4.out.keep hb5)
  clear hb5 HS4 HW4
  go_wp2_with fail
  refine (HA1.out _).mono ?_
  rintro e6 w6 ⟨rfl, hb6⟩
  have HS6 := Lib.hid (HS5.out.keep hb6)
  have HW6 := Lib.hid (HW5.out.keep hb6)
  clear hb6 HS5 HW5
  go_wp2_with fail
  refine (HA2.out _).mono ?_
  rintro e7 w7 ⟨rfl, hb7⟩
  have HS7 := Lib.hid (HS6.out.keep hb7)
  have HW7 := Lib.hid (HW6.out.keep hb7)
  clear hb7 HS6 HW6
  go_wp2_with fail
  refine (HA3.out _).mono ?_
  rintro e8 w8 ⟨rfl, hb8⟩
  have HS8 := Lib.hid (HS7.out.keep hb8)
  have HW8 := Lib.hid (HW7.out.keep hb8)
  clear hb8 HS7 HW7
  go_wp2_with fail
  refine (HA4.out _).mono ?_
  rintro e9 w9 ⟨rfl, hb9⟩
  have HS9 := Lib.hid (HS8.out.keep hb9)
  have HW9 := Lib.hid (HW8.out.keep hb9)
  clear hb9 HS8 HW8
  have HL := Lib.hid (jlong_c pj.1 g 1048569 1048569 (by omega))
  go_wp2_with fail
  refine (HL.out _).mono ?_
  rintro e10 w10 ⟨rfl, rfl⟩
  have HB10 := Lib.hid (show Below w9.heap.size w9 (w9.alloc (.cells #[.slice (some ⟨g, 0, none⟩) 1048569 1048569] 30)) from (Below.refl _ _).alloc (Nat.le_refl _) _)
  have HRW := Lib.hid (jrewr_c pj.1 g 1048569 1048569 w9.heap.size (by omega) (w9.alloc (.cells #[.slice (some ⟨g, 0, none⟩) 1048569 1048569] 30)) (by rw [cell_of_row _ _ _ _ _ _ (heap_alloc_new w9 _)]; rfl))
  go_wp2_with fail
  refine HRW.out.mono ?_
  rintro e11 w11 ⟨rfl, hw11⟩
  have HS11 := Lib.hid (show Stt w V3 jm3 w11 from by rw [← hw11]; exact HS9.out.keep HB10.out)
  have HW11 := Lib.hid (show Own w11 g (.slice (some ⟨g, 0, none⟩) 1048569 1048569) zs from by rw [← hw11]; exact HW9.out.keep HB10.out)
  clear hw11 HB10 HRW HL HS9 HW9
  have HRD : Hid (Rd w11 (some ⟨g, 1, none⟩) 1048568 (zs.drop 1)) := by
    obtain ⟨a', c', hv, _, _, hrd⟩ := HW11.out.rd HZB.out
    rw [HZL.out] at hrd hv
    have e := (Value.slice.inj hv).1
    subst e
    have h := hrd.drop 1
    rw [Nat.zero_add] at h
    exact Lib.hid h
  have HJ11 := Lib.hid (jc_of HS11.out jc3 HD3.out HJ3.out)
  have HAF := Lib.hid (jappend_full pj.1 pd.1 g 1 1048568 1048568 (zs.drop 1) w11 HRD.out (Nat.le_refl _) HJ11.out.1 HJ11.out.2 (fun W => ∃ V a cp, Stt w V (jm7 a cp) W ∧ V 1 = some pj) (fun W a L cp hW hL => by
    have hL' : L = 1048576 := by omega
    subst hL'
    refine (Stt.run jnil_book (fun _ => rfl) hmix (jr7 a cp) (HS11.out.keep hW) (vs := [.pointer (some ⟨pd.1, 0, none⟩), .string ⟨#[106]⟩, .slice a 1048576 cp]) ⟨_, _, rfl, ⟨pd, HD3.out, rfl⟩, ⟨_, _, rfl, rfl, ⟨_, _, rfl, rfl, rfl⟩⟩⟩).mono ?_
    rintro e w' ⟨V', v, hle, hs, rfl, hv⟩
    exact ⟨by rw [show v = _ from hv], (jc_of hs (jc7 a cp) (hle _ _ HD3.out) (hle _ _ HJ3.out)).1, V', a, cp, hs, hle _ _ HJ3.out⟩))
  clear HRD HJ11 HW11 HS11
  go_wp2_with fail
  refine HAF.out.mono ?_
  rintro e12 w12 ⟨rfl, V12, a12, cp12, hs12, hj12⟩
  have HSZ := Lib.hid (Stt.run jnil_book (fun _ => rfl) hmix (jr8 a12 cp12) hs12 (vs := [.pointer (some ⟨pj.1, 0, none⟩)]) ⟨_, _, rfl, ⟨pj, hj12, rfl⟩, rfl⟩)
  clear hs12 hj12 HAF
  go_wp2_with fail
  refine HSZ.out.mono ?_
  rintro e13 w13 ⟨V13, v13, _, hs13, rfl, hv13⟩
  obtain rfl : v13 = .int .i64 0 := hv13
  have HB := Lib.hid hs13.below
  clear hs13 HSZ
  go_wp2_with fail
  go_ret
  exact ⟨rfl, HB.out⟩
end Go.Proofs.Ytjpcbmfnjifgfaa
