/-
  Proved: OctetTexts answers true for all bytes, bytes behind and bounds, where the arguments hold together at most 1048576 values (the second form).
-/
import Derived.Test.YtnnofcfagdbafaaFrame
import Derived.JoinedCond
import Derived.Test.YtnnofcfagdbafaaBulk
import Derived.Test.YtnnofcfagdbafaaAwk
import Derived.Test.YtnnofcfagdbafaaCnt
import Derived.Test.YtnnofcfagdbafaaTwin
import Derived.Test.YtnnofcfagdbafaaSame
import Derived.Test.YtnnofcfagdbafaaTxt
import Derived.Test.YtnnofcfagdbafaaTxr
namespace Go.Proofs.Ytnnofcfagdbafaa.lOctetTexts
open Go.ChangeShapes Go.WideShapes Go.ChangeAt Go.RowKit
open Go.ChangeMaps (open_string shut_string)
set_option linter.unusedVariables false

theorem same_self (a1 a2 : Option Addr) (len1 cap1 len2 cap2 : Nat) (xs : List Nat) (w : World) (h1 : Rd w a1 len1 xs) (h2 : Rd w a2 len2 xs) (hm : len1 ≤ 9223372036854775807) :
    Calls Try.prog 19 #[.slice a1 len1 cap1, .slice a2 len2 cap2] w fun e w' => e = .returned (.bool true) ∧ Below w.heap.size w w' :=
  (same_c a1 a2 len1 cap1 len2 cap2 xs xs w h1 h2 hm).mono fun e w' ⟨h, n, hw⟩ => by
    subst hw
    exact ⟨by rw [h]; simp, below_drewN' _ _ _⟩
def RtR (B : Nat) (w : World) (P : List Nat) (u e : Nat) (en : Ending) (w' : World) : Prop :=
  ∃ a L cap, en = .returned (.tuple #[.slice a L cap, .int .i64 (u : Int), .int .i64 (e : Int)]) ∧ P.length = L ∧ L ≤ cap ∧ cap ≤ 9223372036854775807 ∧ Rd w' a L P ∧ Below B w w'
theorem rtr {B : Nat} {w : World} {r : List Nat × Nat × Nat} {P : List Nat} {u e : Nat} (hr : r = (P, u, e)) (hP : ∀ z ∈ P, z < 256) (en : Ending) (w' : World) (h : RtRet B w r en w') : RtR B w P u e en w' := by
  subst hr
  obtain ⟨v, rfl, ho, hb⟩ := h
  obtain ⟨a, L, cap, rfl, h1, h2, h3, _, h5, _⟩ := ho.form hP
  exact ⟨a, L, cap, rfl, h1, h2, h3, h5, hb⟩
theorem rt_byte (zs : List Nat) (most : Int) (hz : ∀ z ∈ zs, z < 256) : ∀ z ∈ (rt zs most).1, z < 256 := by
  unfold rt
  split
  · simp
  · split
    · simp
    · split
      · simp
      · intro z hm
        exact hz z (List.mem_of_mem_drop (List.mem_of_mem_take hm))
/-- a text is read back, whatever stands behind it -/
theorem rt_back (zs ys : List Nat) (len : Nat) (hl : zs.length = len) (h : len < 18446744073709551616) : rt ((Cntm.cnt len ++ zs) ++ ys) (len : Int) = (zs, (Cntm.cnt len ++ zs).length, 0) := by
  have h1 : Cntm.rd 0 0 ((Cntm.cnt len ++ zs) ++ ys) = (len, (Cntm.cnt len).length, 0) := by
    have := Cntm.rd_cnt len 0 0 (zs ++ ys) (by omega) (by omega)
    rw [List.append_assoc]
    simpa using this
  rw [rt_ok h1 (by omega) (by simp; omega)]
  rw [List.append_assoc, List.drop_left, List.take_left' hl]
  simp [hl]
theorem rt_less (zs : List Nat) (len : Nat) (hl : zs.length = len) (h : len < 18446744073709551616) : rt (Cntm.cnt len ++ zs) ((len : Int) - 1) = ([], 0, 8) := by
  have h1 : Cntm.rd 0 0 (Cntm.cnt len ++ zs) = (len, (Cntm.cnt len).length, 0) := by
    have := Cntm.rd_cnt len 0 0 zs (by omega) (by omega)
    simpa using this
  exact rt_lim h1 (.inr (by omega))

set_option maxRecDepth 100000 in
set_option maxHeartbeats 3200000 in
theorem walk (a0 : Option Addr) (len0 cap0 : Nat) (z0 : List Nat) (a1 : Option Addr) (len1 cap1 : Nat) (z1 : List Nat) (a2 : Int) (w : World) (r0 : BytesIn w a0 len0 cap0 z0) (u0 : cap0 ≤ 1048576) (r1 : BytesIn w a1 len1 cap1 z1) (u1 : cap1 ≤ 1048576) (r2 : (Lit.int .i64 a2).wf = true) :
    Calls Try.prog 8 #[.slice a0 len0 cap0, .slice a1 len1 cap1, .int .i64 a2] w fun e w' => e = .returned (.bool true) ∧ Below w.heap.size w w' := by
  obtain ⟨hr, hnil0, hlc, hcap⟩ := r0
  obtain ⟨hr1, hnil1, hlc1, hcap1⟩ := r1
  have hmo : -9223372036854775808 ≤ a2 ∧ a2 ≤ 9223372036854775807 := by simpa [Lit.wf, IntKind.min, IntKind.max, IntKind.signed, IntKind.bits] using r2
  have hz0 := hr.2.1
  have hl0 := hr.1
  have hl1 := hr1.1
  obtain ⟨P, u, e, hrt⟩ : ∃ P u e, rt z0 a2 = (P, u, e) := ⟨_, _, _, rfl⟩
  have hP : ∀ z ∈ P, z < 256 := by have := rt_byte z0 a2 hz0; rw [hrt] at this; exact this
  have hT : ∀ z ∈ Cntm.cnt len0 ++ z0, z < 256 := by
    intro z hm
    rcases List.mem_append.1 hm with h | h
    · exact Cntm.cnt_byte _ z h
    · exact hz0 z h
  have h10 := Cntm.cnt_len10 len0 (by omega)
  have hTl : (Cntm.cnt len0 ++ z0).length ≤ 1048586 := by rw [List.length_append]; omega
  have HB := Lib.hid (rt_back z0 z1 len0 hl0 (by omega))
  have HL := Lib.hid (rt_less z0 len0 hl0 (by omega))
  obtain ⟨T, hTe⟩ : ∃ T, T = Cntm.cnt len0 ++ z0 := ⟨_, rfl⟩
  have C1 := Lib.hid (fun W (h : Rd W a0 len0 z0) => (readText_c a0 len0 cap0 z0 a2 W h hlc (by omega) (by omega) hmo.1 hmo.2).mono (rtr hrt hP))
  have C2 := Lib.hid (fun W (h : Rd W a0 len0 z0) => (refReadText_c a0 len0 cap0 z0 a2 W h hlc (by omega) (by omega) hmo.1 hmo.2).mono (rtr hrt hP))
  have C3 := Lib.hid (fun W (h : Rd W a0 len0 z0) => (text_c a0 len0 cap0 z0 W h hnil0 (by omega)).mono (RetB.form hT))
  have C4 := Lib.hid (fun W (h : Rd W a0 len0 z0) => (refText_c a0 len0 cap0 z0 W h (by omega)).mono (RetB.form hT))
  have HZ0 := Lib.hid hz0
  have HT := Lib.hid hT
  rw [← hTe] at HB HL C3 C4 HT hTl
  clear hTe hT hP hrt hz0 h10 r2
  go_enter Try.func8, Try.ntmps8
  go_wp2_with fail
  refine (C1.out w hr).mono ?_
  rintro en w1 ⟨x1, L1, c1, rfl, hL1, hLc1, hcm1, hrc1, hb1⟩
  have hr' := hr.below hb1
  go_wp2_with fail
  refine (C2.out w1 hr').mono ?_
  rintro en w2 ⟨x2, L2, c2, rfl, hL2, hLc2, hcm2, hrc2, hb2⟩
  have hbb := hb1.trans (hb2.mono hb1.size)
  have hr'' := hr.below hbb
  have hrc1' := hrc1.below hb2
  go_wp2_with fail
  refine (C3.out w2 hr'').mono ?_
  rintro en w3 ⟨x3, L3, c3, rfl, hL3, hLc3, hcm3, hnc3, hrc3, hoc3, hb3⟩
  have hbc := hbb.trans (hb3.mono hbb.size)
  go_wp2_with fail
  refine (awake_c w3).mono ?_
  rintro en w4 ⟨rfl, hb4⟩
  have hb34 := hb3.trans (hb4.mono hb3.size)
  have g1 := hrc1'.below hb34
  have g2 := hrc2.below hb34
  have g3 := hrc3.below hb4
  have hbd := hbc.trans (hb4.mono hbc.size)
  clear hrc1 hrc1' hrc2 hrc3 hoc3 hnc3 hr' hr'' hb1 hb2 hbb hb3 hb34 hbc hb4
  go_wp2_with fail
  refine (same_self x1 x2 L1 c1 L2 c2 P w4 g1 g2 (by omega)).mono ?_
  rintro en w5 ⟨rfl, hb5⟩
  have g3' := g3.below hb5
  have hbe := hbd.trans (hb5.mono hbd.size)
  have gr := hr.below hbe
  clear g1 g2 g3 hb5 hbd hL1 hL2 hLc1 hLc2
  go_wp2_with fail
  refine (C4.out w5 gr).mono ?_
  rintro en w6 ⟨x6, L6, c6, rfl, hL6, hLc6, hcm6, hnc6, hrc6, hoc6, hb6⟩
  have g4 := g3'.below hb6
  have hbf := hbe.trans (hb6.mono hbe.size)
  clear g3' gr hoc6 hnc6 hbe hb6
  go_wp2_with fail
  refine (same_self x3 x6 L3 c3 L6 c6 T w6 g4 hrc6 (by omega)).mono ?_
  rintro en w7 ⟨rfl, hb7⟩
  have g5 := g4.below hb7
  have hbg := hbf.trans (hb7.mono hbf.size)
  clear g4 hrc6 hbf hb7 hL6 hLc6 hcm6
  go_wp2_with fail
  refine ((twin_c x3 L3 c3 T w7 g5 (by omega)).mono (RetB.form HT.out)).mono ?_
  rintro en w8 ⟨x8, L8, c8, rfl, hL8, hLc8, hcm8, hnc8, hrc8, hoc8, hb8⟩
  have g6 := g5.below hb8
  have hbh := hbg.trans (hb8.mono hbg.size)
  have gb := hr1.below hbh
  clear hrc8 g6
  go_wp2_with (at_builtin; refine wpList_catR rfl _ _ rfl _ _ _ z1 rfl hoc8 (by have := hb8.size; exact this) a1 len1 cap1 rfl gb hnil1 HT.out (by omega) ?_)
  intro x9 L9 c9 w9 hL9 hLc9 hcm9 hnc9 hrc9 hoc9 hb9
  have hb89 := hb8.trans hb9
  have g7 := g5.below hb89
  have hbi := hbg.trans (hb89.mono hbg.size)
  clear g5 hbg hb8 hb9 hb89 hbh gb hoc8 hoc9 hnc8 hnc9 hL8 hLc8 hcm8
  have hL9b : L9 ≤ 140737488355328 := by first | omega | (rw [← hL9, List.length_append]; omega)
  go_wp2_with fail
  refine ((readText_c x9 L9 c9 (T ++ z1) (len0 : Int) w9 hrc9 hLc9 hL9b hcm9 (by omega) (by omega)).mono (rtr HB.out HZ0.out)).mono ?_
  rintro en w10 ⟨x10, L10, c10, rfl, hL10, hLc10, hcm10, hrc10, hb10⟩
  have g8 := g7.below hb10
  have hbj := hbi.trans (hb10.mono hbi.size)
  clear g7 hrc9 hbi hb10 hL9 hLc9 hcm9 hL9b
  go_wp2_with fail
  refine ((readText_c x3 L3 c3 T ((len0 : Int) - 1) w10 g8 hLc3 (by omega) hcm3 (by omega) (by omega)).mono (rtr HL.out (by simp))).mono ?_
  rintro en w11 ⟨x11, L11, c11, rfl, hL11, hLc11, hcm11, hrc11, hb11⟩
  have g9 := hrc10.below hb11
  have hbk := hbj.trans (hb11.mono hbj.size)
  have gr := hr.below hbk
  clear g8 hrc10 hbj hb11 hrc11 hL11 hLc11 hcm11 hr
  go_wp2_with fail
  refine (same_self x10 a0 L10 c10 len0 cap0 z0 w11 g9 gr (by omega)).mono ?_
  rintro en w12 ⟨rfl, hb12⟩
  have hfin := hbk.trans (hb12.mono hbk.size)
  go_wp2_with fail
  go_ret
  exact ⟨rfl, hfin⟩


set_option maxRecDepth 100000 in
theorem contract (H : Type) (enc : TypeId × Value → H) (W : World) (base : Nat) (args : Array Value) (ds gs : List (DataW H)) (before : List MemPlace)
    (hval0 : ∀ (j : Nat) t v, Try.f8.params[j]? = some t → args[j]? = some v → Value.okWide Try.prog W .any base t v)
    (hW : DataW.Whole enc Try.prog Try.f8.params.toList Rows.octetTextsSpec.vars false W args.toList ds gs before) (hk : Rows.uptoSmall H (ds ++ gs) = true) :
    Calls Try.prog 8 args W fun e W' => ∃ v, e = .returned v ∧ Rows.octetTextsSpec.post enc Try.prog Try.f8 false true false false W args v W' := by
  have hval : ∀ (j : Nat) t v, Try.f8.params[j]? = some t → args[j]? = some v → Value.okWide Try.prog W .any base t v := hval0
  have hW' := hW
  obtain ⟨p, q, hA0, hV, rfl, hfz, hnd⟩ := hW
  have hA : DataW.TrodAll enc Try.prog W 0 (fun _ => true) true Try.f8.params.toList args.toList ds p := hA0
  rw [Try.params8] at hA hval
  obtain ⟨v0, vs0, d0, ds0, p0, q0, hargs, rfl, rfl, h0, s0⟩ := trodAll_cons hA
  obtain ⟨v1, vs1, d1, ds1, p1, q1, rfl, rfl, rfl, h1, s1⟩ := trodAll_cons s0
  obtain ⟨v2, vs2, d2, ds2, p2, q2, rfl, rfl, rfl, h2, s2⟩ := trodAll_cons s1
  obtain ⟨rfl, rfl, rfl⟩ := trodAll_nil s2
  obtain rfl : args = #[v0, v1, v2] := by cases args; simp_all
  obtain ⟨rfl, rfl⟩ := trodVars_none hV
  obtain ⟨a0, len0, cap0, rfl⟩ := okWide_slice Try.underlying27 (hval 0 27 v0 rfl rfl)
  have k0 := h0
  have lt0 : ∀ x ∈ p0, x.block < W.heap.size := by obtain ⟨m, hm⟩ := k0; exact DataW.trod_lt m _ _ _ hm
  obtain ⟨z0, r0, u0⟩ : ∃ zs, BytesIn W a0 len0 cap0 zs ∧ cap0 ≤ 1048576 := by
    obtain ⟨fuel, hf⟩ := h0
    rcases open_ints Try.underlying27 Try.underlying5 (by kernel_rfl) hf with ⟨hcs, _⟩ | ⟨x, l, c, zs, hcs, _, hl, hm, hz, hx, hcell, hwz⟩
    · simp [Value.cells] at hcs
      obtain ⟨rfl, rfl, rfl⟩ := hcs
      exact ⟨[], bytesIn_nil W, by omega⟩
    · simp [Value.cells] at hcs
      obtain ⟨rfl, rfl, rfl⟩ := hcs
      obtain ⟨hd, _⟩ := Prod.mk.inj hx
      simp only [if_true] at hz
      have hs := bulk_slice (elems := lits .u8 (zs.take len0)) (spare := lits .u8 (zs.drop len0)) hk (by rw [← hd]; simp)
      simp only [lits, List.length_map, List.length_take, List.length_drop] at hs
      exact ⟨_, bytesIn_some hl hz (by omega) hcell hwz, by omega⟩
  obtain ⟨a1, len1, cap1, rfl⟩ := okWide_slice Try.underlying27 (hval 1 27 v1 rfl rfl)
  have k1 := h1
  have lt1 : ∀ x ∈ p1, x.block < W.heap.size := by obtain ⟨m, hm⟩ := k1; exact DataW.trod_lt m _ _ _ hm
  obtain ⟨z1, r1, u1⟩ : ∃ zs, BytesIn W a1 len1 cap1 zs ∧ cap1 ≤ 1048576 := by
    obtain ⟨fuel, hf⟩ := h1
    rcases open_ints Try.underlying27 Try.underlying5 (by kernel_rfl) hf with ⟨hcs, _⟩ | ⟨x, l, c, zs, hcs, _, hl, hm, hz, hx, hcell, hwz⟩
    · simp [Value.cells] at hcs
      obtain ⟨rfl, rfl, rfl⟩ := hcs
      exact ⟨[], bytesIn_nil W, by omega⟩
    · simp [Value.cells] at hcs
      obtain ⟨rfl, rfl, rfl⟩ := hcs
      obtain ⟨hd, _⟩ := Prod.mk.inj hx
      simp only [if_true] at hz
      have hs := bulk_slice (elems := lits .u8 (zs.take len1)) (spare := lits .u8 (zs.drop len1)) hk (by rw [← hd]; simp)
      simp only [lits, List.length_map, List.length_take, List.length_drop] at hs
      exact ⟨_, bytesIn_some hl hz (by omega) hcell hwz, by omega⟩
  obtain ⟨a2, rfl, rfl, rfl, r2⟩ := open_int Try.underlying3 (hval 2 3 v2 rfl rfl) h2
  clear hA0 hval0
  refine (walk a0 len0 cap0 z0 a1 len1 cap1 z1 a2 W r0 u0 r1 u1 r2).mono fun e W' ⟨he, bel⟩ => ?_
  subst he
  exact ⟨_, rfl, _, _, _, [], _, [], hW', trodAll_mk1 (shut_bool Try.underlying4 _), (trodAll_cons_mk (Below.trod laidOut (by kernel_rfl) (of_decide_eq_true (by kernel_rfl)) k0 bel lt0) (trodAll_cons_mk (Below.trod laidOut (by kernel_rfl) (of_decide_eq_true (by kernel_rfl)) k1 bel lt1) (trodAll_cons_mk (shut_int Try.underlying3 r2) trodAll_mk0))), rfl, bel.frame _, fun h => by cases h⟩


set_option maxRecDepth 100000 in
theorem lifted (os : Os) (started : os.Started) (H : Type) (enc : TypeId × Value → H) (F : Stop.Interp) :
    ReturnsInHanded {} Try.checked os 8 .any ((Rows.OpenSpec.upto Rows.octetTextsSpec).pre6 enc Try.prog Try.f8 Rows.octetTextsUptoRow.domain false) (((Rows.OpenSpec.upto Rows.octetTextsSpec).at F).post enc Try.prog Try.f8 false true false false) := by
  refine returnsInHanded_of_cond (C := Try.checked) (s := Rows.OpenSpec.upto Rows.octetTextsSpec) (k := Rows.uptoSmall) rfl own started (by kernel_rfl) Try.func8
    (OpenSpec.witness (enc := enc) (C := Try.checked) (s := Rows.OpenSpec.upto Rows.octetTextsSpec) (k := Rows.uptoSmall) rfl false ⟨#[], #[.slice none 0 0, .slice none 0 0, .int .i64 0], []⟩ 8 (by kernel_rfl) (by kernel_rfl) (by kernel_rfl)
      (x := ([.nil, .nil, .lit (.int .i64 0)], [], [])) (by kernel_rfl) rfl (by kernel_rfl)) ?_
  intro W base args ds gs before hval hW _ hk _
  exact contract H enc W base args ds gs before hval hW hk

theorem over : Rows.octetTextsUptoRow.holds Try.pinned (Rows.OpenSpec.upto Rows.octetTextsSpec) :=
  OpenClaim.holds_of_cond 8 Try.f8 rfl rfl rfl rfl rfl rfl rfl ⟨rfl, rfl, rfl, rfl, rfl⟩ rfl rfl rfl rfl rfl (by kernel_rfl) Try.func8 (by kernel_rfl)
    (of_decide_eq_true (by kernel_rfl)) (by unfold Func.isWrapper; first | (rw [if_pos (by decide +kernel)]; kernel_rfl) | (rw [if_neg (by decide +kernel)]; exact ⟨rfl, rfl⟩))
    (fun os started H enc _ F => lifted os started H enc F)

/-- THE STATEMENT -/
theorem proved : Rows.OctetTextsUptoSaid := over
end Go.Proofs.Ytnnofcfagdbafaa.lOctetTexts
