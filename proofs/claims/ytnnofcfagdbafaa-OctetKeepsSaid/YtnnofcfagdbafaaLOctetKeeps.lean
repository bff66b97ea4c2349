/-
  Proved: for every list of bytes, OctetKeeps answers true: what is handed in is not changed, and what is told is new memory. No condition.
-/
import Derived.Test.YtnnofcfagdbafaaFrame
import Derived.Test.YtnnofcfagdbafaaAwk
import Derived.Test.YtnnofcfagdbafaaTwin
import Derived.Test.YtnnofcfagdbafaaSame
import Derived.Test.YtnnofcfagdbafaaTxt
namespace Go.Proofs.Ytnnofcfagdbafaa.lOctetKeeps
open Go.ChangeShapes Go.WideShapes Go.ChangeAt Go.RowKit
open Go.ChangeMaps (open_string shut_string)
set_option linter.unusedVariables false

theorem same_self (a1 a2 : Option Addr) (len1 cap1 len2 cap2 : Nat) (xs : List Nat) (w : World) (h1 : Rd w a1 len1 xs) (h2 : Rd w a2 len2 xs) (hm : len1 ≤ 9223372036854775807) :
    Calls Try.prog 19 #[.slice a1 len1 cap1, .slice a2 len2 cap2] w fun e w' => e = .returned (.bool true) ∧ Below w.heap.size w w' :=
  (same_c a1 a2 len1 cap1 len2 cap2 xs xs w h1 h2 hm).mono fun e w' ⟨h, n, hw⟩ => by
    subst hw
    exact ⟨by rw [h]; simp, below_drewN' _ _ _⟩
/-- bytes in another block than the one that may have been written -/
theorem Rd_grown {w w' : World} {g : Option Nat} {a : Option Addr} {len : Nat} {zs : List Nat} (h : Rd w a len zs) (hg : w.grownBy w' g) (hne : ∀ b off, a = some ⟨b, off, none⟩ → g ≠ some b) : Rd w' a len zs := by
  obtain ⟨h1, h2, h3⟩ := h
  refine ⟨h1, h2, ?_⟩
  rcases h3 with h0 | ⟨b, off, rfl, hb, hc⟩
  · exact .inl h0
  · refine .inr ⟨b, off, rfl, Nat.lt_of_lt_of_le hb hg.size, fun i hi => ?_⟩
    have := World.cell?_of_block (w := w) (w' := w') (a := ⟨b, off + i, none⟩) (hg.block b hb (fun e => hne b off rfl e.symm))
    rw [this]
    exact hc i hi
theorem grown_trans {a b c : World} {g : Option Nat} (h : a.grownBy b g) (k : b.grownBy c g) : a.grownBy c g :=
  ⟨k.os.trans h.os, k.tape.trans h.tape, k.output.trans h.output, Nat.le_trans h.size k.size, fun i hi hn => (k.block i (Nat.lt_of_lt_of_le hi h.size) hn).trans (h.block i hi hn)⟩
theorem grown_refl (a : World) (g : Option Nat) : a.grownBy a g := ⟨rfl, rfl, rfl, Nat.le_refl _, fun _ _ _ => rfl⟩
/-- a row of bytes whose content does not matter -/
def Some8 (w : World) (B g L c : Nat) : Prop := ∃ xs, w.ownsRow B 5 1 (.slice (some ⟨g, 0, none⟩) L c) L xs ∧ ∀ j, j < L → ∃ n : Int, xs[j]? = some (.int .u8 n)
theorem Some8.cell {w : World} {B g L c : Nat} (h : Some8 w B g L c) (j : Nat) (hj : j < L) : ∃ n : Int, w.cell? ⟨g, j, none⟩ = some (.int .u8 n) := by
  obtain ⟨xs, ho, hx⟩ := h
  obtain ⟨n, hn⟩ := hx j hj
  exact ⟨n, by rw [ho.cellAt j (by omega)]; exact hn⟩
theorem Some8.free {w : World} {B g L c : Nat} (h : Some8 w B g L c) (j : Nat) : w.frozen? ⟨g, j, none⟩ = false := by
  obtain ⟨xs, ho, _⟩ := h
  exact ho.frozenAt j
theorem Some8.store {w : World} {B g L c : Nat} (h : Some8 w B g L c) (j : Nat) (n : Int) : Some8 (w.setCell ⟨g, j, none⟩ (.int .u8 n)) B g L c ∧ w.grownBy (w.setCell ⟨g, j, none⟩ (.int .u8 n)) (some g) := by
  obtain ⟨xs, ho, hx⟩ := h
  obtain ⟨h1, h2⟩ := ho.stored j (.int .u8 n)
  refine ⟨⟨_, h1, fun i hi => ?_⟩, h2⟩
  obtain ⟨m, hm⟩ := hx i hi
  rw [List.getElem?_set]
  split
  · refine ⟨n, ?_⟩
    have := (List.getElem?_eq_some_iff.1 hm).1
    rw [if_pos (by omega)]
  · exact ⟨m, hm⟩
theorem some8_of {w : World} {B L c : Nat} {a : Option Addr} {zs : List Nat} (h : Own w B (.slice a L c) zs) (hl : zs.length = L) : (a = none ∧ L = 0) ∨ ∃ g, a = some ⟨g, 0, none⟩ ∧ B ≤ g ∧ g < w.heap.size ∧ Some8 w B g L c := by
  unfold Own at h
  rw [hl] at h
  have h' := h
  rcases h.2 with ⟨hv, h0⟩ | ⟨g, cp, cur, hv, hg, hh, _⟩
  · simp only [Value.slice.injEq] at hv
    exact .inl ⟨hv.1, h0⟩
  · simp only [Value.slice.injEq] at hv
    obtain ⟨rfl, _, _⟩ := hv
    exact .inr ⟨g, rfl, hg, (Array.getElem?_eq_some_iff.1 hh).1, _, h', fun j hj => ⟨_, cellsOf_get zs j (by omega)⟩⟩
theorem Some8.below {w w' : World} {B g L c : Nat} (h : Some8 w B g L c) (hg : g < w.heap.size) (hb : Below w.heap.size w w') : Some8 w' B g L c := by
  obtain ⟨xs, ⟨h1, h2⟩, hx⟩ := h
  refine ⟨xs, ⟨h1, ?_⟩, hx⟩
  rcases h2 with h2 | ⟨g', cap, cur, hv, hbg, hh, rest⟩
  · exact .inl h2
  · simp only [Value.slice.injEq, Option.some.injEq, Addr.mk.injEq, and_true] at hv
    obtain ⟨⟨rfl, _⟩, _, rfl⟩ := hv
    exact .inr ⟨g, c, cur, rfl, hbg, by rw [hb.block g hg]; exact hh, rest⟩
/-- bytes that were there before block g came are not touched by writes to it -/
theorem Rd_far {w0 w w' : World} {g : Nat} {a : Option Addr} {len : Nat} {zs : List Nat} (h0 : Rd w0 a len zs) (hlt : w0.heap.size ≤ g) (h : Rd w a len zs) (hg : w.grownBy w' (some g)) : Rd w' a len zs := by
  by_cases hl : len = 0
  · exact ⟨h.1, h.2.1, .inl hl⟩
  · refine Rd_grown h hg fun b off ha => ?_
    rcases h0.2.2 with h3 | ⟨b', off', ha', hb', _⟩
    · exact absurd h3 hl
    · rw [ha] at ha'
      simp only [Option.some.injEq, Addr.mk.injEq, and_true] at ha'
      intro e
      simp only [Option.some.injEq] at e
      omega
theorem below_grown {B g : Nat} {w w1 w2 : World} (h : Below B w w1) (hg : w1.grownBy w2 (some g)) (hB : B ≤ w1.heap.size) (hg2 : B ≤ g) : Below B w w2 :=
  h.grown hg hB fun k hk => by simp only [Option.some.injEq] at hk; omega
def RtO (B : Nat) (w : World) (P : List Nat) (u e : Nat) (en : Ending) (w' : World) : Prop :=
  ∃ a L cap, en = .returned (.tuple #[.slice a L cap, .int .i64 (u : Int), .int .i64 (e : Int)]) ∧ P.length = L ∧ L ≤ cap ∧ cap ≤ 9223372036854775807 ∧ Rd w' a L P ∧ Own w' B (.slice a L cap) P ∧ Below B w w'
theorem rto {B : Nat} {w : World} {r : List Nat × Nat × Nat} {P : List Nat} {u e : Nat} (hr : r = (P, u, e)) (hP : ∀ z ∈ P, z < 256) (en : Ending) (w' : World) (h : RtRet B w r en w') : RtO B w P u e en w' := by
  subst hr
  obtain ⟨v, rfl, ho, hb⟩ := h
  obtain ⟨a, L, cap, rfl, h1, h2, h3, _, h5, h6⟩ := ho.form hP
  exact ⟨a, L, cap, rfl, h1, h2, h3, h5, h6, hb⟩
theorem rt_byte (zs : List Nat) (most : Int) (hz : ∀ z ∈ zs, z < 256) : ∀ z ∈ (rt zs most).1, z < 256 := by
  unfold rt
  split
  · simp
  · split
    · simp
    · split
      · simp
      · intro z hm
        exact hz z (List.mem_of_mem_drop (List.mem_of_mem_take hm))
theorem rt_back (zs : List Nat) (len : Nat) (hl : zs.length = len) (h : len < 18446744073709551616) : rt (Cntm.cnt len ++ zs) (len : Int) = (zs, (Cntm.cnt len ++ zs).length, 0) := by
  have h1 : Cntm.rd 0 0 (Cntm.cnt len ++ zs) = (len, (Cntm.cnt len).length, 0) := by
    have := Cntm.rd_cnt len 0 0 zs (by omega) (by omega)
    simpa using this
  rw [rt_ok h1 (by omega) (by simp; omega)]
  rw [List.drop_left, List.take_of_length_le (by omega)]
  simp [hl]

set_option maxRecDepth 100000 in
set_option maxHeartbeats 3200000 in
theorem walk (a0 : Option Addr) (len0 cap0 : Nat) (z0 : List Nat) (w : World) (r0 : BytesIn w a0 len0 cap0 z0) :
    Calls Try.prog 12 #[.slice a0 len0 cap0] w fun e w' => e = .returned (.bool true) ∧ Below w.heap.size w w' := by
  obtain ⟨hr, hnil0, hlc, hcap⟩ := r0
  have hz0 := hr.2.1
  have hl0 := hr.1
  obtain ⟨P, u, e, hrt⟩ : ∃ P u e, rt z0 1048576 = (P, u, e) := ⟨_, _, _, rfl⟩
  have hP : ∀ z ∈ P, z < 256 := by have := rt_byte z0 1048576 hz0; rw [hrt] at this; exact this
  have hT : ∀ z ∈ Cntm.cnt len0 ++ z0, z < 256 := by
    intro z hm
    rcases List.mem_append.1 hm with h | h
    · exact Cntm.cnt_byte _ z h
    · exact hz0 z h
  have h10 := Cntm.cnt_len10 len0 (by omega)
  have hTl : (Cntm.cnt len0 ++ z0).length ≤ 140737488351242 := by rw [List.length_append]; omega
  have hTp0 : 0 < (Cntm.cnt len0 ++ z0).length := by
    have := List.length_pos_iff.2 (Cntm.cnt_ne len0)
    rw [List.length_append]; omega
  have HB := Lib.hid (rt_back z0 len0 hl0 (by omega))
  obtain ⟨T, hTe⟩ : ∃ T, T = Cntm.cnt len0 ++ z0 := ⟨_, rfl⟩
  have C0 := Lib.hid (fun W (h : Rd W a0 len0 z0) => (twin_c a0 len0 cap0 z0 W h (by omega)).mono (RetB.form hz0))
  have C1 := Lib.hid (fun W (h : Rd W a0 len0 z0) => (text_c a0 len0 cap0 z0 W h hnil0 (by omega)).mono (RetB.form hT))
  have C2 := Lib.hid (fun W (h : Rd W a0 len0 z0) => (readText_c a0 len0 cap0 z0 1048576 W h hlc (by omega) (by omega) (by omega) (by omega)).mono (rto hrt hP))
  have HZ0 := Lib.hid hz0
  have HT := Lib.hid hT
  rw [← hTe] at HB C1 HT hTl hTp0
  clear hTe hT hP hrt hz0 h10
  go_enter Try.func12, Try.ntmps12
  go_wp2_with fail
  refine (C0.out w hr).mono ?_
  rintro en w1 ⟨x1, L1, c1, rfl, hL1, hLc1, hcm1, hnc1, hrc1, hoc1, hb1⟩
  have hr' := hr.below hb1
  have hs1 := hb1.size
  go_wp2_with fail
  refine (C1.out w1 hr').mono ?_
  rintro en w2 ⟨x2, L2, c2, rfl, hL2, hLc2, hcm2, hnc2, hrc2, hoc2, hb2⟩
  have hs2 := hb2.size
  have k1 := hrc1.below hb2
  have hTp : 0 < L2 := by omega
  rcases some8_of hoc2 hL2 with ⟨_, h0⟩ | ⟨g, rfl, hgB, hgs, h8⟩
  · omega
  go_wp2_with fail
  refine ((readText_c _ L2 c2 T (len0 : Int) w2 hrc2 hLc2 (by omega) hcm2 (by omega) (by omega)).mono (rto HB.out HZ0.out)).mono ?_
  rintro en w3 ⟨x3, L3, c3, rfl, hL3, hLc3, hcm3, hrc3, hoc3, hb3⟩
  have k2 := k1.below hb3
  have r3 := (hr'.below hb2).below hb3
  have h83 := h8.below hgs hb3
  have hs3 := hb3.size
  have hy : ∀ wr, w3.grownBy wr (some g) → Rd wr x3 L3 z0 := by
    intro wr hg
    rcases some8_of hoc3 hL3 with ⟨_, h0⟩ | ⟨g3, hx3, hg3, _, _⟩
    · exact ⟨hrc3.1, hrc3.2.1, .inl h0⟩
    · refine Rd_grown hrc3 hg fun b off ha e => ?_
      rw [hx3] at ha
      simp only [Option.some.injEq, Addr.mk.injEq, and_true] at ha e
      omega
  have HY := Lib.hid hy
  have HK := Lib.hid (fun wr (h : w3.grownBy wr (some g)) => Rd_far hrc1 hgB k2 h)
  have HR := Lib.hid (fun wr (h : w3.grownBy wr (some g)) => Rd_far hr (Nat.le_trans hs1 hgB) r3 h)
  have hbA : Below w.heap.size w w3 := hb1.trans ((hb2.mono hs1).trans (hb3.mono (Nat.le_trans hs1 hs2)))
  have HA := Lib.hid (fun wr (h : w3.grownBy wr (some g)) => below_grown hbA h hbA.size (Nat.le_trans hs1 hgB))
  clear hy k1 k2 r3 h8 hoc1 hoc2 hoc3 hrc1 hrc2 hrc3 hb1 hb2 hb3 hbA hr hr' hnc1 hnc2 hs1 hs2 hs3
  go_wp2_with fail
  go_loopw [27] (fun i wr => ∃ k : Nat, k ≤ L2 ∧ i = .int .i64 k ∧ Some8 wr w1.heap.size g L2 c2 ∧ w3.grownBy wr (some g)) (fun i _ => L2 - (intOf i).toNat)
  case atStart => exact ⟨0, Nat.zero_le _, rfl, h83, grown_refl _ _⟩
  case round =>
    clear h83
    obtain ⟨k, hk, rfl, h8, hgr⟩ := hrel
    by_cases hkl : k < L2
    · obtain ⟨n, hn⟩ := h8.cell k hkl
      have hf := h8.free k
      obtain ⟨hst, hgs2⟩ := h8.store k 238
      have hst' := Lib.hid hst
      have hgr' := Lib.hid (grown_trans hgr hgs2)
      clear h8 hgr hst hgs2
      go_wp2_with fail
      go_roundw
      case rel => exact ⟨k + 1, by omega, by go_num, hst'.out, hgr'.out⟩
      case measure => simp [intOf]; omega
    · have y1 := HY.out wr hgr
      have k3 := HK.out wr hgr
      have r4 := HR.out wr hgr
      have hbB := HA.out wr hgr
      clear h8 hgr HY HK HR HA
      go_wp2_with fail
      refine (same_self x3 x1 L3 c3 L1 c1 z0 wr y1 k3 (by omega)).mono ?_
      rintro en w5 ⟨rfl, hb5⟩
      have k5 := k3.below hb5
      have r5 := r4.below hb5
      have hbC := hbB.trans (hb5.mono hbB.size)
      clear y1 k3 r4 hbB hb5
      go_wp2_with fail
      refine (same_self a0 x1 len0 cap0 L1 c1 z0 w5 r5 k5 (by omega)).mono ?_
      rintro en w6 ⟨rfl, hb6⟩
      have k6 := k5.below hb6
      have r6 := r5.below hb6
      have hbD := hbC.trans (hb6.mono hbC.size)
      clear k5 r5 hbC hb6
      go_wp2_with fail
      refine (C2.out w6 r6).mono ?_
      rintro en w7 ⟨x7, L7, c7, rfl, hL7, hLc7, hcm7, hrc7, hoc7, hb7⟩
      have k7 := k6.below hb7
      have r7 := r6.below hb7
      have hbE := hbD.trans (hb7.mono hbD.size)
      have hs6 := hbD.size
      by_cases h07 : L7 = 0
      · subst h07
        clear hrc7 hoc7 hb7 k6 r6 hbD
        go_wp2_with fail
        refine wp_loop_rounds 1 ?_
        rw [rounds_succ]
        go_wp2_with fail
        refine (awake_c w7).mono ?_
        rintro en w8 ⟨rfl, hb8⟩
        have k8 := k7.below hb8
        have r8 := r7.below hb8
        have hbF := hbE.trans (hb8.mono hbE.size)
        go_wp2_with fail
        refine (same_self a0 x1 len0 cap0 L1 c1 z0 w8 r8 k8 (by omega)).mono ?_
        rintro en w9 ⟨rfl, hb9⟩
        have hfin := hbF.trans (hb9.mono hbF.size)
        go_wp2_with fail
        go_ret
        exact ⟨rfl, hfin⟩
      · rcases some8_of hoc7 hL7 with ⟨_, h0⟩ | ⟨g7, rfl, hg7, hgs7, h87⟩
        · exact absurd h0 h07
        have HK := Lib.hid (fun wr (h : w7.grownBy wr (some g7)) => Rd_far k6 hg7 k7 h)
        have HR := Lib.hid (fun wr (h : w7.grownBy wr (some g7)) => Rd_far r6 hg7 r7 h)
        have HA := Lib.hid (fun wr (h : w7.grownBy wr (some g7)) => below_grown hbE h hbE.size (Nat.le_trans hs6 hg7))
        clear hrc7 hoc7 hb7 k6 r6 hbD k7 r7 hbE
        go_wp2_with fail
        go_loopw [52] (fun i wr => ∃ k : Nat, k ≤ L7 ∧ i = .int .i64 k ∧ Some8 wr w6.heap.size g7 L7 c7 ∧ w7.grownBy wr (some g7)) (fun i _ => L7 - (intOf i).toNat)
        case atStart => exact ⟨0, Nat.zero_le _, rfl, h87, grown_refl _ _⟩
        case round =>
          clear h87
          obtain ⟨k, hk, rfl, h8, hgr⟩ := hrel
          by_cases hkl : k < L7
          · obtain ⟨n, hn⟩ := h8.cell k hkl
            have hf := h8.free k
            obtain ⟨hst, hgs2⟩ := h8.store k (bits .xor .u8 n 255)
            have hst' := Lib.hid hst
            have hgr' := Lib.hid (grown_trans hgr hgs2)
            clear h8 hgr hst hgs2
            go_wp2_with fail
            go_roundw
            case rel => exact ⟨k + 1, by omega, by go_num, hst'.out, hgr'.out⟩
            case measure => simp [intOf]; omega
          · have k8 := HK.out wr hgr
            have r8 := HR.out wr hgr
            have hbF := HA.out wr hgr
            clear h8 hgr HK HR HA
            go_wp2_with fail
            refine (awake_c wr).mono ?_
            rintro en w8 ⟨rfl, hb8⟩
            have k9 := k8.below hb8
            have r9 := r8.below hb8
            have hbG := hbF.trans (hb8.mono hbF.size)
            go_wp2_with fail
            refine (same_self a0 x1 len0 cap0 L1 c1 z0 w8 r9 k9 (by omega)).mono ?_
            rintro en w9 ⟨rfl, hb9⟩
            have hfin := hbG.trans (hb9.mono hbG.size)
            go_wp2_with fail
            go_ret
            exact ⟨rfl, hfin⟩


set_option maxRecDepth 100000 in
theorem lifted (os : Os) (started : os.Started) (H : Type) (enc : TypeId × Value → H) :
    ReturnsInHanded {} Try.checked os 12 .any (Rows.octetKeepsSpec.pre6 enc Try.prog Try.f12 Rows.octetKeepsRow.domain false) (Rows.octetKeepsSpec.post enc Try.prog Try.f12 false true false false) := by
  refine returnsInHanded_of_change_sized (C := Try.checked) own started (by kernel_rfl) Try.func12
    (ChangeSpec.witness6 (enc := enc) (C := Try.checked) false ⟨#[], #[.slice none 0 0], []⟩ 8 (by kernel_rfl) (by kernel_rfl) (by kernel_rfl) (by kernel_rfl)) ?_
  intro W base args ds gs before hval0 hW hcnd hsz0 _
  have hval : ∀ (j : Nat) t v, Try.f12.params[j]? = some t → args[j]? = some v → Value.okWide Try.prog W .any base t v := hval0
  have hsz : (DataW.weightsEach Try.prog (Try.f12.params.toList ++ Rows.octetKeepsSpec.plain.varTypes Try.prog) (ds ++ gs)).all (· ≤ reachBytes) = true := hsz0
  clear hsz0
  have hW' := hW
  obtain ⟨p, q, hA0, hV, rfl, hfz, hnd⟩ := hW
  have hA : DataW.TrodAll enc Try.prog W 0 (fun _ => true) true Try.f12.params.toList args.toList ds p := hA0
  rw [Try.params12] at hA hval hsz
  obtain ⟨v0, vs0, d0, ds0, p0, q0, hargs, rfl, rfl, h0, s0⟩ := trodAll_cons hA
  obtain ⟨rfl, rfl, rfl⟩ := trodAll_nil s0
  obtain rfl : args = #[v0] := by cases args; simp_all
  obtain ⟨rfl, rfl⟩ := trodVars_none hV
  obtain ⟨a0, len0, cap0, rfl⟩ := okWide_slice Try.underlying27 (hval 0 27 v0 rfl rfl)
  have k0 := h0
  have lt0 : ∀ x ∈ p0, x.block < W.heap.size := by obtain ⟨m, hm⟩ := k0; exact DataW.trod_lt m _ _ _ hm
  obtain ⟨z0, r0⟩ : ∃ zs, BytesIn W a0 len0 cap0 zs := by
    obtain ⟨fuel, hf⟩ := h0
    rcases open_ints Try.underlying27 Try.underlying5 (by kernel_rfl) hf with ⟨hcs, _⟩ | ⟨x, l, c, zs, hcs, _, hl, hm, hz, hx, hcell, hwz⟩
    · simp [Value.cells] at hcs
      obtain ⟨rfl, rfl, rfl⟩ := hcs
      exact ⟨[], bytesIn_nil W⟩
    · simp [Value.cells] at hcs
      obtain ⟨rfl, rfl, rfl⟩ := hcs
      obtain ⟨hd, _⟩ := Prod.mk.inj hx
      simp only [if_true] at hz
      have hs := sized_slice hsz (j := 0) (t := 27) (e := 5) rfl (congrArg some hd) Try.underlying27
      rw [bytes1] at hs
      simp only [lits, List.length_map, List.length_take, List.length_drop, reachBytes] at hs
      exact ⟨_, bytesIn_some hl hz (by omega) hcell hwz⟩
  clear hA0 hval0
  refine (walk a0 len0 cap0 z0 W r0).mono fun e W' ⟨he, bel⟩ => ?_
  subst he
  exact ⟨_, rfl, _, _, _, [], _, [], hW', trodAll_mk1 (shut_bool Try.underlying4 _), (trodAll_cons_mk (Below.trod laidOut (by kernel_rfl) (of_decide_eq_true (by kernel_rfl)) k0 bel lt0) trodAll_mk0), rfl, bel.frame _, fun h => by cases h⟩


theorem over : Rows.octetKeepsRow.holds Try.pinned (OpenSpec.ofChange Rows.octetKeepsSpec) :=
  OpenClaim.holds_of_wide 12 Try.f12 rfl rfl rfl rfl rfl rfl rfl ⟨rfl, rfl, rfl, rfl, rfl⟩ rfl rfl rfl rfl rfl (by kernel_rfl) Try.func12 (by kernel_rfl)
    (of_decide_eq_true (by kernel_rfl)) (by unfold Func.isWrapper; first | (rw [if_pos (by decide +kernel)]; kernel_rfl) | (rw [if_neg (by decide +kernel)]; exact ⟨rfl, rfl⟩))
    (fun os started H enc _ => lifted os started H enc)

/-- THE STATEMENT -/
theorem proved : Rows.OctetKeepsSaid := over
end Go.Proofs.Ytnnofcfagdbafaa.lOctetKeeps
