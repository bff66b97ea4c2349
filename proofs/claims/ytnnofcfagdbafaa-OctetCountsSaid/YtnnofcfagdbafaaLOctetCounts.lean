/-
  Proved: for every list of bytes and every number, OctetCounts answers true. No condition.
-/
import Derived.Test.YtnnofcfagdbafaaFrame
import Derived.Test.YtnnofcfagdbafaaAwk
import Derived.Test.YtnnofcfagdbafaaCnt
import Derived.Test.YtnnofcfagdbafaaSame
import Derived.Deep.RegionHeld3
namespace Go.Proofs.Ytnnofcfagdbafaa.lOctetCounts
open Go.ChangeShapes Go.WideShapes Go.ChangeAt Go.RowKit
open Go.ChangeMaps (open_string shut_string)
set_option linter.unusedVariables false

theorem read_ret {r : Nat × Nat × Nat} {x u e : Nat} (hr : r = (x, u, e)) {w : World} {en : Ending} {w' : World} (h : RdcRet r w en w') : en = .returned (.tuple #[.int .u64 (x : Int), .int .i64 (u : Int), .int .i64 (e : Int)]) ∧ w = w' := by
  subst hr
  exact h
theorem same_self (a1 a2 : Option Addr) (len1 cap1 len2 cap2 : Nat) (xs : List Nat) (w : World) (h1 : Rd w a1 len1 xs) (h2 : Rd w a2 len2 xs) (hm : len1 ≤ 9223372036854775807) :
    Calls Try.prog 19 #[.slice a1 len1 cap1, .slice a2 len2 cap2] w fun e w' => e = .returned (.bool true) ∧ Below w.heap.size w w' :=
  (same_c a1 a2 len1 cap1 len2 cap2 xs xs w h1 h2 hm).mono fun e w' ⟨h, n, hw⟩ => by
    subst hw
    exact ⟨by rw [h]; simp, below_drewN' _ _ _⟩
/-- what was read is a number below 2^64 -/
theorem rd_lt (zs : List Nat) : ∀ i n x u e, i ≤ 9 → n < 2 ^ (7 * i) → Cntm.rd i n zs = (x, u, e) → x < 18446744073709551616 := by
  induction zs with
  | nil => intro i n x u e _ _ h; simp [Cntm.rd] at h; omega
  | cons c r ih =>
    intro i n x u e hi hn h
    rw [Cntm.rd] at h
    by_cases he : (i = 9 ∧ 1 < c) ∨ (0 < i ∧ c = 0)
    · rw [if_pos he] at h; simp at h; omega
    · rw [if_neg he] at h
      have hf := Cntm.fits n c i hn hi (by omega)
      by_cases hc : c < 128
      · rw [if_pos hc] at h
        simp at h
        omega
      · rw [if_neg hc] at h
        exact ih _ _ _ _ _ (by omega) (Cntm.step_lt _ _ _ hn) h

set_option maxRecDepth 100000 in
set_option maxHeartbeats 1600000 in
theorem walk (a0 : Option Addr) (len0 cap0 : Nat) (z0 : List Nat) (a1 : Int) (w : World) (r0 : BytesIn w a0 len0 cap0 z0) (r1 : (Lit.int .u64 a1).wf = true) :
    Calls Try.prog 6 #[.slice a0 len0 cap0, .int .u64 a1] w fun e w' => e = .returned (.bool true) ∧ Below w.heap.size w w' := by
  obtain ⟨hr, hnil0, hlc, hcap⟩ := r0
  have hn : 0 ≤ a1 ∧ a1 ≤ 18446744073709551615 := by simpa [Lit.wf, IntKind.min, IntKind.max, IntKind.signed, IntKind.bits] using r1
  obtain ⟨n, rfl⟩ : ∃ n : Nat, a1 = (n : Int) := ⟨a1.toNat, by omega⟩
  have hn' : n < 18446744073709551616 := by omega
  have HN := Lib.hid hn'
  have h10 := Cntm.cnt_len10 n hn'
  have hby := Lib.hid (Cntm.cnt_byte n)
  obtain ⟨x, u, e, hrd⟩ : ∃ x u e, Cntm.rd 0 0 z0 = (x, u, e) := ⟨_, _, _, rfl⟩
  have HR := Lib.hid hrd
  have HX := Lib.hid (rd_lt z0 0 0 x u e (by omega) (by omega) hrd)
  clear hn hn' r1 hrd
  go_enter Try.func6, Try.ntmps6
  go_wp2_with fail
  refine ((readCount_c a0 len0 cap0 z0 w hr (by omega)).mono fun e w' h => read_ret HR.out h).mono ?_
  rintro e1 w1 ⟨rfl, rfl⟩
  go_wp2_with fail
  refine ((refReadCount_c a0 len0 cap0 z0 w hr (by omega)).mono fun e w' h => read_ret HR.out h).mono ?_
  rintro e1 w1 ⟨rfl, rfl⟩
  go_wp2_with fail
  refine (awake_c w).mono ?_
  rintro e1 w1 ⟨rfl, hb1⟩
  go_wp2_with fail
  refine ((count_c n _ HN.out).mono (RetB.form hby.out)).mono ?_
  rintro e1 w2 ⟨a2, L2, c2, rfl, hL2, hLc2, hcm2, hnc2, hrc2, hoc2, hb2⟩
  go_wp2_with fail
  refine ((refCount_c n _ HN.out).mono (RetB.form hby.out)).mono ?_
  rintro e1 w3 ⟨a3, L3, c3, rfl, hL3, hLc3, hcm3, hnc3, hrc3, hoc3, hb3⟩
  have hrc2' := hrc2.below hb3
  have hbb := hb1.trans ((hb2.mono hb1.size).trans (hb3.mono (Nat.le_trans hb1.size hb2.size)))
  clear hrc2 hoc2 hoc3 hnc2 hnc3 hb1 hb2 hb3
  go_wp2_with fail
  refine (same_self a2 a3 L2 c2 L3 c3 _ w3 hrc2' hrc3 (by omega)).mono ?_
  rintro e1 w4 ⟨rfl, hb4⟩
  have hr4 := hr.below (hbb.trans (hb4.mono hbb.size))
  have hb5 := hbb.trans (hb4.mono hbb.size)
  clear hrc2' hrc3 hr hbb hb4 hcm2 hcm3 hLc2 hLc3 hL2 hL3 h10
  by_cases he : e = 0
  · subst he
    obtain ⟨m, hm1, hm2, hm3, hm4, _⟩ := Cntm.rd_ok z0 0 0 x u hr4.2.1 HR.out
    obtain rfl : m = x := by simpa using hm1.symm
    have hl0 := hr4.1
    have htk := hr4.take u (by omega)
    rw [show u - 0 = u by omega] at hm4
    rw [hm4] at htk
    have hbx := Lib.hid (Cntm.cnt_byte m)
    have h10 := Cntm.cnt_len10 m HX.out
    have q1 : (0 : Int) ≤ (u : Int) := by omega
    have q2 : (u : Int) ≤ (cap0 : Int) := by omega
    clear hm1 hm3 hm4 hr4
    go_wp2_with fail
    go_region_held3 (fun _ => True) (trivial) (first | (go_at_call 24; refine ((count_c m _ HX.out).mono (RetB.form hbx.out)).mono ?_; rintro e1 w6 ⟨a6, L6, c6, rfl, hL6, hLc6, hcm6, hnc6, hrc6, hoc6, hb6⟩; have htk6 := Rd.below (a := a0) (len := u) (zs := Cntm.cnt m) (by exact htk) hb6) | (go_at_call 19; refine (same_self _ _ _ _ _ _ (Cntm.cnt m) _ (by assumption) (by assumption) (by omega)).mono ?_; rintro e1 w7 ⟨rfl, hb7⟩))
    all_goals
      have hfin := hb5.drew.trans ((hb6.mono hb5.size).trans (hb7.mono (Nat.le_trans hb5.size hb6.size)))
      go_wp2
      go_ret
      exact ⟨rfl, hfin⟩
  · have hee : ((e : Int) != 0) = true := by simp; omega
    go_wp2_with fail
    go_quiet (fail)
    go_wp2
    go_ret
    exact ⟨rfl, hb5.trans (below_drewN' _ _ _)⟩


set_option maxRecDepth 100000 in
theorem lifted (os : Os) (started : os.Started) (H : Type) (enc : TypeId × Value → H) :
    ReturnsInHanded {} Try.checked os 6 .any (Rows.octetCountsSpec.pre6 enc Try.prog Try.f6 Rows.octetCountsRow.domain false) (Rows.octetCountsSpec.post enc Try.prog Try.f6 false true false false) := by
  refine returnsInHanded_of_change_sized (C := Try.checked) own started (by kernel_rfl) Try.func6
    (ChangeSpec.witness6 (enc := enc) (C := Try.checked) false ⟨#[], #[.slice none 0 0, .int .u64 0], []⟩ 8 (by kernel_rfl) (by kernel_rfl) (by kernel_rfl) (by kernel_rfl)) ?_
  intro W base args ds gs before hval0 hW hcnd hsz0 _
  have hval : ∀ (j : Nat) t v, Try.f6.params[j]? = some t → args[j]? = some v → Value.okWide Try.prog W .any base t v := hval0
  have hsz : (DataW.weightsEach Try.prog (Try.f6.params.toList ++ Rows.octetCountsSpec.plain.varTypes Try.prog) (ds ++ gs)).all (· ≤ reachBytes) = true := hsz0
  clear hsz0
  have hW' := hW
  obtain ⟨p, q, hA0, hV, rfl, hfz, hnd⟩ := hW
  have hA : DataW.TrodAll enc Try.prog W 0 (fun _ => true) true Try.f6.params.toList args.toList ds p := hA0
  rw [Try.params6] at hA hval hsz
  obtain ⟨v0, vs0, d0, ds0, p0, q0, hargs, rfl, rfl, h0, s0⟩ := trodAll_cons hA
  obtain ⟨v1, vs1, d1, ds1, p1, q1, rfl, rfl, rfl, h1, s1⟩ := trodAll_cons s0
  obtain ⟨rfl, rfl, rfl⟩ := trodAll_nil s1
  obtain rfl : args = #[v0, v1] := by cases args; simp_all
  obtain ⟨rfl, rfl⟩ := trodVars_none hV
  obtain ⟨a0, len0, cap0, rfl⟩ := okWide_slice Try.underlying27 (hval 0 27 v0 rfl rfl)
  have k0 := h0
  have lt0 : ∀ x ∈ p0, x.block < W.heap.size := by obtain ⟨m, hm⟩ := k0; exact DataW.trod_lt m _ _ _ hm
  obtain ⟨z0, r0⟩ : ∃ zs, BytesIn W a0 len0 cap0 zs := by
    obtain ⟨fuel, hf⟩ := h0
    rcases open_ints Try.underlying27 Try.underlying5 (by kernel_rfl) hf with ⟨hcs, _⟩ | ⟨x, l, c, zs, hcs, _, hl, hm, hz, hx, hcell, hwz⟩
    · simp [Value.cells] at hcs
      obtain ⟨rfl, rfl, rfl⟩ := hcs
      exact ⟨[], bytesIn_nil W⟩
    · simp [Value.cells] at hcs
      obtain ⟨rfl, rfl, rfl⟩ := hcs
      obtain ⟨hd, _⟩ := Prod.mk.inj hx
      simp only [if_true] at hz
      have hs := sized_slice hsz (j := 0) (t := 27) (e := 5) rfl (congrArg some hd) Try.underlying27
      rw [bytes1] at hs
      simp only [lits, List.length_map, List.length_take, List.length_drop, reachBytes] at hs
      exact ⟨_, bytesIn_some hl hz (by omega) hcell hwz⟩
  obtain ⟨a1, rfl, rfl, rfl, r1⟩ := open_int Try.underlying26 (hval 1 26 v1 rfl rfl) h1
  clear hA0 hval0
  refine (walk a0 len0 cap0 z0 a1 W r0 r1).mono fun e W' ⟨he, bel⟩ => ?_
  subst he
  exact ⟨_, rfl, _, _, _, [], _, [], hW', trodAll_mk1 (shut_bool Try.underlying4 _), (trodAll_cons_mk (Below.trod laidOut (by kernel_rfl) (of_decide_eq_true (by kernel_rfl)) k0 bel lt0) (trodAll_cons_mk (shut_int Try.underlying26 r1) trodAll_mk0)), rfl, bel.frame _, fun h => by cases h⟩

theorem over : Rows.octetCountsRow.holds Try.pinned (OpenSpec.ofChange Rows.octetCountsSpec) :=
  OpenClaim.holds_of_wide 6 Try.f6 rfl rfl rfl rfl rfl rfl rfl ⟨rfl, rfl, rfl, rfl, rfl⟩ rfl rfl rfl rfl rfl (by kernel_rfl) Try.func6 (by kernel_rfl)
    (of_decide_eq_true (by kernel_rfl)) (by unfold Func.isWrapper; first | (rw [if_pos (by decide +kernel)]; kernel_rfl) | (rw [if_neg (by decide +kernel)]; exact ⟨rfl, rfl⟩))
    (fun os started H enc _ => lifted os started H enc)

/-- THE STATEMENT -/
theorem proved : Rows.OctetCountsSaid := over
end Go.Proofs.Ytnnofcfagdbafaa.lOctetCounts
