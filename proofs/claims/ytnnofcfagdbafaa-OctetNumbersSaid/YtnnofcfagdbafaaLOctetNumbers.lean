/-
  Proved: for every number, size, bytes and place, OctetNumbers answers true. No condition.
-/
import Derived.Test.YtnnofcfagdbafaaFrame
import Derived.Test.YtnnofcfagdbafaaAwk
import Derived.Test.YtnnofcfagdbafaaSame
import Derived.Test.YtnnofcfagdbafaaGet
import Derived.Test.YtnnofcfagdbafaaPut
namespace Go.Proofs.Ytnnofcfagdbafaa.lOctetNumbers
open Go.ChangeShapes Go.WideShapes Go.ChangeAt Go.RowKit
open Go.ChangeMaps (open_string shut_string)
set_option linter.unusedVariables false

theorem same_self (a1 a2 : Option Addr) (len1 cap1 len2 cap2 : Nat) (xs : List Nat) (w : World) (h1 : Rd w a1 len1 xs) (h2 : Rd w a2 len2 xs) (hm : len1 ≤ 9223372036854775807) :
    Calls Try.prog 19 #[.slice a1 len1 cap1, .slice a2 len2 cap2] w fun e w' => e = .returned (.bool true) ∧ Below w.heap.size w w' :=
  (same_c a1 a2 len1 cap1 len2 cap2 xs xs w h1 h2 hm).mono fun e w' ⟨h, n, hw⟩ => by
    subst hw
    exact ⟨by rw [h]; simp, below_drewN' _ _ _⟩
/-- both Gets tell one number, or both tell none -/
theorem gets (a : Option Addr) (len cap : Nat) (zs : List Nat) : ∃ (g : Nat) (ok : Bool),
    (∀ w, Rd w a len zs → Calls Try.prog 16 #[.slice a len cap] w fun e w' => e = .returned (.tuple #[.int .u64 (g : Int), .bool ok]) ∧ w = w') ∧
    (∀ w, Rd w a len zs → Calls Try.prog 17 #[.slice a len cap] w fun e w' => e = .returned (.tuple #[.int .u64 (g : Int), .bool ok]) ∧ w = w') := by
  by_cases h : 8 < len
  · exact ⟨0, false, fun w _ => get_long a len cap w h, fun w _ => refGet_long a len cap w h⟩
  · exact ⟨Numm.num 0 zs, true, fun w hr => get_c a len cap zs w hr (by omega), fun w hr => refGet_c a len cap zs w hr (by omega)⟩
/-- both Puts write the same bytes -/
theorem puts_both (n : Nat) (size : Int) (hn : n < 18446744073709551616) : ∃ P : List Nat, (∀ z ∈ P, z < 256) ∧ P.length ≤ 8 ∧
    (∀ w, Calls Try.prog 20 #[.int .u64 (n : Int), .int .i64 size] w (RetB w.heap.size w P)) ∧
    (∀ w, Calls Try.prog 21 #[.int .u64 (n : Int), .int .i64 size] w (RetB w.heap.size w P)) := by
  by_cases h1 : size < 0 ∨ 8 < size
  · exact ⟨[], by simp, by simp, fun w => put_out n size w h1, fun w => refPut_out n size w (by omega)⟩
  · obtain ⟨k, rfl⟩ : ∃ k : Nat, size = (k : Int) := ⟨size.toNat, by omega⟩
    by_cases h0 : k = 0
    · subst h0
      exact ⟨[], by simp, by simp, fun w => put_in n 0 w hn (by omega), fun w => refPut_out n 0 w (by omega)⟩
    · exact ⟨Numm.put n k, Numm.put_byte n k, by rw [Numm.put_len]; omega, fun w => put_in n k w hn (by omega), fun w => refPut_in n k w hn (by omega) (by omega)⟩
/-- the four bytes at k, by themselves -/
theorem four (zs : List Nat) (k : Nat) (h : k + 4 ≤ zs.length) : (zs.drop k).take 4 = [zs.getD k 0, zs.getD (k + 1) 0, zs.getD (k + 2) 0, zs.getD (k + 3) 0] := by
  apply List.ext_getElem
  · simp; omega
  · intro i h1 h2
    simp at h2
    match i, h2 with
    | 0, _ => simp [show k < zs.length by omega]
    | 1, _ => simp [show k + 1 < zs.length by omega]
    | 2, _ => simp [show k + 2 < zs.length by omega]
    | 3, _ => simp [show k + 3 < zs.length by omega]

set_option maxRecDepth 100000 in
set_option maxHeartbeats 1600000 in
theorem walk (a0 : Int) (a1 : Int) (a2 : Option Addr) (len2 cap2 : Nat) (z2 : List Nat) (a3 : Int) (w : World) (r0 : (Lit.int .u64 a0).wf = true) (r1 : (Lit.int .i64 a1).wf = true) (r2 : BytesIn w a2 len2 cap2 z2) (r3 : (Lit.int .i64 a3).wf = true) :
    Calls Try.prog 4 #[.int .u64 a0, .int .i64 a1, .slice a2 len2 cap2, .int .i64 a3] w fun e w' => e = .returned (.bool true) ∧ Below w.heap.size w w' := by
  obtain ⟨hr, hnil2, hlc, hcap⟩ := r2
  have hn : 0 ≤ a0 ∧ a0 ≤ 18446744073709551615 := by simpa [Lit.wf, IntKind.min, IntKind.max, IntKind.signed, IntKind.bits] using r0
  have hat : -9223372036854775808 ≤ a3 ∧ a3 ≤ 9223372036854775807 := by simpa [Lit.wf, IntKind.min, IntKind.max, IntKind.signed, IntKind.bits] using r3
  obtain ⟨n, rfl⟩ : ∃ n : Nat, a0 = (n : Int) := ⟨a0.toNat, by omega⟩
  obtain ⟨g, ok, hg1, hg2⟩ := gets a2 len2 cap2 z2
  obtain ⟨P, hP, hPl, hp1, hp2⟩ := puts_both n a1 (by omega)
  have G1 := hg1 w hr
  have G2 := hg2 w hr
  have HP1 := Lib.hid hp1
  have HP2 := Lib.hid hp2
  have HPb := Lib.hid hP
  clear hg1 hg2 hp1 hp2 hP r0 r1 r3 hn
  by_cases hout : a3 < 0 ∨ (len2 : Int) - 4 < a3
  · have hW := word_out a2 len2 cap2 a3 w hout (by omega)
    go_enter Try.func4, Try.ntmps4
    go_wp2_with fail
    refine G1.mono ?_
    rintro e1 w1 ⟨rfl, rfl⟩
    go_wp2_with fail
    refine G2.mono ?_
    rintro e1 w1 ⟨rfl, rfl⟩
    go_wp2_with fail
    refine hW.mono ?_
    rintro e1 w1 ⟨rfl, q, rfl⟩
    clear G1 G2 hW
    go_wp2_with fail
    refine (awake_c _).mono ?_
    rintro e1 w1 ⟨rfl, hb1⟩
    go_wp2_with fail
    refine ((HP1.out _).mono (RetB.form HPb.out)).mono ?_
    rintro e1 w2 ⟨b2, L2, c2, rfl, hL2, hLc2, hcm2, hnc2, hrc2, hoc2, hb2⟩
    go_wp2_with fail
    refine ((HP2.out _).mono (RetB.form HPb.out)).mono ?_
    rintro e1 w3 ⟨b3, L3, c3, rfl, hL3, hLc3, hcm3, hnc3, hrc3, hoc3, hb3⟩
    have hrc2' := hrc2.below hb3
    go_wp2_with fail
    refine (same_self b2 b3 L2 c2 L3 c3 _ w3 hrc2' hrc3 (by omega)).mono ?_
    rintro e1 w4 ⟨rfl, hb4⟩
    have hs1 := hb1.size
    have hs2 := hb2.size
    have hs3 := hb3.size
    have hfin : Below w.heap.size w w4 := (below_drewN' w.heap.size w q).trans (hb1.trans ((hb2.mono hs1).trans ((hb3.mono (Nat.le_trans hs1 hs2)).trans (hb4.mono (Nat.le_trans hs1 (Nat.le_trans hs2 hs3))))))
    clear hrc2 hrc3 hoc2 hoc3 hrc2' hb1 hb2 hb3 hb4 hs1 hs2 hs3 hnc2 hnc3 hL2 hL3 hLc2 hLc3 hcm2 hcm3
    rcases hout with h0 | h0
    · go_wp2_with fail
      go_ret
      exact ⟨rfl, hfin⟩
    · by_cases h1 : a3 < 0
      · go_wp2_with fail
        go_ret
        exact ⟨rfl, hfin⟩
      · go_wp2_with fail
        go_ret
        exact ⟨rfl, hfin⟩
  · obtain ⟨k, rfl⟩ : ∃ k : Nat, a3 = (k : Int) := ⟨a3.toNat, by omega⟩
    have hk : k + 4 ≤ len2 := by omega
    obtain ⟨hl2, hz2, h0 | ⟨b, off, rfl, hb, hcell⟩⟩ := hr
    · omega
    have hr : Rd w (some ⟨b, off, none⟩) len2 z2 := ⟨hl2, hz2, .inr ⟨b, off, rfl, hb, hcell⟩⟩
    have hW := word_c (some ⟨b, off, none⟩) len2 cap2 k z2 w hr (by omega) hk
    have hfour := four z2 k (by omega)
    have hr4 := (hr.drop k).take 4 (by omega)
    rw [hfour] at hr4
    rw [← hfour] at hr4 hW
    obtain ⟨F, hF⟩ : ∃ F, F = (z2.drop k).take 4 := ⟨_, rfl⟩
    rw [← hF] at hr4 hW
    clear hF hfour hcell hz2 hl2 hout
    have q0 : (0 : Int) ≤ (k : Int) := by omega
    have q1 : (k : Int) + 4 ≤ (cap2 : Int) := by omega
    have q2 : ¬ (k : Int) < 0 := by omega
    have q3 : ¬ (len2 : Int) - 4 < (k : Int) := by omega
    have q4 : ¬ k = cap2 := by omega
    go_enter Try.func4, Try.ntmps4
    go_wp2_with fail
    refine G1.mono ?_
    rintro e1 w1 ⟨rfl, rfl⟩
    go_wp2_with fail
    refine G2.mono ?_
    rintro e1 w1 ⟨rfl, rfl⟩
    go_wp2_with fail
    refine hW.mono ?_
    rintro e1 w1 ⟨rfl, q, rfl⟩
    clear G1 G2 hW
    go_wp2_with fail
    refine (awake_c _).mono ?_
    rintro e1 w1 ⟨rfl, hb1⟩
    go_wp2_with fail
    refine ((HP1.out _).mono (RetB.form HPb.out)).mono ?_
    rintro e1 w2 ⟨b2, L2, c2, rfl, hL2, hLc2, hcm2, hnc2, hrc2, hoc2, hb2⟩
    go_wp2_with fail
    refine ((HP2.out _).mono (RetB.form HPb.out)).mono ?_
    rintro e1 w3 ⟨b3, L3, c3, rfl, hL3, hLc3, hcm3, hnc3, hrc3, hoc3, hb3⟩
    have hrc2' := hrc2.below hb3
    go_wp2_with fail
    refine (same_self b2 b3 L2 c2 L3 c3 _ w3 hrc2' hrc3 (by omega)).mono ?_
    rintro e1 w4 ⟨rfl, hb4⟩
    have hs1 := hb1.size
    have hs2 := hb2.size
    have hs3 := hb3.size
    have hfin : Below w.heap.size w w4 := (below_drewN' w.heap.size w q).trans (hb1.trans ((hb2.mono hs1).trans ((hb3.mono (Nat.le_trans hs1 hs2)).trans (hb4.mono (Nat.le_trans hs1 (Nat.le_trans hs2 hs3))))))
    have hr4' := hr4.below hfin
    clear hrc2 hrc3 hoc2 hoc3 hrc2' hb1 hb2 hb3 hb4 hs1 hs2 hs3 hnc2 hnc3 hL2 hL3 hLc2 hLc3 hcm2 hcm3 hr hr4
    go_wp2_with fail
    refine (refGet_c (some ⟨b, off + k, none⟩) 4 _ F w4 hr4' (by omega)).mono ?_
    rintro e1 w5 ⟨rfl, rfl⟩
    go_wp2_with fail
    go_ret
    have hwF : IntKind.u64.wrap ((Numm.num 0 F : Nat) : Int) = ((Numm.num 0 F : Nat) : Int) := by
      have h1 := Numm.num_take_lt F hr4'.2.1 (by have := hr4'.1; omega) F.length
      rw [List.take_length] at h1
      exact IntWalk.u64_in _ (by omega)
    exact ⟨ret_bool (by rw [hwF]; simp), hfin⟩


set_option maxRecDepth 100000 in
theorem lifted (os : Os) (started : os.Started) (H : Type) (enc : TypeId × Value → H) :
    ReturnsInHanded {} Try.checked os 4 .any (Rows.octetNumbersSpec.pre6 enc Try.prog Try.f4 Rows.octetNumbersRow.domain false) (Rows.octetNumbersSpec.post enc Try.prog Try.f4 false true false false) := by
  refine returnsInHanded_of_change_sized (C := Try.checked) own started (by kernel_rfl) Try.func4
    (ChangeSpec.witness6 (enc := enc) (C := Try.checked) false ⟨#[], #[.int .u64 0, .int .i64 0, .slice none 0 0, .int .i64 0], []⟩ 8 (by kernel_rfl) (by kernel_rfl) (by kernel_rfl) (by kernel_rfl)) ?_
  intro W base args ds gs before hval0 hW hcnd hsz0 _
  have hval : ∀ (j : Nat) t v, Try.f4.params[j]? = some t → args[j]? = some v → Value.okWide Try.prog W .any base t v := hval0
  have hsz : (DataW.weightsEach Try.prog (Try.f4.params.toList ++ Rows.octetNumbersSpec.plain.varTypes Try.prog) (ds ++ gs)).all (· ≤ reachBytes) = true := hsz0
  clear hsz0
  have hW' := hW
  obtain ⟨p, q, hA0, hV, rfl, hfz, hnd⟩ := hW
  have hA : DataW.TrodAll enc Try.prog W 0 (fun _ => true) true Try.f4.params.toList args.toList ds p := hA0
  rw [Try.params4] at hA hval hsz
  obtain ⟨v0, vs0, d0, ds0, p0, q0, hargs, rfl, rfl, h0, s0⟩ := trodAll_cons hA
  obtain ⟨v1, vs1, d1, ds1, p1, q1, rfl, rfl, rfl, h1, s1⟩ := trodAll_cons s0
  obtain ⟨v2, vs2, d2, ds2, p2, q2, rfl, rfl, rfl, h2, s2⟩ := trodAll_cons s1
  obtain ⟨v3, vs3, d3, ds3, p3, q3, rfl, rfl, rfl, h3, s3⟩ := trodAll_cons s2
  obtain ⟨rfl, rfl, rfl⟩ := trodAll_nil s3
  obtain rfl : args = #[v0, v1, v2, v3] := by cases args; simp_all
  obtain ⟨rfl, rfl⟩ := trodVars_none hV
  obtain ⟨a0, rfl, rfl, rfl, r0⟩ := open_int Try.underlying26 (hval 0 26 v0 rfl rfl) h0
  obtain ⟨a1, rfl, rfl, rfl, r1⟩ := open_int Try.underlying3 (hval 1 3 v1 rfl rfl) h1
  obtain ⟨a2, len2, cap2, rfl⟩ := okWide_slice Try.underlying27 (hval 2 27 v2 rfl rfl)
  have k2 := h2
  have lt2 : ∀ x ∈ p2, x.block < W.heap.size := by obtain ⟨m, hm⟩ := k2; exact DataW.trod_lt m _ _ _ hm
  obtain ⟨z2, r2⟩ : ∃ zs, BytesIn W a2 len2 cap2 zs := by
    obtain ⟨fuel, hf⟩ := h2
    rcases open_ints Try.underlying27 Try.underlying5 (by kernel_rfl) hf with ⟨hcs, _⟩ | ⟨x, l, c, zs, hcs, _, hl, hm, hz, hx, hcell, hwz⟩
    · simp [Value.cells] at hcs
      obtain ⟨rfl, rfl, rfl⟩ := hcs
      exact ⟨[], bytesIn_nil W⟩
    · simp [Value.cells] at hcs
      obtain ⟨rfl, rfl, rfl⟩ := hcs
      obtain ⟨hd, _⟩ := Prod.mk.inj hx
      simp only [if_true] at hz
      have hs := sized_slice hsz (j := 2) (t := 27) (e := 5) rfl (congrArg some hd) Try.underlying27
      rw [bytes1] at hs
      simp only [lits, List.length_map, List.length_take, List.length_drop, reachBytes] at hs
      exact ⟨_, bytesIn_some hl hz (by omega) hcell hwz⟩
  obtain ⟨a3, rfl, rfl, rfl, r3⟩ := open_int Try.underlying3 (hval 3 3 v3 rfl rfl) h3
  clear hA0 hval0
  refine (walk a0 a1 a2 len2 cap2 z2 a3 W r0 r1 r2 r3).mono fun e W' ⟨he, bel⟩ => ?_
  subst he
  exact ⟨_, rfl, _, _, _, [], _, [], hW', trodAll_mk1 (shut_bool Try.underlying4 _), (trodAll_cons_mk (shut_int Try.underlying26 r0) (trodAll_cons_mk (shut_int Try.underlying3 r1) (trodAll_cons_mk (Below.trod laidOut (by kernel_rfl) (of_decide_eq_true (by kernel_rfl)) k2 bel lt2) (trodAll_cons_mk (shut_int Try.underlying3 r3) trodAll_mk0)))), rfl, bel.frame _, fun h => by cases h⟩

theorem over : Rows.octetNumbersRow.holds Try.pinned (OpenSpec.ofChange Rows.octetNumbersSpec) :=
  OpenClaim.holds_of_wide 4 Try.f4 rfl rfl rfl rfl rfl rfl rfl ⟨rfl, rfl, rfl, rfl, rfl⟩ rfl rfl rfl rfl rfl (by kernel_rfl) Try.func4 (by kernel_rfl)
    (of_decide_eq_true (by kernel_rfl)) (by unfold Func.isWrapper; first | (rw [if_pos (by decide +kernel)]; kernel_rfl) | (rw [if_neg (by decide +kernel)]; exact ⟨rfl, rfl⟩))
    (fun os started H enc _ => lifted os started H enc)

/-- THE STATEMENT -/
theorem proved : Rows.OctetNumbersSaid := over
end Go.Proofs.Ytnnofcfagdbafaa.lOctetNumbers
