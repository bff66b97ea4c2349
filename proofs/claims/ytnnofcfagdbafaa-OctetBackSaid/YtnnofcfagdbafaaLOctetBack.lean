/-
  Proved: for every number and size, OctetBack answers true. No condition.
-/
import Derived.Test.YtnnofcfagdbafaaFrame
import Derived.Test.YtnnofcfagdbafaaAwk
import Derived.Test.YtnnofcfagdbafaaGet
import Derived.Test.YtnnofcfagdbafaaPut
namespace Go.Proofs.Ytnnofcfagdbafaa.lOctetBack
open Go.ChangeShapes Go.WideShapes Go.ChangeAt Go.RowKit
open Go.ChangeMaps (open_string shut_string)
set_option linter.unusedVariables false

/-- what the loop compares -/
theorem byte_at (n s k : Nat) (hk : k < s) : (Numm.put n s).getD k 0 = n / 256 ^ (s - 1 - k) % 256 := Numm.put_get n s k hk
theorem pow_byte (n j : Nat) : ((n : Int) / 2 ^ (8 * j) % 256) = ((n / 256 ^ j % 256 : Nat) : Int) := by
  have := put_cell n j
  simp only [Value.int.injEq, true_and] at this
  exact this
set_option maxRecDepth 100000 in
set_option maxHeartbeats 1600000 in
theorem walk (a0 : Int) (a1 : Int) (w : World) (r0 : (Lit.int .u64 a0).wf = true) (r1 : (Lit.int .i64 a1).wf = true) :
    Calls Try.prog 5 #[.int .u64 a0, .int .i64 a1] w fun e w' => e = .returned (.bool true) ∧ Below w.heap.size w w' := by
  have hn : 0 ≤ a0 ∧ a0 ≤ 18446744073709551615 := by simpa [Lit.wf, IntKind.min, IntKind.max, IntKind.signed, IntKind.bits] using r0
  obtain ⟨n, rfl⟩ : ∃ n : Nat, a0 = (n : Int) := ⟨a0.toNat, by omega⟩
  have hn' : n < 18446744073709551616 := by omega
  have hwr : 0 ≤ IntKind.u64.wrap a1 ∧ IntKind.u64.wrap a1 ≤ 18446744073709551615 := by rw [IntKind.wrap_u64]; omega
  obtain ⟨s, hs8, hsz⟩ : ∃ s : Nat, s ≤ 8 ∧ wrap64 ((IntKind.u64.wrap a1).tmod 9) = (s : Int) := by
    refine ⟨(IntKind.u64.wrap a1 % 9).toNat, by omega, ?_⟩
    rw [Int.tmod_eq_emod_of_nonneg hwr.1, IntWalk.wrap64_in _ (by omega)]
    omega
  have HN := Lib.hid hn'
  have hpb := Lib.hid (Numm.put_byte n s)
  clear hn r0 r1 hwr hn'
  go_enter Try.func5, Try.ntmps5
  go_wp2_with fail
  refine ((put_in n s w HN.out hs8).mono (RetB.form hpb.out)).mono ?_
  rintro e1 w1 ⟨b1, L1, c1, rfl, hL1, hLc1, hcm1, hnc1, hrc1, hoc1, hb1⟩
  obtain rfl : s = L1 := by rw [← hL1, Numm.put_len]
  go_wp2_with fail
  refine (get_c b1 s c1 _ w1 hrc1 hs8).mono ?_
  rintro e1 w2 ⟨rfl, rfl⟩
  rw [Numm.num_put]
  obtain ⟨M, hM⟩ : ∃ M, M = n % 256 ^ s := ⟨_, rfl⟩
  rw [← hM]
  have HM := Lib.hid hM
  clear hM
  go_wp2_with fail
  refine (awake_c w1).mono ?_
  rintro e1 w2 ⟨rfl, hb2⟩
  have hr2 := hrc1.below hb2
  have hfin := hb1.trans (hb2.mono hb1.size)
  clear hrc1 hoc1 hb1 hb2 hnc1 hL1
  by_cases h0 : s = 0
  · subst h0
    go_wp2_with fail
    refine wp_loop_rounds 1 ?_
    rw [rounds_succ]
    go_wp2_with fail
    go_ret
    exact ⟨ret_bool (by have := HM.out; simp [Nat.mod_one] at this; simp [this]), hfin⟩
  · obtain ⟨_, hz2, h00 | ⟨b, off, rfl, hbb, hcell⟩⟩ := hr2
    · exact absurd h00 h0
    go_wp2_with fail
    go_loopw [35] (fun i wr => ∃ k q : Nat, k ≤ s ∧ i = .int .i64 k ∧ wr = w2.drewN q) (fun i _ => s - (intOf i).toNat)
    case atStart => exact ⟨0, 0, Nat.zero_le _, rfl, rfl⟩
    case round =>
      obtain ⟨k, q, hk, rfl, rfl⟩ := hrel
      by_cases hkl : k < s
      · have hc0 := hcell k hkl
        rw [byte_at n s k hkl] at hc0
        obtain ⟨j, hj⟩ : ∃ j, s - 1 - k = j := ⟨_, rfl⟩
        rw [hj] at hc0
        have hji : (s : Int) - 1 - (k : Int) = (j : Int) := by omega
        have hc2 : w2.cell? ⟨b, off + k, none⟩ = some (.int .u8 ((n : Int) / 2 ^ (8 * j) % 256)) := by rw [pow_byte]; exact hc0
        have hc1 : (w2.drewN q).cell? ⟨b, off + k, none⟩ = some (.int .u8 ((n : Int) / 2 ^ (8 * j) % 256)) := by rw [pow_byte]; exact hc0
        have q0 : (0 : Int) ≤ (k : Int) := by omega
        have q1 : (k : Int) < (s : Int) := by omega
        have q2 : j ≤ 8 := by omega
        clear hcell hc0 hz2
        go_wp2
        go_quiet (fail)
        go_wp2
        go_roundw
        case rel => exact ⟨k + 1, q + nq, by omega, by go_num, by first | rfl | exact drewN_add _ _ _⟩
        case measure => simp [intOf]; omega
      · have hks : ¬ (k : Int) < (s : Int) := by omega
        have hfin' : Below w.heap.size w (w2.drewN q) := hfin.trans (below_drewN' _ _ _)
        clear hcell hz2
        by_cases h8 : s = 8
        · subst h8
          have hMn : M = n := by rw [HM.out]; exact Nat.mod_eq_of_lt (by have := HN.out; omega)
          subst hMn
          go_wp2
          go_ret
          exact ⟨rfl, hfin'⟩
        · have hs8b : ((s : Int) == 8) = false := by simp; omega
          have hs8c : (s : Int) < 8 := by omega
          obtain ⟨D, hw, hD, hmod⟩ : ∃ D : Nat, IntKind.u64.wrap (2 ^ (8 * s)) = (D : Int) ∧ (1 : Int) ≤ (D : Int) ∧ (n : Int) % (D : Int) = (M : Int) := by
            have hp : 256 ^ s ≤ 256 ^ 7 := Nat.pow_le_pow_right (by omega) (by omega)
            have hp0 : 0 < 256 ^ s := Nat.pow_pos (by omega)
            have e : (2 : Int) ^ (8 * s) = ((256 ^ s : Nat) : Int) := by rw [Int.pow_mul, Int.natCast_pow]; rfl
            refine ⟨256 ^ s, ?_, by omega, ?_⟩
            · rw [e]; exact IntWalk.u64_in _ (by omega)
            · rw [HM.out, Int.natCast_emod]
          go_wp2
          go_ret
          exact ⟨rfl, hfin'⟩


set_option maxRecDepth 100000 in
theorem lifted (os : Os) (started : os.Started) (H : Type) (enc : TypeId × Value → H) :
    ReturnsInHanded {} Try.checked os 5 .any (Rows.octetBackSpec.pre6 enc Try.prog Try.f5 Rows.octetBackRow.domain false) (Rows.octetBackSpec.post enc Try.prog Try.f5 false true false false) := by
  refine returnsInHanded_of_change_sized (C := Try.checked) own started (by kernel_rfl) Try.func5
    (ChangeSpec.witness6 (enc := enc) (C := Try.checked) false ⟨#[], #[.int .u64 0, .int .i64 0], []⟩ 8 (by kernel_rfl) (by kernel_rfl) (by kernel_rfl) (by kernel_rfl)) ?_
  intro W base args ds gs before hval0 hW hcnd hsz0 _
  have hval : ∀ (j : Nat) t v, Try.f5.params[j]? = some t → args[j]? = some v → Value.okWide Try.prog W .any base t v := hval0
  have hsz : (DataW.weightsEach Try.prog (Try.f5.params.toList ++ Rows.octetBackSpec.plain.varTypes Try.prog) (ds ++ gs)).all (· ≤ reachBytes) = true := hsz0
  clear hsz0
  have hW' := hW
  obtain ⟨p, q, hA0, hV, rfl, hfz, hnd⟩ := hW
  have hA : DataW.TrodAll enc Try.prog W 0 (fun _ => true) true Try.f5.params.toList args.toList ds p := hA0
  rw [Try.params5] at hA hval hsz
  obtain ⟨v0, vs0, d0, ds0, p0, q0, hargs, rfl, rfl, h0, s0⟩ := trodAll_cons hA
  obtain ⟨v1, vs1, d1, ds1, p1, q1, rfl, rfl, rfl, h1, s1⟩ := trodAll_cons s0
  obtain ⟨rfl, rfl, rfl⟩ := trodAll_nil s1
  obtain rfl : args = #[v0, v1] := by cases args; simp_all
  obtain ⟨rfl, rfl⟩ := trodVars_none hV
  obtain ⟨a0, rfl, rfl, rfl, r0⟩ := open_int Try.underlying26 (hval 0 26 v0 rfl rfl) h0
  obtain ⟨a1, rfl, rfl, rfl, r1⟩ := open_int Try.underlying3 (hval 1 3 v1 rfl rfl) h1
  clear hA0 hval0
  refine (walk a0 a1 W r0 r1).mono fun e W' ⟨he, bel⟩ => ?_
  subst he
  exact ⟨_, rfl, _, _, _, [], _, [], hW', trodAll_mk1 (shut_bool Try.underlying4 _), (trodAll_cons_mk (shut_int Try.underlying26 r0) (trodAll_cons_mk (shut_int Try.underlying3 r1) trodAll_mk0)), rfl, bel.frame _, fun h => by cases h⟩

theorem over : Rows.octetBackRow.holds Try.pinned (OpenSpec.ofChange Rows.octetBackSpec) :=
  OpenClaim.holds_of_wide 5 Try.f5 rfl rfl rfl rfl rfl rfl rfl ⟨rfl, rfl, rfl, rfl, rfl⟩ rfl rfl rfl rfl rfl (by kernel_rfl) Try.func5 (by kernel_rfl)
    (of_decide_eq_true (by kernel_rfl)) (by unfold Func.isWrapper; first | (rw [if_pos (by decide +kernel)]; kernel_rfl) | (rw [if_neg (by decide +kernel)]; exact ⟨rfl, rfl⟩))
    (fun os started H enc _ => lifted os started H enc)

/-- THE STATEMENT -/
theorem proved : Rows.OctetBackSaid := over
end Go.Proofs.Ytnnofcfagdbafaa.lOctetBack
