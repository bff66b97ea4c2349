/-
  Proved: for every number and every bytes behind it, OctetCountBack answers true. No condition.
-/
import Derived.Test.YtnnofcfagdbafaaFrame
import Derived.Test.YtnnofcfagdbafaaAwk
import Derived.Test.YtnnofcfagdbafaaCnt
import Derived.Test.YtnnofcfagdbafaaTwin
namespace Go.Proofs.Ytnnofcfagdbafaa.lOctetCountBack
open Go.ChangeShapes Go.WideShapes Go.ChangeAt Go.RowKit
open Go.ChangeMaps (open_string shut_string)
set_option linter.unusedVariables false

theorem read_ret {r : Nat × Nat × Nat} {x u e : Nat} (hr : r = (x, u, e)) {w : World} {en : Ending} {w' : World} (h : RdcRet r w en w') : en = .returned (.tuple #[.int .u64 (x : Int), .int .i64 (u : Int), .int .i64 (e : Int)]) ∧ w = w' := by
  subst hr
  exact h
set_option maxRecDepth 100000 in
set_option maxHeartbeats 800000 in
theorem walk (a0 : Int) (a1 : Option Addr) (len1 cap1 : Nat) (z1 : List Nat) (w : World) (r0 : (Lit.int .u64 a0).wf = true) (r1 : BytesIn w a1 len1 cap1 z1) :
    Calls Try.prog 7 #[.int .u64 a0, .slice a1 len1 cap1] w fun e w' => e = .returned (.bool true) ∧ Below w.heap.size w w' := by
  obtain ⟨hr, hnil1, hlc, hcap⟩ := r1
  have hn : 0 ≤ a0 ∧ a0 ≤ 18446744073709551615 := by simpa [Lit.wf, IntKind.min, IntKind.max, IntKind.signed, IntKind.bits] using r0
  obtain ⟨n, rfl⟩ : ∃ n : Nat, a0 = (n : Int) := ⟨a0.toNat, by omega⟩
  have hn' : n < 18446744073709551616 := by omega
  have HN := Lib.hid hn'
  have h10 := Cntm.cnt_len10 n hn'
  have hp : 0 < (Cntm.cnt n).length := List.length_pos_iff.2 (Cntm.cnt_ne _)
  have H1 : Hid (Cntm.rd 0 0 (Cntm.cnt n ++ z1) = (n, (Cntm.cnt n).length, 0)) := by
    have := Cntm.rd_cnt n 0 0 z1 (by omega) (by omega)
    exact Lib.hid (by simpa using this)
  have H2 := Lib.hid (Cntm.rd_short n 0 0 (by omega) (by omega))
  have hl1 := hr.1
  have hby := Lib.hid (Cntm.cnt_byte n)
  clear hn hn' r0
  go_enter Try.func7, Try.ntmps7
  go_wp2_with fail
  refine ((count_c n _ HN.out).mono (RetB.form hby.out)).mono ?_
  rintro e w1 ⟨ac, L, cc, rfl, hL, hLc, hcm, hnc, hrc, hoc, hb1⟩
  rw [hL] at hp h10
  go_wp2_with fail
  refine ((twin_c ac L cc _ _ hrc (by omega)).mono (RetB.form hby.out)).mono ?_
  rintro e w2 ⟨a2, L2, c2, rfl, hL2, hLc2, hcm2, hnc2, hrc2, hoc2, hb2⟩
  have hLL : L2 = L := by omega
  subst hLL
  have hrb := hr.below (hb1.trans (hb2.mono hb1.size))
  go_wp2_with (at_builtin; refine wpList_catR rfl _ _ rfl _ _ _ z1 rfl hoc2 (by have := hb2.size; exact this) a1 len1 cap1 rfl hrb hnil1 hby.out (by omega) ?_)
  intro a3 L3 c3 w3 hL3 hLc3 hcm3 hnc3 hrc3 hoc3 hb3
  have hbb := hb1.trans (((hb2.mono hb1.size).trans (hb3.mono hb1.size)))
  have hrc' := hrc.below (hb2.trans hb3)
  have hcL := hrc'.take (L2 - 1) (by omega)
  have hsz3 := hbb.size
  clear hrc hoc hb1 hrc2 hoc2 hb2 hrb hoc3 hb3 hnc hnc2 hnc3 hr hnil1 hl1
  go_wp2_with fail
  refine ((readCount_c a3 L3 c3 _ w3 hrc3 (by omega)).mono fun e w' h => read_ret H1.out h).mono ?_
  rintro e w4 ⟨rfl, rfl⟩
  rw [hL]
  clear hrc3
  have hq0 : ((L2 : Int) == 0) = false := by simp; omega
  have hq1 : (1 : Int) ≤ (L2 : Int) := by omega
  have hq2 : (L2 : Int) - 1 ≤ (cc : Int) := by omega
  go_wp2_with fail
  refine (awake_c w3).mono ?_
  rintro e w5 ⟨rfl, hb5⟩
  have hcL5 := hcL.below hb5
  have hb6 := hbb.trans (hb5.mono hsz3)
  clear hcL hb5 hbb
  have H2' := H2.out
  rw [hL] at H2'
  have H2h := Lib.hid H2'
  clear H2'
  go_wp2_with fail
  refine ((readCount_c ac (L2 - 1) cc _ w5 hcL5 (by omega)).mono fun e w' h => read_ret H2h.out h).mono ?_
  rintro e w6 ⟨rfl, rfl⟩
  go_wp2_with fail
  go_ret
  exact ⟨rfl, hb6⟩


set_option maxRecDepth 100000 in
theorem lifted (os : Os) (started : os.Started) (H : Type) (enc : TypeId × Value → H) :
    ReturnsInHanded {} Try.checked os 7 .any (Rows.octetCountBackSpec.pre6 enc Try.prog Try.f7 Rows.octetCountBackRow.domain false) (Rows.octetCountBackSpec.post enc Try.prog Try.f7 false true false false) := by
  refine returnsInHanded_of_change_sized (C := Try.checked) own started (by kernel_rfl) Try.func7
    (ChangeSpec.witness6 (enc := enc) (C := Try.checked) false ⟨#[], #[.int .u64 0, .slice none 0 0], []⟩ 8 (by kernel_rfl) (by kernel_rfl) (by kernel_rfl) (by kernel_rfl)) ?_
  intro W base args ds gs before hval0 hW hcnd hsz0 _
  have hval : ∀ (j : Nat) t v, Try.f7.params[j]? = some t → args[j]? = some v → Value.okWide Try.prog W .any base t v := hval0
  have hsz : (DataW.weightsEach Try.prog (Try.f7.params.toList ++ Rows.octetCountBackSpec.plain.varTypes Try.prog) (ds ++ gs)).all (· ≤ reachBytes) = true := hsz0
  clear hsz0
  have hW' := hW
  obtain ⟨p, q, hA0, hV, rfl, hfz, hnd⟩ := hW
  have hA : DataW.TrodAll enc Try.prog W 0 (fun _ => true) true Try.f7.params.toList args.toList ds p := hA0
  rw [Try.params7] at hA hval hsz
  obtain ⟨v0, vs0, d0, ds0, p0, q0, hargs, rfl, rfl, h0, s0⟩ := trodAll_cons hA
  obtain ⟨v1, vs1, d1, ds1, p1, q1, rfl, rfl, rfl, h1, s1⟩ := trodAll_cons s0
  obtain ⟨rfl, rfl, rfl⟩ := trodAll_nil s1
  obtain rfl : args = #[v0, v1] := by cases args; simp_all
  obtain ⟨rfl, rfl⟩ := trodVars_none hV
  obtain ⟨a0, rfl, rfl, rfl, r0⟩ := open_int Try.underlying26 (hval 0 26 v0 rfl rfl) h0
  obtain ⟨a1, len1, cap1, rfl⟩ := okWide_slice Try.underlying27 (hval 1 27 v1 rfl rfl)
  have k1 := h1
  have lt1 : ∀ x ∈ p1, x.block < W.heap.size := by obtain ⟨m, hm⟩ := k1; exact DataW.trod_lt m _ _ _ hm
  obtain ⟨z1, r1⟩ : ∃ zs, BytesIn W a1 len1 cap1 zs := by
    obtain ⟨fuel, hf⟩ := h1
    rcases open_ints Try.underlying27 Try.underlying5 (by kernel_rfl) hf with ⟨hcs, _⟩ | ⟨x, l, c, zs, hcs, _, hl, hm, hz, hx, hcell, hwz⟩
    · simp [Value.cells] at hcs
      obtain ⟨rfl, rfl, rfl⟩ := hcs
      exact ⟨[], bytesIn_nil W⟩
    · simp [Value.cells] at hcs
      obtain ⟨rfl, rfl, rfl⟩ := hcs
      obtain ⟨hd, _⟩ := Prod.mk.inj hx
      simp only [if_true] at hz
      have hs := sized_slice hsz (j := 1) (t := 27) (e := 5) rfl (congrArg some hd) Try.underlying27
      rw [bytes1] at hs
      simp only [lits, List.length_map, List.length_take, List.length_drop, reachBytes] at hs
      exact ⟨_, bytesIn_some hl hz (by omega) hcell hwz⟩
  clear hA0 hval0
  refine (walk a0 a1 len1 cap1 z1 W r0 r1).mono fun e W' ⟨he, bel⟩ => ?_
  subst he
  exact ⟨_, rfl, _, _, _, [], _, [], hW', trodAll_mk1 (shut_bool Try.underlying4 _), (trodAll_cons_mk (shut_int Try.underlying26 r0) (trodAll_cons_mk (Below.trod laidOut (by kernel_rfl) (of_decide_eq_true (by kernel_rfl)) k1 bel lt1) trodAll_mk0)), rfl, bel.frame _, fun h => by cases h⟩

theorem over : Rows.octetCountBackRow.holds Try.pinned (OpenSpec.ofChange Rows.octetCountBackSpec) :=
  OpenClaim.holds_of_wide 7 Try.f7 rfl rfl rfl rfl rfl rfl rfl ⟨rfl, rfl, rfl, rfl, rfl⟩ rfl rfl rfl rfl rfl (by kernel_rfl) Try.func7 (by kernel_rfl)
    (of_decide_eq_true (by kernel_rfl)) (by unfold Func.isWrapper; first | (rw [if_pos (by decide +kernel)]; kernel_rfl) | (rw [if_neg (by decide +kernel)]; exact ⟨rfl, rfl⟩))
    (fun os started H enc _ => lifted os started H enc)

/-- THE STATEMENT -/
theorem proved : Rows.OctetCountBackSaid := over
end Go.Proofs.Ytnnofcfagdbafaa.lOctetCountBack
