/-
  Proved: for every list of bytes, every place and every word, OctetTurns answers true: bytes of which some bits within 32 in a row are turned have another sum. No condition.
-/
import Derived.Test.YtnnofcfagdbafaaFrame
import Derived.Test.YtnnofcfagdbafaaAwk
import Derived.Test.YtnnofcfagdbafaaTwin
import Derived.Test.YtnnofcfagdbafaaCrc
import Derived.Test.YtnnofcfagdbafaaBurm
import Derived.Test.YtnnofcfagdbafaaRot
import Derived.StillTailTactics
namespace Go.Proofs.Ytnnofcfagdbafaa.lOctetTurns
open Go.ChangeShapes Go.WideShapes Go.ChangeAt Go.RowKit
open Go.ChangeMaps (open_string shut_string)
set_option linter.unusedVariables false

open Burm in
/-- the q of the law behind i rounds -/
def Q (p : List Nat) (t turn i : Nat) : List Nat := Burm.over p (Burm.part t turn i)
theorem Q_no {p : List Nat} {t turn i : Nat} (h : turn.testBit i = false) : Q p t turn (i + 1) = Q p t turn i := by unfold Q; rw [Burm.part_no _ _ _ h]
theorem Q_yes {p : List Nat} {t turn i : Nat} (h : turn.testBit i = true) (hm : t + i < 8 * p.length) : Q p t turn (i + 1) = (Q p t turn i).set ((t + i) / 8) ((Q p t turn i).getD ((t + i) / 8) 0 ^^^ 2 ^ ((t + i) % 8)) := by
  unfold Q; rw [Burm.part_yes _ _ _ h, Burm.over_bit _ _ _ hm]
theorem Q_byte {p : List Nat} (t turn i : Nat) (hp : ∀ z ∈ p, z < 256) : ∀ z ∈ Q p t turn i, z < 256 := Burm.over_byte _ _ hp
theorem Q_len (p : List Nat) (t turn i : Nat) : (Q p t turn i).length = p.length := Burm.over_len _ _
theorem turn_cell (o r : Nat) (ho : o < 256) (hr : r < 8) : bits .xor .u8 (o : Int) (IntKind.u8.wrap (2 ^ r)) = ((o ^^^ 2 ^ r : Nat) : Int) := by
  have h2 : 2 ^ r < 256 := Nat.pow_lt_pow_right (a := 2) (n := 8) (by omega) (by omega)
  have e : IntKind.u8.wrap ((2 : Int) ^ r) = ((2 ^ r : Nat) : Int) := by
    have : ((2 : Int) ^ r) = ((2 ^ r : Nat) : Int) := by rw [Int.natCast_pow]; rfl
    rw [this]
    obtain ⟨y, hy⟩ : ∃ y, y = 2 ^ r := ⟨_, rfl⟩
    rw [← hy] at h2 ⊢
    exact IntWalk.u8_in _ (by omega)
  rw [e, u8_xor_nat _ _ ho h2]
theorem set_cells (zs : List Nat) (j z : Nat) : (cellsOf zs).set j (.int .u8 (z : Int)) = cellsOf (zs.set j z) := by simp [cellsOf, List.map_set]

set_option maxRecDepth 100000 in
set_option maxHeartbeats 1600000 in
theorem early (a0 : Option Addr) (len0 cap0 : Nat) (a1 : Int) (tu : Nat) (w : World) (hl : len0 ≤ 140737488351232) (h : len0 < 4 ∨ tu = 0) :
    Calls Try.prog 11 #[.slice a0 len0 cap0, .int .i64 a1, .int .u32 (tu : Int)] w fun e w' => e = .returned (.bool true) ∧ Below w.heap.size w w' := by
  by_cases h4 : len0 < 4
  · go_enter Try.func11, Try.ntmps11
    go_wp2_with fail
    refine (awake_c w).mono ?_
    rintro e1 w1 ⟨rfl, hb1⟩
    go_wp2_with fail
    refine (awake_c w1).mono ?_
    rintro e1 w2 ⟨rfl, hb2⟩
    go_wp2_with fail
    go_ret
    exact ⟨rfl, hb1.trans (hb2.mono hb1.size)⟩
  · obtain rfl : tu = 0 := by omega
    clear h
    go_enter Try.func11, Try.ntmps11
    go_wp2_with fail
    refine (awake_c w).mono ?_
    rintro e1 w1 ⟨rfl, hb1⟩
    go_wp2_with fail
    refine (awake_c w1).mono ?_
    rintro e1 w2 ⟨rfl, hb2⟩
    go_wp2_with fail
    go_ret
    exact ⟨rfl, hb1.trans (hb2.mono hb1.size)⟩

set_option maxRecDepth 100000 in
set_option maxHeartbeats 3200000 in
theorem late (a0 : Option Addr) (len0 cap0 : Nat) (z0 : List Nat) (a1 : Int) (tu : Nat) (w : World) (hr : Rd w a0 len0 z0) (hl : len0 ≤ 140737488351232) (h4 : 4 ≤ len0) (h0 : tu ≠ 0) (htu : tu < 4294967296) :
    Calls Try.prog 11 #[.slice a0 len0 cap0, .int .i64 a1, .int .u32 (tu : Int)] w fun e w' => e = .returned (.bool true) ∧ Below w.heap.size w w' := by
  have hwr : 0 ≤ IntKind.u64.wrap a1 ∧ IntKind.u64.wrap a1 ≤ 18446744073709551615 := by rw [IntKind.wrap_u64]; omega
  obtain ⟨t, ht, hte⟩ : ∃ t : Nat, t + 31 < 8 * len0 ∧ wrap64 ((IntKind.u64.wrap a1).tmod (8 * (len0 : Int) - 31)) = (t : Int) := by
    refine ⟨(IntKind.u64.wrap a1 % (8 * (len0 : Int) - 31)).toNat, ?_, ?_⟩
    · have := Int.emod_lt_of_pos (IntKind.u64.wrap a1) (show 0 < 8 * (len0 : Int) - 31 by omega)
      have := Int.emod_nonneg (IntKind.u64.wrap a1) (show 8 * (len0 : Int) - 31 ≠ 0 by omega)
      omega
    · have g1 := Int.emod_lt_of_pos (IntKind.u64.wrap a1) (show 0 < 8 * (len0 : Int) - 31 by omega)
      have g2 := Int.emod_nonneg (IntKind.u64.wrap a1) (show 8 * (len0 : Int) - 31 ≠ 0 by omega)
      rw [Int.tmod_eq_emod_of_nonneg hwr.1, IntWalk.wrap64_in _ (by omega)]
      omega
  have hneq : ((tu : Int) == 0) = false := by simp; omega
  have hlz := hr.1
  have hby := Lib.hid hr.2.1
  have HT := Lib.hid htu
  have H0 := Lib.hid h0
  clear hwr h0 htu
  go_enter Try.func11, Try.ntmps11
  go_wp2_with fail
  refine (awake_c w).mono ?_
  rintro e1 w1 ⟨rfl, hb1⟩
  have hr1 := hr.below hb1
  go_wp2_with fail
  refine ((twin_c a0 len0 cap0 z0 w1 hr1 (by omega)).mono (RetB.form hby.out)).mono ?_
  rintro e1 w2 ⟨a2, L2, c2, rfl, hL2, hLc2, hcm2, hnc2, hrc2, hoc2, hb2⟩
  obtain rfl : L2 = len0 := by omega
  have hbb : Below w.heap.size w w2 := hb1.trans (hb2.mono hb1.size)
  have hsz1 := hb1.size
  have hin : (.slice a2 L2 c2 : Value) = .slice none 0 0 ∧ z0.length = 0 ∨ ∃ g, a2 = some ⟨g, 0, none⟩ ∧ w1.heap.size ≤ g := by
    rcases hoc2.2 with h | ⟨g, cp, cur, hv, hg, _⟩
    · exact .inl h
    · simp only [Value.slice.injEq] at hv
      exact .inr ⟨g, hv.1, hg⟩
  rcases hin with h | ⟨g, rfl, hg⟩
  · omega
  have hrB : ∀ wr, Below w1.heap.size w2 wr → Rd wr a0 L2 z0 := fun wr h => hr1.below (hb2.trans h)
  have hown : w2.ownsRow w1.heap.size 5 1 (.slice (some ⟨g, 0, none⟩) L2 c2) L2 (cellsOf (Q z0 t tu 0)) := by
    unfold Q
    rw [Burm.part_zero, Burm.over_zero]
    unfold Own at hoc2
    rw [hlz] at hoc2
    exact hoc2
  clear hrc2 hoc2 hnc2 hr hr1 hb1 hb2 hL2
  have hq0 : (8 : Int) * (L2 : Int) - 31 ≠ 0 := by omega
  have hq1 : (1 : Int) ≤ 8 * (L2 : Int) - 31 := by omega
  go_wp2_with fail
  rw [hte]
  clear hte
  go_loopw [32] (fun i wr => ∃ k : Nat, k ≤ 32 ∧ i = .int .i64 k ∧ wr.ownsRow w1.heap.size 5 1 (.slice (some ⟨g, 0, none⟩) L2 c2) L2 (cellsOf (Q z0 t tu k)) ∧ Below w1.heap.size w2 wr) (fun i _ => 32 - (intOf i).toNat)
  case atStart => exact ⟨0, Nat.zero_le _, rfl, hown, Below.refl _ _⟩
  case round =>
    clear hown
    obtain ⟨k, hk, rfl, hown, hnx⟩ := hrel
    have hsz := hnx.size
    by_cases hk32 : k < 32
    · cases hb : tu.testBit k with
      | false =>
        have hB := test_no tu k HT.out hb
        have hN := Lib.hid (Q_no (p := z0) (t := t) hb)
        go_wp2
        go_roundw
        case rel => exact ⟨k + 1, by omega, by go_num, by rw [hN.out]; exact hown, hnx⟩
        case measure => simp [intOf]; omega
      | true =>
        have hB := test_yes tu k HT.out hb
        have hm : t + k < 8 * z0.length := by rw [hlz]; omega
        have hN := Lib.hid (Q_yes (p := z0) (t := t) hb hm)
        obtain ⟨j, hj⟩ : ∃ j, j = (t + k) / 8 := ⟨_, rfl⟩
        obtain ⟨r, hr⟩ : ∃ r, r = (t + k) % 8 := ⟨_, rfl⟩
        obtain ⟨m, hme⟩ : ∃ m, m = t + k := ⟨_, rfl⟩
        have hjL : j < L2 := by omega
        have hr8 : r < 8 := by omega
        have hs1 : IntKind.i64.wrap ((t : Int) + (k : Int)) = (m : Int) := by rw [IntWalk.i64_in _ (by omega)]; omega
        have hs2 : IntKind.i64.wrap ((m : Int) / 8) = (j : Int) := by rw [IntWalk.i64_in _ (by omega)]; omega
        have hs3 : (m : Int).tmod 8 = (r : Int) := by rw [Int.tmod_eq_emod_of_nonneg (by omega)]; omega
        have HSet : Hid (Q z0 t tu (k + 1) = (Q z0 t tu k).set j ((Q z0 t tu k).getD j 0 ^^^ 2 ^ r)) := Lib.hid (by rw [hN.out, hj, hr])
        have hcell := hown.cellAt j (by omega)
        have hfz := hown.frozenAt j
        rw [cellsOf_get _ _ (by rw [Q_len, hlz]; exact hjL)] at hcell
        obtain ⟨o, ho⟩ : ∃ o, o = (Q z0 t tu k).getD j 0 := ⟨_, rfl⟩
        have ho256 : o < 256 := by
          rw [ho, getD_at _ _ (by rw [Q_len, hlz]; exact hjL)]
          exact Q_byte t tu k hby.out _ (List.getElem_mem _)
        rw [← ho] at hcell
        have HO := Lib.hid ho
        have hst := (hown.stored j (.int .u8 ((o ^^^ 2 ^ r : Nat) : Int))).1
        rw [set_cells] at hst
        rw [ho, ← HSet.out, ← ho] at hst
        have hbe : Below w1.heap.size w2 (wr.setCell ⟨g, j, none⟩ (.int .u8 ((o ^^^ 2 ^ r : Nat) : Int))) := hnx.setCell (by exact hg) _
        have hv := Lib.hid (turn_cell o r ho256 hr8)
        have q0 : (0 : Int) ≤ (j : Int) := by omega
        have q1 : (j : Int) < (L2 : Int) := by omega
        have q2 : (0 : Int) ≤ (r : Int) := by omega
        have q3 : (r : Int) ≤ 8 := by omega
        have hst' := Lib.hid hst
        have hbe' := Lib.hid hbe
        have hsz' := Lib.hid hsz
        clear ho hown hnx hj hr hm hme hN hst hbe hsz hjL hr8 ho256
        go_wp2
        go_still_tail 14, (by kernel_rfl)
        change wpList _ _ _ _ _ wr.drew
        have hfz' : wr.drew.frozen? ⟨g, j, none⟩ = false := hfz
        rw [hv.out]
        go_wp2
        go_roundw
        case rel => exact ⟨k + 1, by omega, by go_num, hst'.out, hbe'.out.drew⟩
        case measure => simp [intOf]; omega
    · obtain rfl : k = 32 := by omega
      have hfin1 : Below w.heap.size w wr := hbb.trans (hnx.mono hsz1)
      have hreg := Burm.over_reg z0 t tu HT.out H0.out (by rw [hlz]; omega) 4294967295
      have hq32 : Q z0 t tu 32 = Burm.over z0 (2 ^ t * tu) := by unfold Q; rw [Burm.part_all _ _ HT.out]
      have hrp := hrB wr hnx
      have hrq : Rd wr (some ⟨g, 0, none⟩) L2 (Q z0 t tu 32) := by
        refine ⟨by rw [Q_len, hlz], Q_byte t tu 32 hby.out, .inr ⟨g, 0, rfl, ?_, fun i hi => ?_⟩⟩
        · exact (hown.lt g rfl).2
        · rw [Nat.zero_add, hown.cellAt i (by omega)]
          exact cellsOf_get _ _ (by rw [Q_len, hlz]; exact hi)
      rw [hq32] at hrq
      clear hown hnx hrB
      go_wp2_with fail
      refine (crc_c a0 L2 cap0 z0 wr hrp (by omega)).mono ?_
      rintro en wx ⟨rfl, rfl⟩
      go_wp2_with fail
      refine (crc_c (some ⟨g, 0, none⟩) L2 c2 _ wr hrq (by omega)).mono ?_
      rintro en wx ⟨rfl, rfl⟩
      have hne : ((4294967295 - Crcm.reg 4294967295 z0 : Nat) : Int) ≠ ((4294967295 - Crcm.reg 4294967295 (Burm.over z0 (2 ^ t * tu)) : Nat) : Int) := by
        have h1 := reg_lt' z0 hby.out 4294967295 (by omega)
        have h2 := reg_lt' (Burm.over z0 (2 ^ t * tu)) (Burm.over_byte _ _ hby.out) 4294967295 (by omega)
        omega
      obtain ⟨x, hx⟩ : ∃ x, x = ((4294967295 - Crcm.reg 4294967295 z0 : Nat) : Int) := ⟨_, rfl⟩
      obtain ⟨y, hy⟩ : ∃ y, y = ((4294967295 - Crcm.reg 4294967295 (Burm.over z0 (2 ^ t * tu)) : Nat) : Int) := ⟨_, rfl⟩
      rw [← hx, ← hy] at hne
      rw [← hx, ← hy]
      clear hx hy hreg hq32
      have hbn : (x != y) = true := by simpa using hne
      clear hne
      go_wp2_with fail
      go_ret
      exact ⟨rfl, hfin1⟩
theorem walk (a0 : Option Addr) (len0 cap0 : Nat) (z0 : List Nat) (a1 : Int) (a2 : Int) (w : World) (r0 : BytesIn w a0 len0 cap0 z0) (r1 : (Lit.int .i64 a1).wf = true) (r2 : (Lit.int .u32 a2).wf = true) :
    Calls Try.prog 11 #[.slice a0 len0 cap0, .int .i64 a1, .int .u32 a2] w fun e w' => e = .returned (.bool true) ∧ Below w.heap.size w w' := by
  obtain ⟨hr, hnil0, hlc, hcap⟩ := r0
  have hu : 0 ≤ a2 ∧ a2 ≤ 4294967295 := by simpa [Lit.wf, IntKind.min, IntKind.max, IntKind.signed, IntKind.bits] using r2
  obtain ⟨tu, rfl⟩ : ∃ n : Nat, a2 = (n : Int) := ⟨a2.toNat, by omega⟩
  by_cases h : len0 < 4 ∨ tu = 0
  · exact early a0 len0 cap0 a1 tu w (by omega) h
  · exact late a0 len0 cap0 z0 a1 tu w hr (by omega) (by omega) (by omega) (by omega)


set_option maxRecDepth 100000 in
theorem lifted (os : Os) (started : os.Started) (H : Type) (enc : TypeId × Value → H) :
    ReturnsInHanded {} Try.checked os 11 .any (Rows.octetTurnsSpec.pre6 enc Try.prog Try.f11 Rows.octetTurnsRow.domain false) (Rows.octetTurnsSpec.post enc Try.prog Try.f11 false true false false) := by
  refine returnsInHanded_of_change_sized (C := Try.checked) own started (by kernel_rfl) Try.func11
    (ChangeSpec.witness6 (enc := enc) (C := Try.checked) false ⟨#[], #[.slice none 0 0, .int .i64 0, .int .u32 0], []⟩ 8 (by kernel_rfl) (by kernel_rfl) (by kernel_rfl) (by kernel_rfl)) ?_
  intro W base args ds gs before hval0 hW hcnd hsz0 _
  have hval : ∀ (j : Nat) t v, Try.f11.params[j]? = some t → args[j]? = some v → Value.okWide Try.prog W .any base t v := hval0
  have hsz : (DataW.weightsEach Try.prog (Try.f11.params.toList ++ Rows.octetTurnsSpec.plain.varTypes Try.prog) (ds ++ gs)).all (· ≤ reachBytes) = true := hsz0
  clear hsz0
  have hW' := hW
  obtain ⟨p, q, hA0, hV, rfl, hfz, hnd⟩ := hW
  have hA : DataW.TrodAll enc Try.prog W 0 (fun _ => true) true Try.f11.params.toList args.toList ds p := hA0
  rw [Try.params11] at hA hval hsz
  obtain ⟨v0, vs0, d0, ds0, p0, q0, hargs, rfl, rfl, h0, s0⟩ := trodAll_cons hA
  obtain ⟨v1, vs1, d1, ds1, p1, q1, rfl, rfl, rfl, h1, s1⟩ := trodAll_cons s0
  obtain ⟨v2, vs2, d2, ds2, p2, q2, rfl, rfl, rfl, h2, s2⟩ := trodAll_cons s1
  obtain ⟨rfl, rfl, rfl⟩ := trodAll_nil s2
  obtain rfl : args = #[v0, v1, v2] := by cases args; simp_all
  obtain ⟨rfl, rfl⟩ := trodVars_none hV
  obtain ⟨a0, len0, cap0, rfl⟩ := okWide_slice Try.underlying27 (hval 0 27 v0 rfl rfl)
  have k0 := h0
  have lt0 : ∀ x ∈ p0, x.block < W.heap.size := by obtain ⟨m, hm⟩ := k0; exact DataW.trod_lt m _ _ _ hm
  obtain ⟨z0, r0⟩ : ∃ zs, BytesIn W a0 len0 cap0 zs := by
    obtain ⟨fuel, hf⟩ := h0
    rcases open_ints Try.underlying27 Try.underlying5 (by kernel_rfl) hf with ⟨hcs, _⟩ | ⟨x, l, c, zs, hcs, _, hl, hm, hz, hx, hcell, hwz⟩
    · simp [Value.cells] at hcs
      obtain ⟨rfl, rfl, rfl⟩ := hcs
      exact ⟨[], bytesIn_nil W⟩
    · simp [Value.cells] at hcs
      obtain ⟨rfl, rfl, rfl⟩ := hcs
      obtain ⟨hd, _⟩ := Prod.mk.inj hx
      simp only [if_true] at hz
      have hs := sized_slice hsz (j := 0) (t := 27) (e := 5) rfl (congrArg some hd) Try.underlying27
      rw [bytes1] at hs
      simp only [lits, List.length_map, List.length_take, List.length_drop, reachBytes] at hs
      exact ⟨_, bytesIn_some hl hz (by omega) hcell hwz⟩
  obtain ⟨a1, rfl, rfl, rfl, r1⟩ := open_int Try.underlying3 (hval 1 3 v1 rfl rfl) h1
  obtain ⟨a2, rfl, rfl, rfl, r2⟩ := open_int Try.underlying22 (hval 2 22 v2 rfl rfl) h2
  clear hA0 hval0
  refine (walk a0 len0 cap0 z0 a1 a2 W r0 r1 r2).mono fun e W' ⟨he, bel⟩ => ?_
  subst he
  exact ⟨_, rfl, _, _, _, [], _, [], hW', trodAll_mk1 (shut_bool Try.underlying4 _), (trodAll_cons_mk (Below.trod laidOut (by kernel_rfl) (of_decide_eq_true (by kernel_rfl)) k0 bel lt0) (trodAll_cons_mk (shut_int Try.underlying3 r1) (trodAll_cons_mk (shut_int Try.underlying22 r2) trodAll_mk0))), rfl, bel.frame _, fun h => by cases h⟩


theorem over : Rows.octetTurnsRow.holds Try.pinned (OpenSpec.ofChange Rows.octetTurnsSpec) :=
  OpenClaim.holds_of_wide 11 Try.f11 rfl rfl rfl rfl rfl rfl rfl ⟨rfl, rfl, rfl, rfl, rfl⟩ rfl rfl rfl rfl rfl (by kernel_rfl) Try.func11 (by kernel_rfl)
    (of_decide_eq_true (by kernel_rfl)) (by unfold Func.isWrapper; first | (rw [if_pos (by decide +kernel)]; kernel_rfl) | (rw [if_neg (by decide +kernel)]; exact ⟨rfl, rfl⟩))
    (fun os started H enc _ => lifted os started H enc)

/-- THE STATEMENT -/
theorem proved : Rows.OctetTurnsSaid := over
end Go.Proofs.Ytnnofcfagdbafaa.lOctetTurns
