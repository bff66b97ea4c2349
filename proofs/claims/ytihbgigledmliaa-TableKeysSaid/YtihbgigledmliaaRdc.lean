/-
  The walks over ReadCount, the program's and the document's: 'Cntm.rd'.
-/
import Derived.Test.YtihbgigledmliaaPka
import Derived.Test.YtihbgigledmliaaCntm
namespace Go.Proofs.Ytihbgigledmliaa
open Go.RowKit

def RdcRet (r : Nat × Nat × Nat) (w : World) (e : Ending) (w' : World) : Prop :=
  e = .returned (.tuple #[.int .u64 (r.1 : Int), .int .i64 (r.2.1 : Int), .int .i64 (r.2.2 : Int)]) ∧ w = w'

theorem rdc_mk {r : Nat × Nat × Nat} {x u e : Nat} {a b c : Int} (hr : r = (x, u, e)) (ha : a = (x : Int)) (hb : b = (u : Int)) (hc : c = (e : Int)) :
    Ending.returned (.tuple #[.int .u64 a, .int .i64 b, .int .i64 c]) = .returned (.tuple #[.int .u64 (r.1 : Int), .int .i64 (r.2.1 : Int), .int .i64 (r.2.2 : Int)]) := by
  subst hr ha hb hc; rfl

theorem and127 (c : Nat) (h : c < 256) : bits .and .u8 (c : Int) 127 = ((c % 128 : Nat) : Int) := by
  rw [show (127 : Int) = ((127 : Nat) : Int) by rfl, u8_and_nat _ _ h (by omega)]
  congr 1
  exact Nat.and_two_pow_sub_one_eq_mod c 7
theorem wrap_mul (a e : Nat) : IntKind.u64.wrap ((a : Int) * 2 ^ e) = ((a * 2 ^ e % 18446744073709551616 : Nat) : Int) := by
  rw [IntKind.wrap_u64, Int.natCast_emod, Int.natCast_mul, Int.natCast_pow]; rfl
theorem wrap_nat (a : Nat) (h : a < 18446744073709551616) : IntKind.u64.wrap (a : Int) = (a : Int) := by
  rw [IntKind.wrap_u64]; omega
theorem part_lt (m c k : Nat) (hm : m < 2 ^ (7 * k)) (hk : k ≤ 9) (h9 : ¬ (k = 9 ∧ 1 < c)) : c % 128 * 2 ^ (7 * k) < 18446744073709551616 := by
  have := Cntm.fits m c k hm hk h9; omega
theorem val_or (m c k : Nat) (hm : m < 2 ^ (7 * k)) (hk : k ≤ 9) (h9 : ¬ (k = 9 ∧ 1 < c)) (hc : c < 256) :
    bits .or .u64 (m : Int) (IntKind.u64.wrap (IntKind.u64.wrap (bits .and .u8 (c : Int) 127) * 2 ^ (7 * k))) = ((m + c % 128 * 2 ^ (7 * k) : Nat) : Int) := by
  have hp := part_lt m c k hm hk h9
  have hf := Cntm.fits m c k hm hk h9
  rw [and127 c hc, wrap_nat _ (by omega), wrap_mul, Nat.mod_eq_of_lt hp, u64_or_nat _ _ (by omega) hp, Cntm.or_add _ _ _ hm]
theorem val_add (m c k : Nat) (hm : m < 2 ^ (7 * k)) (hk : k ≤ 9) (h9 : ¬ (k = 9 ∧ 1 < c)) :
    IntKind.u64.wrap ((m : Int) + IntKind.u64.wrap (((c : Int) % 128) * 2 ^ (7 * k))) = ((m + c % 128 * 2 ^ (7 * k) : Nat) : Int) := by
  have hp := part_lt m c k hm hk h9
  have hf := Cntm.fits m c k hm hk h9
  rw [show ((c : Int) % 128) = ((c % 128 : Nat) : Int) by omega, wrap_mul, Nat.mod_eq_of_lt hp, ← Int.natCast_add, wrap_nat _ hf]

theorem val_or9 (m c : Nat) (hm : m < 2 ^ (7 * 9)) (hc : c ≤ 1) :
    bits .or .u64 (m : Int) (IntKind.u64.wrap (IntKind.u64.wrap (bits .and .u8 (c : Int) 127) * 9223372036854775808)) = ((m + c % 128 * 2 ^ (7 * 9) : Nat) : Int) := by
  have := val_or m c 9 hm (by omega) (by omega) (by omega)
  rw [show (2 : Int) ^ (7 * 9) = 9223372036854775808 by rfl] at this
  exact this
theorem val_or9' (m c : Nat) (hm : m < 2 ^ (7 * 9)) (hc : c ≤ 1) :
    bits .or .u64 (m : Int) (IntKind.u64.wrap (bits .and .u8 (c : Int) 127 * 9223372036854775808)) = ((m + c % 128 * 2 ^ (7 * 9) : Nat) : Int) := by
  have := val_or9 m c hm hc
  rw [and127 c (by omega), wrap_nat _ (by omega)] at this
  rw [and127 c (by omega)]
  exact this
theorem val_add9 (m c : Nat) (hm : m < 2 ^ (7 * 9)) (hc : c ≤ 1) :
    IntKind.u64.wrap ((m : Int) + (c : Int) % 128 * 9223372036854775808) = ((m + c % 128 * 2 ^ (7 * 9) : Nat) : Int) := by
  have hf := Cntm.fits m c 9 hm (by omega) (by omega)
  rw [show ((m : Int) + (c : Int) % 128 * 9223372036854775808) = ((m + c % 128 * 2 ^ (7 * 9) : Nat) : Int) by omega, wrap_nat _ hf]

/-- the loop's word -/
def RdcAt (zs : List Nat) (k n : Nat) : Prop := k ≤ 9 ∧ n < 2 ^ (7 * k) ∧ Cntm.rd 0 0 zs = Cntm.rd k n (zs.drop k)
theorem RdcAt.form {zs : List Nat} {k n : Nat} (h : RdcAt zs k n) (hk : k < zs.length) (he : (k = 9 ∧ 1 < zs[k]) ∨ (0 < k ∧ zs[k] = 0)) : Cntm.rd 0 0 zs = (0, 0, 10) := by
  rw [h.2.2, List.drop_eq_getElem_cons hk, Cntm.rd, if_pos he]
theorem RdcAt.last {zs : List Nat} {k n : Nat} (h : RdcAt zs k n) (hk : k < zs.length) (he : ¬ ((k = 9 ∧ 1 < zs[k]) ∨ (0 < k ∧ zs[k] = 0))) (hc : zs[k] < 128) : Cntm.rd 0 0 zs = (n + zs[k] % 128 * 2 ^ (7 * k), k + 1, 0) := by
  rw [h.2.2, List.drop_eq_getElem_cons hk, Cntm.rd, if_neg he, if_pos hc]
theorem RdcAt.next {zs : List Nat} {k n : Nat} (h : RdcAt zs k n) (hk : k < zs.length) (he : ¬ ((k = 9 ∧ 1 < zs[k]) ∨ (0 < k ∧ zs[k] = 0))) (hc : ¬ zs[k] < 128) : RdcAt zs (k + 1) (n + zs[k] % 128 * 2 ^ (7 * k)) := by
  refine ⟨by have := h.1; omega, Cntm.step_lt _ _ _ h.2.1, ?_⟩
  rw [h.2.2, List.drop_eq_getElem_cons hk, Cntm.rd, if_neg he, if_neg hc]
theorem RdcAt.done {zs : List Nat} {k n : Nat} (h : RdcAt zs k n) (hk : ¬ k < zs.length) : Cntm.rd 0 0 zs = (0, 0, 9) := by
  rw [h.2.2, List.drop_eq_nil_of_le (by omega), Cntm.rd]

set_option maxRecDepth 100000 in
set_option maxHeartbeats 1600000 in
theorem readCount_some (b off len cap : Nat) (zs : List Nat) (w : World) (hl : zs.length = len) (hm : len ≤ 9223372036854775807) (hz : ∀ z ∈ zs, z < 256)
    (hcell : ∀ i, i < len → w.cell? ⟨b, off + i, none⟩ = some (.int .u8 ((zs.getD i 0 : Nat) : Int))) :
    Calls Try.prog 35 #[.slice (some ⟨b, off, none⟩) len cap] w (RdcRet (Cntm.rd 0 0 zs) w) := by
  go_enter Try.func35, Try.ntmps35
  go_wp2
  go_loop [5, 12] (fun n i => ∃ k m : Nat, k ≤ len ∧ i = .int .i64 k ∧ n = .int .u64 m ∧ RdcAt zs k m) (fun _ i => len - (intOf i).toNat)
  case atStart => exact ⟨0, 0, Nat.zero_le _, rfl, rfl, by omega, by simp, rfl⟩
  case round =>
    obtain ⟨k, m, hk, rfl, rfl, hat⟩ := hrel
    have hk9 := hat.1
    by_cases hkl : k < len
    · have hcx := hcell k hkl
      rw [getD_at zs k (by omega)] at hcx
      have hzk : zs[k] < 256 := hz _ (List.getElem_mem _)
      obtain ⟨c, hc⟩ : ∃ c, c = zs[k] := ⟨_, rfl⟩
      rw [← hc] at hcx hzk
      have HC := Lib.hid hc
      have HA := Lib.hid hat
      clear hcell hc hat
      by_cases hA : k = 9 ∧ 1 < c
      · obtain ⟨rfl, hA⟩ := hA
        go_wp2
        all_goals go_ret3
        all_goals exact ⟨rdc_mk (HA.out.form (by omega) (.inl ⟨rfl, by rw [← HC.out]; exact hA⟩)) rfl rfl rfl, rfl⟩
      · by_cases hB : 0 < k ∧ c = 0
        · obtain ⟨h0, rfl⟩ := hB
          go_wp2
          all_goals go_ret3
          all_goals exact ⟨rdc_mk (HA.out.form (by omega) (.inr ⟨h0, HC.out.symm⟩)) rfl rfl rfl, rfl⟩
        · have hV := Lib.hid (val_or m c k HA.out.2.1 hk9 hA hzk)
          have hE : ¬ ((k = 9 ∧ 1 < c) ∨ (0 < k ∧ c = 0)) := by omega
          have hE' := Lib.hid hE
          clear hE
          by_cases hC : c < 128
          · by_cases h9 : k = 9
            · subst h9
              have hc1 : c ≤ 1 := by omega
              have hc0 : 0 < c := by omega
              have hcb : ((c : Int) == 0) = false := by simp; omega
              clear hV
              go_wp2
              all_goals go_ret3
              all_goals exact ⟨rdc_mk (HA.out.last (by omega) (by rw [← HC.out]; have := hE'.out; omega) (by rw [← HC.out]; exact hC)) (by rw [← HC.out]; first | exact val_or9 m c HA.out.2.1 hc1 | exact val_or9' m c HA.out.2.1 hc1) (by omega) rfl, rfl⟩
            · go_wp2
              all_goals go_ret3
              all_goals exact ⟨rdc_mk (HA.out.last (by omega) (by rw [← HC.out]; have := hE'.out; omega) (by rw [← HC.out]; exact hC)) (by rw [← HC.out]; exact hV.out) (by omega) rfl, rfl⟩
          · have h9 : k ≠ 9 := by omega
            go_wp2
            all_goals go_round
            all_goals try (case rel => exact ⟨k + 1, _, by omega, by go_num, by rw [hV.out], by rw [HC.out]; exact HA.out.next (by omega) (by rw [← HC.out]; exact hE'.out) (by rw [← HC.out]; exact hC)⟩)
            all_goals (simp [intOf]; omega)
    · go_wp2
      go_ret3
      refine ⟨?_, rfl⟩
      rw [hat.done (by omega)]
      rfl
theorem readCount_nil (a : Option Addr) (cap : Nat) (w : World) :
    Calls Try.prog 35 #[.slice a 0 cap] w (RdcRet (0, 0, 9) w) := by
  go_enter Try.func35, Try.ntmps35
  go_wp2
  refine wp_loop_rounds 1 ?_
  rw [rounds_succ]
  go_wp2
  go_ret3
  exact ⟨rfl, rfl⟩
/-- ReadCount tells 'Cntm.rd' -/
theorem readCount_c (a : Option Addr) (len cap : Nat) (zs : List Nat) (w : World) (h : Rd w a len zs) (hm : len ≤ 9223372036854775807) :
    Calls Try.prog 35 #[.slice a len cap] w (RdcRet (Cntm.rd 0 0 zs) w) := by
  obtain ⟨hl, hz, h0 | ⟨b, off, rfl, _, hc⟩⟩ := h
  · subst h0
    obtain rfl : zs = [] := List.eq_nil_of_length_eq_zero hl
    exact readCount_nil a cap w
  · exact readCount_some b off len cap zs w hl hm hz hc

end Go.Proofs.Ytihbgigledmliaa
