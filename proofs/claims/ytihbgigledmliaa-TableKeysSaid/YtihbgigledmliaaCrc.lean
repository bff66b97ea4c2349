/-
  The walks over octet.Crc and the document's Crc: both give the register that 'Crcm' tells, for every list of bytes.
-/
import Derived.Test.YtihbgigledmliaaPka
import Derived.Test.YtihbgigledmliaaCrcm
namespace Go.Proofs.Ytihbgigledmliaa
open Go.RowKit

theorem reg_lt' (zs : List Nat) (hz : ∀ z ∈ zs, z < 256) : ∀ c, c < 4294967296 → Crcm.reg c zs < 4294967296 := by
  induction zs with
  | nil => intro c h; exact h
  | cons z zs ih =>
    intro c h
    refine ih (fun x hx => hz x (List.mem_cons_of_mem _ hx)) _ (Crcm.sN_lt _ _ ?_)
    have := hz z List.mem_cons_self
    exact Nat.xor_lt_two_pow (n := 32) (by omega) (by omega)
theorem reg_lt (zs : List Nat) (hz : ∀ z ∈ zs, z < 256) (k : Nat) : Crcm.reg 4294967295 (zs.take k) < 4294967296 :=
  reg_lt' _ (fun x hx => hz x (List.mem_of_mem_take hx)) _ (by omega)
theorem reg_snoc (zs : List Nat) (k : Nat) (h : k < zs.length) : Crcm.reg 4294967295 (zs.take (k + 1)) = Crcm.sN 8 (Crcm.reg 4294967295 (zs.take k) ^^^ zs[k]) := by
  unfold Crcm.reg
  rw [List.take_succ_eq_append_getElem h, List.foldl_append]
  rfl
theorem turn_eq (C : Nat) (h : C < 4294967296) : bits .xor .u32 ((C:Int) / 2) (bits .and .u32 3988292384 (-(bits .and .u32 (C:Int) 1) % 4294967296)) = ((Crcm.s C : Nat) : Int) := by
  have e1 : bits .and .u32 (C:Int) 1 = ((C % 2 : Nat) : Int) := by
    have := u32_and_nat C 1 h (by omega)
    rw [Nat.and_one_is_mod] at this
    exact this
  have e2 : ((C : Int) / 2) = ((C / 2 : Nat) : Int) := by omega
  rw [e1, e2]
  unfold Crcm.s
  rcases Nat.mod_two_eq_zero_or_one C with h0 | h1
  · rw [h0]
    have := u32_and_nat 3988292384 0 (by omega) (by omega)
    rw [show (-((0 : Nat) : Int) % 4294967296) = ((0 : Nat) : Int) by omega]
    rw [show (3988292384 : Int) = ((3988292384 : Nat) : Int) by rfl, this]
    rw [show 3988292384 &&& 0 = 0 by decide, u32_xor_nat _ _ (by omega) (by omega)]
    simp [Nat.shiftRight_eq_div_pow]
  · rw [h1]
    have := u32_and_nat 3988292384 4294967295 (by omega) (by omega)
    rw [show (-((1 : Nat) : Int) % 4294967296) = ((4294967295 : Nat) : Int) by omega]
    rw [show (3988292384 : Int) = ((3988292384 : Nat) : Int) by rfl, this]
    rw [show 3988292384 &&& 4294967295 = 3988292384 by decide, u32_xor_nat _ _ (by omega) (by omega)]
    simp [Nat.shiftRight_eq_div_pow]
theorem Crcm.sN_succ (m X : Nat) : Crcm.sN (m + 1) X = Crcm.s (Crcm.sN m X) := by
  rw [Crcm.sN_add]; rfl
theorem not_eq (C : Nat) (h : C < 4294967296) : bits .xor .u32 IntKind.u32.max (C : Int) = ((4294967295 - C : Nat) : Int) := by
  have e : IntKind.u32.max = ((4294967295 : Nat) : Int) := rfl
  rw [e, u32_xor_nat _ _ (by omega) h]
  congr 1
  apply Nat.eq_of_testBit_eq
  intro i
  have h1 := Nat.testBit_two_pow_sub_succ (n := 32) h i
  have h2 := Nat.testBit_two_pow_sub_succ (n := 32) (x := 0) (by omega) i
  rw [show 2 ^ 32 - (C + 1) = 4294967295 - C by omega] at h1
  rw [show 2 ^ 32 - (0 + 1) = 4294967295 by omega] at h2
  rw [h1, Nat.testBit_xor, h2]
  by_cases hi : i < 32
  · simp [hi]
  · have : C.testBit i = false := Nat.testBit_lt_two_pow (Nat.lt_of_lt_of_le h (show 4294967296 ≤ 2 ^ i from Nat.pow_le_pow_right (n := 2) (by omega) (show 32 ≤ i by omega)))
    simp [hi, this]
theorem x0 (C z : Nat) (h : C < 4294967296) (hz : z < 256) : bits BinOp.xor IntKind.u32 (C : Int) ((z : Int) % 4294967296) = ((C ^^^ z : Nat) : Int) := by
  rw [show ((z : Int) % 4294967296) = ((z : Nat) : Int) by omega]
  exact u32_xor_nat C z h (by omega)

set_option maxHeartbeats 400000 in
theorem crc_some (b off len cap : Nat) (zs : List Nat) (w : World) (hl : zs.length = len) (hm : len ≤ 9223372036854775807) (hz : ∀ z ∈ zs, z < 256)
    (hcell : ∀ i, i < len → w.cell? ⟨b, off + i, none⟩ = some (.int .u8 ((zs.getD i 0 : Nat) : Int))) :
    Calls Try.prog 84 #[.slice (some ⟨b, off, none⟩) len cap] w fun e w' => e = .returned (.int .u32 (4294967295 - Crcm.reg 4294967295 zs : Nat)) ∧ w = w' := by
  go_enter Try.func84, Try.ntmps84
  go_wp2
  go_loop [3, 8] (fun c i => ∃ k : Nat, k ≤ len ∧ i = .int .i64 k ∧ c = .int .u32 (Crcm.reg 4294967295 (zs.take k) : Nat)) (fun _ i => len - (intOf i).toNat)
  case atStart => exact ⟨0, Nat.zero_le _, rfl, rfl⟩
  case round =>
    obtain ⟨k, hk, rfl, rfl⟩ := hrel
    have hcx : k < len → w.cell? ⟨b, off + k, none⟩ = some (.int .u8 ((zs.getD k 0 : Nat) : Int)) := fun h => hcell k h
    clear hcell
    go_wp2
    · have hk1 : k < len := by assumption
      have hR := reg_lt zs hz k
      have hzk : zs[k] < 256 := hz _ (List.getElem_mem _)
      have e0 := x0 (Crcm.reg 4294967295 (zs.take k)) zs[k] hR hzk
      rw [e0]
      clear e0 hcx
      obtain ⟨X, hX⟩ : ∃ X, X = Crcm.reg 4294967295 (List.take k zs) ^^^ zs[k] := ⟨_, rfl⟩
      have HX := Lib.hid hX
      have hX4 : X < 4294967296 := by rw [hX]; exact Nat.xor_lt_two_pow (n := 32) (by omega) (by omega)
      rw [← hX]
      clear hX
      go_loop [3, 16] (fun c j => ∃ m : Nat, m ≤ 8 ∧ j = .int .i64 m ∧ c = .int .u32 (Crcm.sN m X : Nat)) (fun _ j => 8 - (intOf j).toNat)
      case atStart => exact ⟨0, by omega, rfl, rfl⟩
      case round =>
        obtain ⟨m, hm8, rfl, rfl⟩ := hrel
        have hS : Crcm.sN m X < 4294967296 := Crcm.sN_lt _ _ hX4
        have HT := Lib.hid (turn_eq (Crcm.sN m X) hS)
        have HN := Lib.hid (Crcm.sN_succ m X)
        go_wp2
        · go_round
          case rel => exact ⟨m + 1, by omega, by go_num, by rw [HN.out, ← HT.out]⟩
          case measure => simp [intOf]; omega
        · go_round
          case rel => exact ⟨k + 1, by omega, by go_num, by rw [reg_snoc zs k (by omega), ← HX.out, show m = 8 by omega]⟩
          case measure => simp [intOf]; omega
    · go_ret
      have hk : k = len := by omega
      subst hk
      refine ⟨?_, rfl⟩
      have hR := reg_lt' zs hz 4294967295 (by omega)
      rw [List.take_of_length_le (by omega)]
      exact ret_int (not_eq _ hR)

theorem crc_nil (a : Option Addr) (cap : Nat) (w : World) :
    Calls Try.prog 84 #[.slice a 0 cap] w fun e w' => e = .returned (.int .u32 0) ∧ w = w' := by
  go_enter Try.func84, Try.ntmps84
  go_wp2
  refine wp_loop_rounds 1 ?_
  rw [rounds_succ]
  go_wp2
  go_ret
  exact ⟨rfl, rfl⟩

/-- octet.Crc: the complement of the register -/
theorem crc_c (a : Option Addr) (len cap : Nat) (zs : List Nat) (w : World) (h : Rd w a len zs) (hm : len ≤ 9223372036854775807) :
    Calls Try.prog 84 #[.slice a len cap] w fun e w' => e = .returned (.int .u32 ((4294967295 - Crcm.reg 4294967295 zs : Nat) : Int)) ∧ w = w' := by
  obtain ⟨hl, hz, h0 | ⟨b, off, rfl, _, hc⟩⟩ := h
  · subst h0
    obtain rfl : zs = [] := List.eq_nil_of_length_eq_zero hl
    exact (crc_nil a cap w).mono fun e w' h => h
  · exact crc_some b off len cap zs w hl hm hz hc

theorem half_eq (C : Nat) (h : C < 4294967296) (h1 : C % 2 = 1) : bits .xor .u32 ((C:Int) / 2) 3988292384 = ((Crcm.s C : Nat) : Int) := by
  have e2 : ((C : Int) / 2) = ((C / 2 : Nat) : Int) := by omega
  rw [e2, show (3988292384 : Int) = ((3988292384 : Nat) : Int) by rfl, u32_xor_nat _ _ (by omega) (by omega)]
  unfold Crcm.s
  rw [if_pos h1, Nat.shiftRight_eq_div_pow]
theorem half_eq0 (C : Nat) (h1 : C % 2 = 0) : ((C:Int) / 2) = ((Crcm.s C : Nat) : Int) := by
  have e2 : ((C : Int) / 2) = ((C / 2 : Nat) : Int) := by omega
  unfold Crcm.s
  rw [e2, if_neg (by omega), Nat.shiftRight_eq_div_pow, Nat.xor_zero]

end Go.Proofs.Ytihbgigledmliaa
