/-
  The walks over Get, the program's and the document's, and Word.
-/
import Derived.Test.YthnfbdmkdpokcabDoorBase
import Derived.Test.YthnfbdmkdpokcabDoorNumm
namespace Go.Proofs.YthnfbdmkdpokcabDoor
open Go.RowKit

theorem get_step (N c : Nat) (hN : N < 72057594037927936) (hc : c < 256) : bits .or .u64 ((N : Int) * 256) (c : Int) = ((N * 256 + c : Nat) : Int) := by
  rw [show ((N : Int) * 256) = ((N * 256 : Nat) : Int) by omega, u64_or_nat _ _ (by omega) (by omega), Numm.or_low _ _ hc]

set_option maxRecDepth 100000 in
set_option maxHeartbeats 400000 in
theorem get_some (b off len cap : Nat) (zs : List Nat) (w : World) (hl : zs.length = len) (hm : len ≤ 8) (hz : ∀ z ∈ zs, z < 256)
    (hcell : ∀ i, i < len → w.cell? ⟨b, off + i, none⟩ = some (.int .u8 ((zs.getD i 0 : Nat) : Int))) :
    Calls Tryd.prog 32 #[.slice (some ⟨b, off, none⟩) len cap] w fun e w' => e = .returned (.tuple #[.int .u64 ((Numm.num 0 zs : Nat) : Int), .bool true]) ∧ w = w' := by
  go_enter Tryd.func32, Tryd.ntmps32
  go_wp2
  go_loop [4, 12] (fun c i => ∃ k : Nat, k ≤ len ∧ i = .int .i64 k ∧ c = .int .u64 (Numm.num 0 (zs.take k) : Nat)) (fun _ i => len - (intOf i).toNat)
  case atStart => exact ⟨0, Nat.zero_le _, rfl, rfl⟩
  case round =>
    obtain ⟨k, hk, rfl, rfl⟩ := hrel
    by_cases hkl : k < len
    · have hcx := hcell k hkl
      rw [getD_at zs k (by omega)] at hcx
      have hzk : zs[k] < 256 := hz _ (List.getElem_mem _)
      have hN := Numm.num_take_lt7 zs hz (by omega) k (by omega)
      have HS := Lib.hid (Numm.num_snoc 0 zs k (by omega))
      obtain ⟨N, hNe⟩ : ∃ N, N = Numm.num 0 (zs.take k) := ⟨_, rfl⟩
      rw [← hNe] at hN
      rw [← hNe]
      obtain ⟨c, hc⟩ : ∃ c, c = zs[k] := ⟨_, rfl⟩
      rw [← hc] at hcx hzk
      have HN := Lib.hid hNe
      have HC := Lib.hid hc
      clear hcell hc hNe
      go_wp2
      go_round
      case rel => exact ⟨k + 1, by omega, by go_num, by rw [HS.out, ← HN.out, ← HC.out, get_step N c hN hzk]⟩
      case measure => simp [intOf]; omega
    · go_wp2
      go_ret2
      obtain rfl : k = len := by omega
      rw [List.take_of_length_le (by omega)]
      exact ⟨rfl, rfl⟩

theorem get_nil (a : Option Addr) (cap : Nat) (w : World) :
    Calls Tryd.prog 32 #[.slice a 0 cap] w fun e w' => e = .returned (.tuple #[.int .u64 0, .bool true]) ∧ w = w' := by
  go_enter Tryd.func32, Tryd.ntmps32
  go_wp2
  refine wp_loop_rounds 1 ?_
  rw [rounds_succ]
  go_wp2
  go_ret2
  exact ⟨rfl, rfl⟩
theorem get_long (a : Option Addr) (len cap : Nat) (w : World) (h : 8 < len) :
    Calls Tryd.prog 32 #[.slice a len cap] w fun e w' => e = .returned (.tuple #[.int .u64 0, .bool false]) ∧ w = w' := by
  go_enter Tryd.func32, Tryd.ntmps32
  go_wp2
  go_ret2
  exact ⟨rfl, rfl⟩
/-- the number of eight bytes at most -/
theorem get_c (a : Option Addr) (len cap : Nat) (zs : List Nat) (w : World) (h : Rd w a len zs) (hm : len ≤ 8) :
    Calls Tryd.prog 32 #[.slice a len cap] w fun e w' => e = .returned (.tuple #[.int .u64 ((Numm.num 0 zs : Nat) : Int), .bool true]) ∧ w = w' := by
  obtain ⟨hl, hz, h0 | ⟨b, off, rfl, _, hc⟩⟩ := h
  · subst h0
    obtain rfl : zs = [] := List.eq_nil_of_length_eq_zero hl
    exact get_nil a cap w
  · exact get_some b off len cap zs w hl hm hz hc

set_option maxRecDepth 100000 in
set_option maxHeartbeats 400000 in
theorem refGet_some (b off len cap : Nat) (zs : List Nat) (w : World) (hl : zs.length = len) (hm : len ≤ 8) (hz : ∀ z ∈ zs, z < 256)
    (hcell : ∀ i, i < len → w.cell? ⟨b, off + i, none⟩ = some (.int .u8 ((zs.getD i 0 : Nat) : Int))) :
    Calls Tryd.prog 39 #[.slice (some ⟨b, off, none⟩) len cap] w fun e w' => e = .returned (.tuple #[.int .u64 ((Numm.num 0 zs : Nat) : Int), .bool true]) ∧ w = w' := by
  go_enter Tryd.func39, Tryd.ntmps39
  go_wp2
  go_loop [4, 5] (fun c i => ∃ k : Nat, k ≤ len ∧ i = .int .i64 k ∧ c = .int .u64 (Numm.num 0 (zs.take k) : Nat)) (fun _ i => len - (intOf i).toNat)
  case atStart => exact ⟨0, Nat.zero_le _, rfl, rfl⟩
  case round =>
    obtain ⟨k, hk, rfl, rfl⟩ := hrel
    by_cases hkl : k < len
    · have hcx := hcell k hkl
      rw [getD_at zs k (by omega)] at hcx
      have hzk : zs[k] < 256 := hz _ (List.getElem_mem _)
      have hN := Numm.num_take_lt7 zs hz (by omega) k (by omega)
      have HS := Lib.hid (Numm.num_snoc 0 zs k (by omega))
      obtain ⟨N, hNe⟩ : ∃ N, N = Numm.num 0 (zs.take k) := ⟨_, rfl⟩
      rw [← hNe] at hN
      rw [← hNe]
      obtain ⟨c, hc⟩ : ∃ c, c = zs[k] := ⟨_, rfl⟩
      rw [← hc] at hcx hzk
      have HN := Lib.hid hNe
      have HC := Lib.hid hc
      clear hcell hc hNe
      go_wp2
      go_round
      case rel => exact ⟨k + 1, by omega, by go_num, by rw [HS.out, ← HN.out, ← HC.out]; go_num⟩
      case measure => simp [intOf]; omega
    · go_wp2
      go_ret2
      obtain rfl : k = len := by omega
      rw [List.take_of_length_le (by omega)]
      exact ⟨rfl, rfl⟩

theorem refGet_nil (a : Option Addr) (cap : Nat) (w : World) :
    Calls Tryd.prog 39 #[.slice a 0 cap] w fun e w' => e = .returned (.tuple #[.int .u64 0, .bool true]) ∧ w = w' := by
  go_enter Tryd.func39, Tryd.ntmps39
  go_wp2
  refine wp_loop_rounds 1 ?_
  rw [rounds_succ]
  go_wp2
  go_ret2
  exact ⟨rfl, rfl⟩
theorem refGet_long (a : Option Addr) (len cap : Nat) (w : World) (h : 8 < len) :
    Calls Tryd.prog 39 #[.slice a len cap] w fun e w' => e = .returned (.tuple #[.int .u64 0, .bool false]) ∧ w = w' := by
  go_enter Tryd.func39, Tryd.ntmps39
  go_wp2
  go_ret2
  exact ⟨rfl, rfl⟩
/-- the number of eight bytes at most -/
theorem refGet_c (a : Option Addr) (len cap : Nat) (zs : List Nat) (w : World) (h : Rd w a len zs) (hm : len ≤ 8) :
    Calls Tryd.prog 39 #[.slice a len cap] w fun e w' => e = .returned (.tuple #[.int .u64 ((Numm.num 0 zs : Nat) : Int), .bool true]) ∧ w = w' := by
  obtain ⟨hl, hz, h0 | ⟨b, off, rfl, _, hc⟩⟩ := h
  · subst h0
    obtain rfl : zs = [] := List.eq_nil_of_length_eq_zero hl
    exact refGet_nil a cap w
  · exact refGet_some b off len cap zs w hl hm hz hc

/-- Word: where there are four bytes -/
theorem word_out (a : Option Addr) (len cap : Nat) (at_ : Int) (w : World) (h : at_ < 0 ∨ (len : Int) - 4 < at_) (hl : len ≤ 9223372036854775807) :
    Calls Tryd.prog 33 #[.slice a len cap, .int .i64 at_] w (RetD (.tuple #[.int .u32 0, .bool false]) w) := by
  by_cases h0 : at_ < 0
  · go_enter Tryd.func33, Tryd.ntmps33
    go_wp2
    go_ret2
    exact ⟨rfl, 0, rfl⟩
  · have h1 : (len : Int) - 4 < at_ := by omega
    clear h
    go_enter Tryd.func33, Tryd.ntmps33
    go_wp2
    go_ret2
    exact ⟨rfl, 0, rfl⟩
theorem word_val (x0 x1 x2 x3 : Nat) (h0 : x0 < 256) (h1 : x1 < 256) (h2 : x2 < 256) (h3 : x3 < 256) :
    bits .or .u32 (bits .or .u32 (bits .or .u32 ((x0 : Int) * 16777216) ((x1 : Int) * 65536)) ((x2 : Int) * 256)) (x3 : Int) = ((Numm.num 0 [x0, x1, x2, x3] : Nat) : Int) := by
  have e : Numm.num 0 [x0, x1, x2, x3] = x0 * 16777216 + x1 * 65536 + x2 * 256 + x3 := by simp [Numm.num]; omega
  have f1 := Nat.two_pow_add_eq_or_of_lt (i := 24) (b := x1 * 65536) (by omega) x0
  have f2 := Nat.two_pow_add_eq_or_of_lt (i := 16) (b := x2 * 256) (by omega) (x0 * 256 + x1)
  have f3 := Nat.two_pow_add_eq_or_of_lt (i := 8) (b := x3) (by omega) (x0 * 65536 + x1 * 256 + x2)
  have g1 : x0 * 16777216 ||| x1 * 65536 = x0 * 16777216 + x1 * 65536 := by rw [show x0 * 16777216 = 2 ^ 24 * x0 by omega, ← f1]
  have g2 : (x0 * 16777216 + x1 * 65536) ||| x2 * 256 = x0 * 16777216 + x1 * 65536 + x2 * 256 := by rw [show x0 * 16777216 + x1 * 65536 = 2 ^ 16 * (x0 * 256 + x1) by omega, ← f2]
  have g3 : (x0 * 16777216 + x1 * 65536 + x2 * 256) ||| x3 = x0 * 16777216 + x1 * 65536 + x2 * 256 + x3 := by rw [show x0 * 16777216 + x1 * 65536 + x2 * 256 = 2 ^ 8 * (x0 * 65536 + x1 * 256 + x2) by omega, ← f3]
  rw [show ((x0 : Int) * 16777216) = ((x0 * 16777216 : Nat) : Int) by omega, show ((x1 : Int) * 65536) = ((x1 * 65536 : Nat) : Int) by omega, show ((x2 : Int) * 256) = ((x2 * 256 : Nat) : Int) by omega]
  rw [u32_or_nat _ _ (by omega) (by omega), g1, u32_or_nat _ _ (by omega) (by omega), g2, u32_or_nat _ _ (by omega) (by omega), g3, e]
theorem word_ret {a b : Int} (h : a = b) : Ending.returned (.tuple #[.int .u32 a, .bool true]) = .returned (.tuple #[.int .u32 b, .bool true]) := by rw [h]
set_option maxRecDepth 100000 in
set_option maxHeartbeats 800000 in
theorem word_in (b off len cap k : Nat) (zs : List Nat) (w : World) (hl : zs.length = len) (hm : len ≤ 9223372036854775807) (hz : ∀ z ∈ zs, z < 256) (hk : k + 4 ≤ len)
    (hcell : ∀ i, i < len → w.cell? ⟨b, off + i, none⟩ = some (.int .u8 ((zs.getD i 0 : Nat) : Int))) :
    Calls Tryd.prog 33 #[.slice (some ⟨b, off, none⟩) len cap, .int .i64 (k : Int)] w (RetD (.tuple #[.int .u32 ((Numm.num 0 [zs.getD k 0, zs.getD (k + 1) 0, zs.getD (k + 2) 0, zs.getD (k + 3) 0] : Nat) : Int), .bool true]) w) := by
  have hb : ∀ i, i < len → zs.getD i 0 < 256 := fun i hi => by rw [getD_at zs i (by omega)]; exact hz _ (List.getElem_mem _)
  have b0 := hb k (by omega)
  have b1 := hb (k + 1) (by omega)
  have b2 := hb (k + 2) (by omega)
  have b3 := hb (k + 3) (by omega)
  have c0 := hcell k (by omega)
  have c1 := hcell (k + 1) (by omega)
  have c2 := hcell (k + 2) (by omega)
  have c3 := hcell (k + 3) (by omega)
  obtain ⟨x0, e0⟩ : ∃ x, zs.getD k 0 = x := ⟨_, rfl⟩
  obtain ⟨x1, e1⟩ : ∃ x, zs.getD (k + 1) 0 = x := ⟨_, rfl⟩
  obtain ⟨x2, e2⟩ : ∃ x, zs.getD (k + 2) 0 = x := ⟨_, rfl⟩
  obtain ⟨x3, e3⟩ : ∃ x, zs.getD (k + 3) 0 = x := ⟨_, rfl⟩
  rw [e0] at b0 c0 ⊢
  rw [e1] at b1 c1 ⊢
  rw [e2] at b2 c2 ⊢
  rw [e3] at b3 c3 ⊢
  clear e0 e1 e2 e3 hcell hb hz
  have HV := Lib.hid (word_val x0 x1 x2 x3 b0 b1 b2 b3)
  have q0 : (0 : Int) ≤ (k : Int) := by omega
  have q1 : (k : Int) + 3 < (len : Int) := by omega
  go_enter Tryd.func33, Tryd.ntmps33
  go_wp2
  go_quiet (fail)
  go_wp2
  go_ret2
  exact ⟨word_ret HV.out, nq, rfl⟩
/-- Word of bytes that can be read -/
theorem word_c (a : Option Addr) (len cap k : Nat) (zs : List Nat) (w : World) (h : Rd w a len zs) (hm : len ≤ 9223372036854775807) (hk : k + 4 ≤ len) :
    Calls Tryd.prog 33 #[.slice a len cap, .int .i64 (k : Int)] w (RetD (.tuple #[.int .u32 ((Numm.num 0 [zs.getD k 0, zs.getD (k + 1) 0, zs.getD (k + 2) 0, zs.getD (k + 3) 0] : Nat) : Int), .bool true]) w) := by
  obtain ⟨hl, hz, h0 | ⟨b, off, rfl, _, hc⟩⟩ := h
  · omega
  · exact word_in b off len cap k zs w hl hm hz hk hc
end Go.Proofs.YthnfbdmkdpokcabDoor
