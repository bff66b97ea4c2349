/-
  The walks over Get, the program's and the document's, and Word.
-/
import Derived.Test.YthnfbdmkdpokcaaDoorBase
import Derived.Test.YthnfbdmkdpokcaaDoorNumm
namespace Go.Proofs.YthnfbdmkdpokcaaDoor
open Go.RowKit

theorem get_step (N c : Nat) (hN : N < 72057594037927936) (hc : c < 256) : bits .or .u64 ((N : Int) * 256) (c : Int) = ((N * 256 + c : Nat) : Int) := by
  rw [show ((N : Int) * 256) = ((N * 256 : Nat) : Int) by omega, u64_or_nat _ _ (by omega) (by omega), Numm.or_low _ _ hc]

/-- Word: where there are four bytes -/
theorem word_out (a : Option Addr) (len cap : Nat) (at_ : Int) (w : World) (h : at_ < 0 ∨ (len : Int) - 4 < at_) (hl : len ≤ 9223372036854775807) :
    Calls Tryd.prog 77 #[.slice a len cap, .int .i64 at_] w (RetD (.tuple #[.int .u32 0, .bool false]) w) := by
  by_cases h0 : at_ < 0
  · go_enter Tryd.func77, Tryd.ntmps77
    go_wp2
    go_ret2
    exact ⟨rfl, 0, rfl⟩
  · have h1 : (len : Int) - 4 < at_ := by omega
    clear h
    go_enter Tryd.func77, Tryd.ntmps77
    go_wp2
    go_ret2
    exact ⟨rfl, 0, rfl⟩
theorem word_val (x0 x1 x2 x3 : Nat) (h0 : x0 < 256) (h1 : x1 < 256) (h2 : x2 < 256) (h3 : x3 < 256) :
    bits .or .u32 (bits .or .u32 (bits .or .u32 ((x0 : Int) * 16777216) ((x1 : Int) * 65536)) ((x2 : Int) * 256)) (x3 : Int) = ((Numm.num 0 [x0, x1, x2, x3] : Nat) : Int) := by
  have e : Numm.num 0 [x0, x1, x2, x3] = x0 * 16777216 + x1 * 65536 + x2 * 256 + x3 := by simp [Numm.num]; omega
  have f1 := Nat.two_pow_add_eq_or_of_lt (i := 24) (b := x1 * 65536) (by omega) x0
  have f2 := Nat.two_pow_add_eq_or_of_lt (i := 16) (b := x2 * 256) (by omega) (x0 * 256 + x1)
  have f3 := Nat.two_pow_add_eq_or_of_lt (i := 8) (b := x3) (by omega) (x0 * 65536 + x1 * 256 + x2)
  have g1 : x0 * 16777216 ||| x1 * 65536 = x0 * 16777216 + x1 * 65536 := by rw [show x0 * 16777216 = 2 ^ 24 * x0 by omega, ← f1]
  have g2 : (x0 * 16777216 + x1 * 65536) ||| x2 * 256 = x0 * 16777216 + x1 * 65536 + x2 * 256 := by rw [show x0 * 16777216 + x1 * 65536 = 2 ^ 16 * (x0 * 256 + x1) by omega, ← f2]
  have g3 : (x0 * 16777216 + x1 * 65536 + x2 * 256) ||| x3 = x0 * 16777216 + x1 * 65536 + x2 * 256 + x3 := by rw [show x0 * 16777216 + x1 * 65536 + x2 * 256 = 2 ^ 8 * (x0 * 65536 + x1 * 256 + x2) by omega, ← f3]
  rw [show ((x0 : Int) * 16777216) = ((x0 * 16777216 : Nat) : Int) by omega, show ((x1 : Int) * 65536) = ((x1 * 65536 : Nat) : Int) by omega, show ((x2 : Int) * 256) = ((x2 * 256 : Nat) : Int) by omega]
  rw [u32_or_nat _ _ (by omega) (by omega), g1, u32_or_nat _ _ (by omega) (by omega), g2, u32_or_nat _ _ (by omega) (by omega), g3, e]
theorem word_ret {a b : Int} (h : a = b) : Ending.returned (.tuple #[.int .u32 a, .bool true]) = .returned (.tuple #[.int .u32 b, .bool true]) := by rw [h]
set_option maxRecDepth 100000 in
set_option maxHeartbeats 800000 in
theorem word_in (b off len cap k : Nat) (zs : List Nat) (w : World) (hl : zs.length = len) (hm : len ≤ 9223372036854775807) (hz : ∀ z ∈ zs, z < 256) (hk : k + 4 ≤ len)
    (hcell : ∀ i, i < len → w.cell? ⟨b, off + i, none⟩ = some (.int .u8 ((zs.getD i 0 : Nat) : Int))) :
    Calls Tryd.prog 77 #[.slice (some ⟨b, off, none⟩) len cap, .int .i64 (k : Int)] w (RetD (.tuple #[.int .u32 ((Numm.num 0 [zs.getD k 0, zs.getD (k + 1) 0, zs.getD (k + 2) 0, zs.getD (k + 3) 0] : Nat) : Int), .bool true]) w) := by
  have hb : ∀ i, i < len → zs.getD i 0 < 256 := fun i hi => by rw [getD_at zs i (by omega)]; exact hz _ (List.getElem_mem _)
  have b0 := hb k (by omega)
  have b1 := hb (k + 1) (by omega)
  have b2 := hb (k + 2) (by omega)
  have b3 := hb (k + 3) (by omega)
  have c0 := hcell k (by omega)
  have c1 := hcell (k + 1) (by omega)
  have c2 := hcell (k + 2) (by omega)
  have c3 := hcell (k + 3) (by omega)
  obtain ⟨x0, e0⟩ : ∃ x, zs.getD k 0 = x := ⟨_, rfl⟩
  obtain ⟨x1, e1⟩ : ∃ x, zs.getD (k + 1) 0 = x := ⟨_, rfl⟩
  obtain ⟨x2, e2⟩ : ∃ x, zs.getD (k + 2) 0 = x := ⟨_, rfl⟩
  obtain ⟨x3, e3⟩ : ∃ x, zs.getD (k + 3) 0 = x := ⟨_, rfl⟩
  rw [e0] at b0 c0 ⊢
  rw [e1] at b1 c1 ⊢
  rw [e2] at b2 c2 ⊢
  rw [e3] at b3 c3 ⊢
  clear e0 e1 e2 e3 hcell hb hz
  have HV := Lib.hid (word_val x0 x1 x2 x3 b0 b1 b2 b3)
  have q0 : (0 : Int) ≤ (k : Int) := by omega
  have q1 : (k : Int) + 3 < (len : Int) := by omega
  go_enter Tryd.func77, Tryd.ntmps77
  go_wp2
  go_quiet (fail)
  go_wp2
  go_ret2
  exact ⟨word_ret HV.out, nq, rfl⟩
/-- Word of bytes that can be read -/
theorem word_c (a : Option Addr) (len cap k : Nat) (zs : List Nat) (w : World) (h : Rd w a len zs) (hm : len ≤ 9223372036854775807) (hk : k + 4 ≤ len) :
    Calls Tryd.prog 77 #[.slice a len cap, .int .i64 (k : Int)] w (RetD (.tuple #[.int .u32 ((Numm.num 0 [zs.getD k 0, zs.getD (k + 1) 0, zs.getD (k + 2) 0, zs.getD (k + 3) 0] : Nat) : Int), .bool true]) w) := by
  obtain ⟨hl, hz, h0 | ⟨b, off, rfl, _, hc⟩⟩ := h
  · omega
  · exact word_in b off len cap k zs w hl hm hz hk hc
end Go.Proofs.YthnfbdmkdpokcaaDoor
