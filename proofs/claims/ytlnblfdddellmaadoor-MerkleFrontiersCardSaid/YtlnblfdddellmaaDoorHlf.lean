/-
  The walks over split and the document's Half: the greatest power of two below a number.
-/
import Derived.Test.YtlnblfdddellmaaDoorLef
import Derived.Test.YtlnblfdddellmaaDoorMkm
import Derived.Lib.BitFns
namespace Go.Proofs.YtlnblfdddellmaaDoor
open Go.RowKit
set_option linter.unusedVariables false
theorem bitLen_log (n : Nat) : 0 < n → n < 18446744073709551616 → Lib.bitLen n = Nat.log2 n + 1 := by
  induction n using Nat.strongRecOn with
  | ind n ih =>
    intro h0 h1
    rw [Lib.bitLen_half n (by omega) (by simpa using h1), Nat.log2_def]
    by_cases h2 : 2 ≤ n
    · rw [if_pos h2, ih (n / 2) (by omega) (by omega) (by omega)]
      omega
    · obtain rfl : n = 1 := by omega
      decide
theorem run_tab (W : World) (i : Int) (h0 : 0 ≤ i) (h1 : i < 256) : (Instr.index 9 (.string Lib.len8tab) (.int .u8 i)).run Tryd.prog W = .ok (.int .u8 (Lib.len8 i)) W := Lib.run_index_len8tab W 9 .u8 i Tryd.underlying9 h0 (by omega)
theorem len8_end (q k L : Nat) (s : L + 1 = k + Lib.bitLen q) (h : (q : Int) < 256) (hk2 : k < 64) : wrap64 ((k : Int) + wrap64 (Lib.len8 (q : Int))) = ((L + 1 : Nat) : Int) := by
  have l := Lib.bitLen_le8' (q : Int) (by omega) (by omega)
  rw [Lib.len8_of (q : Int) (by omega) (by omega)]
  rw [Int.toNat_natCast] at l ⊢
  rw [s]
  obtain ⟨B, hB⟩ : ∃ B, B = Lib.bitLen q := ⟨_, rfl⟩
  rw [← hB] at l ⊢
  clear s hB
  unfold wrap64
  omega
theorem len8_sum (x k : Nat) (i : Int) (hx : 0 < x) (hm : x < 18446744073709551616) (hk : 2 ^ k ≤ x) (hi : i = ((x / 2 ^ k : Nat) : Int)) (h : i < 256) (hk2 : k < 64) :
    wrap64 ((k : Int) + wrap64 (Lib.len8 i)) = ((Nat.log2 x + 1 : Nat) : Int) := by
  have s := Lib.bitLen_shift k x hk (by simpa using hm)
  rw [bitLen_log x hx hm] at s
  obtain ⟨q, hq⟩ : ∃ q, q = x / 2 ^ k := ⟨_, rfl⟩
  rw [← hq] at hi s
  clear hq hk hm hx
  subst hi
  exact len8_end q k _ s h hk2
set_option maxRecDepth 100000 in
set_option maxHeartbeats 1000000 in
theorem len64_111 (x : Nat) (y : Int) (w : World) (HY : Hid (y = (x : Int))) (H0 : Hid (0 < x)) (H1 : Hid (x ≤ 9223372036854775807)) (q0 : 0 ≤ y) (c0 : 4294967296 ≤ y) (c1 : 65536 ≤ y / 4294967296) (c2 : 256 ≤ y / 4294967296 / 65536) :
    Calls Tryd.prog 62 #[.int .u64 y] w fun e w' => e = .returned (.int .i64 ((Nat.log2 x + 1 : Nat) : Int)) ∧ w = w' := by
  have h1 := H1.out
  have h0 := H0.out
  have hy := HY.out
  have e0 : 0 ≤ y / 4294967296 / 65536 / 256 := by omega
  have e1 : y / 4294967296 / 65536 / 256 < 256 := by omega
  have kI := fun W => run_tab W (y / 4294967296 / 65536 / 256) e0 e1
  have HV := Lib.hid (len8_sum x 56 (y / 4294967296 / 65536 / 256) H0.out (by omega) (by simp; omega) (by rw [hy]; omega) e1 (by omega))
  clear h0 h1 hy
  go_enter Tryd.func62, Tryd.ntmps62
  go_wp2
  go_ret
  exact ⟨ret_int (by simpa using HV.out), rfl⟩
set_option maxRecDepth 100000 in
set_option maxHeartbeats 1000000 in
theorem len64_110 (x : Nat) (y : Int) (w : World) (HY : Hid (y = (x : Int))) (H0 : Hid (0 < x)) (H1 : Hid (x ≤ 9223372036854775807)) (q0 : 0 ≤ y) (c0 : 4294967296 ≤ y) (c1 : 65536 ≤ y / 4294967296) (c2 : y / 4294967296 / 65536 < 256) :
    Calls Tryd.prog 62 #[.int .u64 y] w fun e w' => e = .returned (.int .i64 ((Nat.log2 x + 1 : Nat) : Int)) ∧ w = w' := by
  have h1 := H1.out
  have h0 := H0.out
  have hy := HY.out
  have e0 : 0 ≤ y / 4294967296 / 65536 := by omega
  have e1 : y / 4294967296 / 65536 < 256 := by omega
  have kI := fun W => run_tab W (y / 4294967296 / 65536) e0 e1
  have HV := Lib.hid (len8_sum x 48 (y / 4294967296 / 65536) H0.out (by omega) (by simp; omega) (by rw [hy]; omega) e1 (by omega))
  clear h0 h1 hy
  go_enter Tryd.func62, Tryd.ntmps62
  go_wp2
  go_ret
  exact ⟨ret_int (by simpa using HV.out), rfl⟩
set_option maxRecDepth 100000 in
set_option maxHeartbeats 1000000 in
theorem len64_101 (x : Nat) (y : Int) (w : World) (HY : Hid (y = (x : Int))) (H0 : Hid (0 < x)) (H1 : Hid (x ≤ 9223372036854775807)) (q0 : 0 ≤ y) (c0 : 4294967296 ≤ y) (c1 : y / 4294967296 < 65536) (c2 : 256 ≤ y / 4294967296) :
    Calls Tryd.prog 62 #[.int .u64 y] w fun e w' => e = .returned (.int .i64 ((Nat.log2 x + 1 : Nat) : Int)) ∧ w = w' := by
  have h1 := H1.out
  have h0 := H0.out
  have hy := HY.out
  have e0 : 0 ≤ y / 4294967296 / 256 := by omega
  have e1 : y / 4294967296 / 256 < 256 := by omega
  have kI := fun W => run_tab W (y / 4294967296 / 256) e0 e1
  have HV := Lib.hid (len8_sum x 40 (y / 4294967296 / 256) H0.out (by omega) (by simp; omega) (by rw [hy]; omega) e1 (by omega))
  clear h0 h1 hy
  go_enter Tryd.func62, Tryd.ntmps62
  go_wp2
  go_ret
  exact ⟨ret_int (by simpa using HV.out), rfl⟩
set_option maxRecDepth 100000 in
set_option maxHeartbeats 1000000 in
theorem len64_100 (x : Nat) (y : Int) (w : World) (HY : Hid (y = (x : Int))) (H0 : Hid (0 < x)) (H1 : Hid (x ≤ 9223372036854775807)) (q0 : 0 ≤ y) (c0 : 4294967296 ≤ y) (c1 : y / 4294967296 < 65536) (c2 : y / 4294967296 < 256) :
    Calls Tryd.prog 62 #[.int .u64 y] w fun e w' => e = .returned (.int .i64 ((Nat.log2 x + 1 : Nat) : Int)) ∧ w = w' := by
  have h1 := H1.out
  have h0 := H0.out
  have hy := HY.out
  have e0 : 0 ≤ y / 4294967296 := by omega
  have e1 : y / 4294967296 < 256 := by omega
  have kI := fun W => run_tab W (y / 4294967296) e0 e1
  have HV := Lib.hid (len8_sum x 32 (y / 4294967296) H0.out (by omega) (by simp; omega) (by rw [hy]; omega) e1 (by omega))
  clear h0 h1 hy
  go_enter Tryd.func62, Tryd.ntmps62
  go_wp2
  go_ret
  exact ⟨ret_int (by simpa using HV.out), rfl⟩
set_option maxRecDepth 100000 in
set_option maxHeartbeats 1000000 in
theorem len64_011 (x : Nat) (y : Int) (w : World) (HY : Hid (y = (x : Int))) (H0 : Hid (0 < x)) (H1 : Hid (x ≤ 9223372036854775807)) (q0 : 0 ≤ y) (c0 : y < 4294967296) (c1 : 65536 ≤ y) (c2 : 256 ≤ y / 65536) :
    Calls Tryd.prog 62 #[.int .u64 y] w fun e w' => e = .returned (.int .i64 ((Nat.log2 x + 1 : Nat) : Int)) ∧ w = w' := by
  have h1 := H1.out
  have h0 := H0.out
  have hy := HY.out
  have e0 : 0 ≤ y / 65536 / 256 := by omega
  have e1 : y / 65536 / 256 < 256 := by omega
  have kI := fun W => run_tab W (y / 65536 / 256) e0 e1
  have HV := Lib.hid (len8_sum x 24 (y / 65536 / 256) H0.out (by omega) (by simp; omega) (by rw [hy]; omega) e1 (by omega))
  clear h0 h1 hy
  go_enter Tryd.func62, Tryd.ntmps62
  go_wp2
  go_ret
  exact ⟨ret_int (by simpa using HV.out), rfl⟩
set_option maxRecDepth 100000 in
set_option maxHeartbeats 1000000 in
theorem len64_010 (x : Nat) (y : Int) (w : World) (HY : Hid (y = (x : Int))) (H0 : Hid (0 < x)) (H1 : Hid (x ≤ 9223372036854775807)) (q0 : 0 ≤ y) (c0 : y < 4294967296) (c1 : 65536 ≤ y) (c2 : y / 65536 < 256) :
    Calls Tryd.prog 62 #[.int .u64 y] w fun e w' => e = .returned (.int .i64 ((Nat.log2 x + 1 : Nat) : Int)) ∧ w = w' := by
  have h1 := H1.out
  have h0 := H0.out
  have hy := HY.out
  have e0 : 0 ≤ y / 65536 := by omega
  have e1 : y / 65536 < 256 := by omega
  have kI := fun W => run_tab W (y / 65536) e0 e1
  have HV := Lib.hid (len8_sum x 16 (y / 65536) H0.out (by omega) (by simp; omega) (by rw [hy]; omega) e1 (by omega))
  clear h0 h1 hy
  go_enter Tryd.func62, Tryd.ntmps62
  go_wp2
  go_ret
  exact ⟨ret_int (by simpa using HV.out), rfl⟩
set_option maxRecDepth 100000 in
set_option maxHeartbeats 1000000 in
theorem len64_001 (x : Nat) (y : Int) (w : World) (HY : Hid (y = (x : Int))) (H0 : Hid (0 < x)) (H1 : Hid (x ≤ 9223372036854775807)) (q0 : 0 ≤ y) (c0 : y < 4294967296) (c1 : y < 65536) (c2 : 256 ≤ y) :
    Calls Tryd.prog 62 #[.int .u64 y] w fun e w' => e = .returned (.int .i64 ((Nat.log2 x + 1 : Nat) : Int)) ∧ w = w' := by
  have h1 := H1.out
  have h0 := H0.out
  have hy := HY.out
  have e0 : 0 ≤ y / 256 := by omega
  have e1 : y / 256 < 256 := by omega
  have kI := fun W => run_tab W (y / 256) e0 e1
  have HV := Lib.hid (len8_sum x 8 (y / 256) H0.out (by omega) (by simp; omega) (by rw [hy]; omega) e1 (by omega))
  clear h0 h1 hy
  go_enter Tryd.func62, Tryd.ntmps62
  go_wp2
  go_ret
  exact ⟨ret_int (by simpa using HV.out), rfl⟩
set_option maxRecDepth 100000 in
set_option maxHeartbeats 1000000 in
theorem len64_000 (x : Nat) (y : Int) (w : World) (HY : Hid (y = (x : Int))) (H0 : Hid (0 < x)) (H1 : Hid (x ≤ 9223372036854775807)) (q0 : 0 ≤ y) (c0 : y < 4294967296) (c1 : y < 65536) (c2 : y < 256) :
    Calls Tryd.prog 62 #[.int .u64 y] w fun e w' => e = .returned (.int .i64 ((Nat.log2 x + 1 : Nat) : Int)) ∧ w = w' := by
  have h1 := H1.out
  have h0 := H0.out
  have hy := HY.out
  have e0 : 0 ≤ y := by omega
  have e1 : y < 256 := by omega
  have kI := fun W => run_tab W (y) e0 e1
  have HV := Lib.hid (len8_sum x 0 (y) H0.out (by omega) (by simp; omega) (by rw [hy]; simp) e1 (by omega))
  clear h0 h1 hy
  go_enter Tryd.func62, Tryd.ntmps62
  go_wp2
  go_ret
  exact ⟨ret_int (by simpa using HV.out), rfl⟩
theorem len64_c (x : Nat) (w : World) (h0 : 0 < x) (h1 : x ≤ 9223372036854775807) :
    Calls Tryd.prog 62 #[.int .u64 (x : Int)] w fun e w' => e = .returned (.int .i64 ((Nat.log2 x + 1 : Nat) : Int)) ∧ w = w' := by
  obtain ⟨y, hy⟩ : ∃ y : Int, y = (x : Int) := ⟨_, rfl⟩
  have q0 : 0 ≤ y := by omega
  rw [← hy]
  have HY := Lib.hid hy
  have H1 := Lib.hid h1
  have H0 := Lib.hid h0
  by_cases c0 : 4294967296 ≤ y
  · by_cases c1 : 65536 ≤ y / 4294967296
    · by_cases c2 : 256 ≤ y / 4294967296 / 65536
      · exact len64_111 x y w HY H0 H1 q0 c0 c1 c2
      · exact len64_110 x y w HY H0 H1 q0 c0 c1 (by omega)
    · by_cases c2 : 256 ≤ y / 4294967296
      · exact len64_101 x y w HY H0 H1 q0 c0 (by omega) c2
      · exact len64_100 x y w HY H0 H1 q0 c0 (by omega) (by omega)
  · by_cases c1 : 65536 ≤ y
    · by_cases c2 : 256 ≤ y / 65536
      · exact len64_011 x y w HY H0 H1 q0 (by omega) c1 c2
      · exact len64_010 x y w HY H0 H1 q0 (by omega) c1 (by omega)
    · by_cases c2 : 256 ≤ y
      · exact len64_001 x y w HY H0 H1 q0 (by omega) (by omega) c2
      · exact len64_000 x y w HY H0 H1 q0 (by omega) (by omega) (by omega)
end Go.Proofs.YtlnblfdddellmaaDoor
