/-
  The walk over 'awake' of layer 1: the answers that the document fixes.
-/
import Derived.Test.YtnnofcfagdbafaaCrc
import Derived.Test.YtnnofcfagdbafaaRot
import Derived.Test.YtnnofcfagdbafaaRdc
import Derived.Test.YtnnofcfagdbafaaHex
import Derived.Lib.SlBytesConst
namespace Go.Proofs.Ytnnofcfagdbafaa
open Go.RowKit

theorem lit3 (w : World) : Rd (w.alloc (.cells #[.int .u8 172, .int .u8 2, .int .u8 9] 5)) (some ⟨w.heap.size, 0, none⟩) 3 [172, 2, 9] :=
  ⟨rfl, by decide, .inr ⟨w.heap.size, 0, rfl, by simp, fun i hi => by
    match i, hi with
    | 0, _ => simp
    | 1, _ => simp
    | 2, _ => simp⟩⟩
theorem lit2 (w : World) : Rd (w.alloc (.cells #[.int .u8 0, .int .u8 255] 5)) (some ⟨w.heap.size, 0, none⟩) 2 [0, 255] :=
  ⟨rfl, by decide, .inr ⟨w.heap.size, 0, rfl, by simp, fun i hi => by
    match i, hi with
    | 0, _ => simp
    | 1, _ => simp⟩⟩
theorem lit9 (w : World) : Rd (w.alloc (.cells #[.int .u8 49, .int .u8 50, .int .u8 51, .int .u8 52, .int .u8 53, .int .u8 54, .int .u8 55, .int .u8 56, .int .u8 57] 5 (9, 10))) (some ⟨w.heap.size, 0, none⟩) 9 [49, 50, 51, 52, 53, 54, 55, 56, 57] :=
  rd_lit w [49, 50, 51, 52, 53, 54, 55, 56, 57] (9, 10) (by decide)
theorem rdc3 (w : World) (H : Nat) (hH : w.heap.size = H) : Calls Try.prog 22 #[.slice (some ⟨H, 0, none⟩) 3 3] (w.alloc (.cells #[.int .u8 172, .int .u8 2, .int .u8 9] 5)) fun e w' => e = .returned (.tuple #[.int .u64 300, .int .i64 2, .int .i64 0]) ∧ (w.alloc (.cells #[.int .u8 172, .int .u8 2, .int .u8 9] 5)) = w' := by
  subst hH
  refine (readCount_c _ 3 3 _ _ (lit3 w) (by omega)).mono fun e w' h => by
    have hr : Cntm.rd 0 0 [172, 2, 9] = (300, 2, 0) := by decide +kernel
    unfold RdcRet at h
    rw [hr] at h
    exact h
theorem rot11 (w : World) : Calls Try.prog 14 #[.int .u32 1, .int .i64 1] w fun e w' => e = .returned (.int .u32 2147483648) ∧ w = w' :=
  (rot_c 1 1 w (by omega)).mono fun e w' h => by
    have hr : Rotm.rot 1 ((1 : Int) % 32).toNat = 2147483648 := by decide +kernel
    rw [hr] at h
    exact h
theorem crc9 (w : World) (H : Nat) (hH : w.heap.size = H) : Calls Try.prog 35 #[.slice (some ⟨H, 0, none⟩) 9 9] (w.alloc (.cells #[.int .u8 49, .int .u8 50, .int .u8 51, .int .u8 52, .int .u8 53, .int .u8 54, .int .u8 55, .int .u8 56, .int .u8 57] 5 (9, 10))) fun e w' => e = .returned (.int .u32 3421780262) ∧ (w.alloc (.cells #[.int .u8 49, .int .u8 50, .int .u8 51, .int .u8 52, .int .u8 53, .int .u8 54, .int .u8 55, .int .u8 56, .int .u8 57] 5 (9, 10))) = w' := by
  subst hH
  refine (crc_c _ 9 9 _ _ (lit9 w) (by omega)).mono fun e w' h => by
    have hr : 4294967295 - Crcm.reg 4294967295 [49, 50, 51, 52, 53, 54, 55, 56, 57] = 3421780262 := by decide +kernel
    rw [hr] at h
    exact h
theorem hex2 (w : World) (H : Nat) (hH : w.heap.size = H) : Calls Try.prog 33 #[.slice (some ⟨H, 0, none⟩) 2 2] (w.alloc (.cells #[.int .u8 0, .int .u8 255] 5)) fun e w' => e = .returned (.string { data := #[48, 48, 102, 102] }) ∧ Below w.heap.size w w' := by
  subst hH
  refine (hex_c _ 2 2 _ _ (lit2 w) (by simp) (by omega)).mono fun e w' h => by
    have hr : str (hex [0, 255]) = { data := #[48, 48, 102, 102] } := by decide +kernel
    unfold RetS at h
    rw [hr] at h
    exact ⟨h.1, ((Below.refl w.heap.size w).alloc (Nat.le_refl _) _).trans (h.2.mono (by simp))⟩

theorem conv1 (w : World) (o : Obj) (C : Array Value) (n c : Nat) : (convert 27 27 (.slice (some ⟨w.heap.size + 1, 0, none⟩) n c)).run Try.prog ((w.alloc o).alloc (.cells C 5)) = .ok (.slice (some ⟨w.heap.size + 1, 0, none⟩) n c) ((w.alloc o).alloc (.cells C 5 (C.size, C.size + 1))) := by
  have h := Lib.run_convert_bytes_const (P := Try.prog) (w.alloc o) 27 5 C n c Try.underlying27 Try.underlying5
  rw [World.size_alloc] at h
  exact h

/-- awake answers true, and writes nothing that was there -/
theorem awake_c (w : World) : Calls Try.prog 13 #[] w fun e w' => e = .returned (.bool true) ∧ Below w.heap.size w w' := by
  have kc := conv1
  go_enter Try.func13, Try.ntmps13
  go_wp2_with (first | (go_at_call 22; refine (rdc3 _ _ rfl).mono ?_; rintro e w' ⟨rfl, rfl⟩) | (go_at_call 14; refine (rot11 _).mono ?_; rintro e w' ⟨rfl, rfl⟩) | (go_at_call 35; refine (crc9 _ _ (by simp)).mono ?_; rintro e w' ⟨rfl, rfl⟩) | (go_at_call 33; refine (hex2 _ _ (by simp)).mono ?_; rintro e w1 ⟨rfl, hb1⟩))
  go_ret
  exact ⟨rfl, (((Below.refl _ w).alloc (Nat.le_refl _) _).alloc (by simp) _).trans (hb1.mono (by simp; omega))⟩
end Go.Proofs.Ytnnofcfagdbafaa
