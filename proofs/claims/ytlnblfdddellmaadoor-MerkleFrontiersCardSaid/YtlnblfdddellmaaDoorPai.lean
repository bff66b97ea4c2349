/-
  The walks over the document's Pair, Node and Leaf, and over Leaf.
-/
import Derived.Test.YtlnblfdddellmaaDoorNod
namespace Go.Proofs.YtlnblfdddellmaaDoor
open Go.RowKit
set_option linter.unusedVariables false
theorem own_lit (w : World) (B : Nat) (zs : List Nat) (hB : B ≤ w.heap.size) (hl : zs.length ≤ 9223372036854775807) : Own (w.alloc (.cells (cellsOf zs).toArray 5)) B (.slice (some ⟨w.heap.size, 0, none⟩) zs.length zs.length) zs := by
  refine ⟨by simp [cellsOf_length], .inr ⟨w.heap.size, zs.length, _, rfl, hB, heap_new _ _, Nat.le_refl _, hl, by simp [cellsOf_length], ?_⟩⟩
  simp only [Nat.mul_one]
  exact List.take_of_length_le (by rw [cellsOf_length]; exact Nat.le_refl _)
theorem own_one (w : World) (z : Nat) : Own (w.alloc (.cells #[.int .u8 (z : Int)] 5)) w.heap.size (.slice (some ⟨w.heap.size, 0, none⟩) 1 1) [z] := own_lit w w.heap.size [z] (Nat.le_refl _) (by simp)
theorem take_push (p l : List Nat) (k : Nat) (h : k < l.length) : (p ++ l.take k) ++ [l.getD k 0] = p ++ l.take (k + 1) := by
  rw [take_snoc l k h, List.append_assoc, getD_at l k h]
set_option maxRecDepth 100000 in
set_option maxHeartbeats 2000000 in
theorem pair_c (l r : List Nat) (w : World) (hl : D32 l) (hr : D32 r) :
    Calls Tryd.prog 39 #[.agg (cellsOf l).toArray, .agg (cellsOf r).toArray] w (RetB w.heap.size w (1 :: (l ++ r))) := by
  have HL := Lib.hid hl
  have HR := Lib.hid hr
  clear hl hr
  go_enter Tryd.func39, Tryd.ntmps39
  go_upto_region 1 with fail
  refine gen_code (F := fun W => Brow W w.heap.size 31 l ∧ Brow W (w.heap.size + 1) 31 r ∧ Below w.heap.size w W) ⟨(heap_new2 _ _ _).1, (heap_new2 _ _ _).2, ((Below.refl _ _).alloc (Nat.le_refl _) _).alloc (by simp) _⟩ ?_
  rintro wA ⟨hbl, hbr, hbw⟩
  have HBL := Lib.hid hbl
  have HBR := Lib.hid hbr
  have HBW := Lib.hid hbw
  have hlt := hbr.lt
  have HO := Lib.hid (own_one wA 1)
  have HB0 := Lib.hid (show Below wA.heap.size wA (wA.alloc (.cells #[.int .u8 ((1 : Nat) : Int)] 5)) from (Below.refl _ _).alloc (Nat.le_refl _) _)
  clear hbl hbr hbw
  go_wp2
  go_loopw [5, 6] (fun v i wr => ∃ k : Nat, k ≤ 32 ∧ i = .int .i64 k ∧ Hid (Own wr wA.heap.size v ([1] ++ l.take k)) ∧ Hid (Below wA.heap.size wA wr)) (fun _ i _ => 32 - (intOf i).toNat)
  case atStart => exact ⟨0, Nat.zero_le _, rfl, by rw [List.take_zero, List.append_nil]; exact HO, HB0⟩
  case round =>
    clear HO HB0
    obtain ⟨k, hk, rfl, HO, HB⟩ := hrel
    by_cases hkl : k < 32
    · have hsz := HB.out.size
      obtain ⟨x, hx⟩ : ∃ x, x = l.getD k 0 := ⟨_, rfl⟩
      have hcx : wr.cell? ⟨w.heap.size, k, none⟩ = some (.int .u8 (x : Int)) := by rw [hx]; exact (HBL.out.below HB.out (by omega)).cell k (by rw [HL.out.1]; exact hkl)
      have HX := Lib.hid hx
      clear hx
      go_wp2_with (at_builtin; (refine wpList_push rfl _ _ rfl wA.heap.size u5 ([1] ++ l.take k) x _ rfl rfl HO.out hsz rfl ?hl ?_))
      case hl => rw [List.length_append, List.length_take]; simp; omega
      intro v1 w1 hown1 hb1
      have HO1 := Lib.hid (show Own w1 wA.heap.size v1 ([1] ++ l.take (k + 1)) from by
        rw [← take_push [1] l k (by rw [HL.out.1]; exact hkl), ← HX.out]
        simpa using hown1)
      have HB1 := Lib.hid (HB.out.trans hb1)
      clear HO HB hown1 hb1 hcx hsz HX
      go_wp2
      go_roundw
      case rel => exact ⟨k + 1, by omega, by go_num, HO1, HB1⟩
      case measure => simp [intOf]; omega
    · obtain rfl : k = 32 := by omega
      have HO2 := Lib.hid (show Own wr wA.heap.size u5 ([1] ++ l) from by
        have := HO.out
        rwa [List.take_of_length_le (by rw [HL.out.1]; omega)] at this)
      clear HO
      simp only [Int.cast_ofNat_Int]
      go_wp2
      go_loopw [5, 7] (fun v i wr => ∃ k : Nat, k ≤ 32 ∧ i = .int .i64 k ∧ Hid (Own wr wA.heap.size v (([1] ++ l) ++ r.take k)) ∧ Hid (Below wA.heap.size wA wr)) (fun _ i _ => 32 - (intOf i).toNat)
      case atStart => exact ⟨0, Nat.zero_le _, rfl, by rw [List.take_zero, List.append_nil]; exact HO2, HB⟩
      case round =>
        clear HO2 HB
        obtain ⟨k, hk, rfl, HO, HB⟩ := hrel
        by_cases hkl : k < 32
        · have hsz := HB.out.size
          obtain ⟨x, hx⟩ : ∃ x, x = r.getD k 0 := ⟨_, rfl⟩
          have hcx : wr.cell? ⟨w.heap.size + 1, k, none⟩ = some (.int .u8 (x : Int)) := by rw [hx]; exact (HBR.out.below HB.out (by omega)).cell k (by rw [HR.out.1]; exact hkl)
          have HX := Lib.hid hx
          clear hx
          go_wp2_with (at_builtin; (refine wpList_push rfl _ _ rfl wA.heap.size u5 (([1] ++ l) ++ r.take k) x _ rfl rfl HO.out hsz rfl ?hl ?_))
          case hl => rw [List.length_append, List.length_append, List.length_take, HL.out.1]; simp; omega
          intro v1 w1 hown1 hb1
          have HO1 := Lib.hid (show Own w1 wA.heap.size v1 (([1] ++ l) ++ r.take (k + 1)) from by
            rw [← take_push ([1] ++ l) r k (by rw [HR.out.1]; exact hkl), ← HX.out]
            simpa using hown1)
          have HB1 := Lib.hid (HB.out.trans hb1)
          clear HO HB hown1 hb1 hcx hsz HX
          go_wp2
          go_roundw
          case rel => exact ⟨k + 1, by omega, by go_num, HO1, HB1⟩
          case measure => simp [intOf]; omega
        · obtain rfl : k = 32 := by omega
          have HO2 := Lib.hid (show Own wr wA.heap.size u5 (1 :: (l ++ r)) from by
            have := HO.out
            rwa [List.take_of_length_le (by rw [HR.out.1]; omega)] at this)
          clear HO
          go_wp2
          go_ret
          exact ⟨_, rfl, HO2.out.base (by omega), HBW.out.trans (HB.out.mono (by omega))⟩
end Go.Proofs.YtlnblfdddellmaaDoor
