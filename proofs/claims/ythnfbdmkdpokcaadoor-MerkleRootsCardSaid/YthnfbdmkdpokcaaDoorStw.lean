/-
  The walks over New, waiting, Size and spread.
-/
import Derived.Test.YthnfbdmkdpokcaaDoorStm
import Derived.Test.YthnfbdmkdpokcaaDoorMix
import Derived.Test.YthnfbdmkdpokcaaDoorPut
import Derived.Great.BuildSlice
namespace Go.Proofs.YthnfbdmkdpokcaaDoor
open Go.RowKit
set_option linter.unusedVariables false

theorem Own.keep {w w' : World} {B : Nat} {v : Value} {zs : List Nat} (h : Own w B v zs) (hb : Below w.heap.size w w') : Own w' B v zs := by
  refine ⟨h.1, ?_⟩
  rcases h.2 with h0 | ⟨g, cap, cur, h1, h2, h3, h4⟩
  · exact .inl h0
  · exact .inr ⟨g, cap, cur, h1, h2, (hb.block g (Array.getElem?_eq_some_iff.1 h3).1).trans h3, h4⟩
/-- a new state -/
def RetP (B : Nat) (w : World) (hs : List Nat) (bs : List Nat) (n : Nat) (e : Ending) (w' : World) : Prop :=
  ∃ g, e = .returned (.pointer (some ⟨g, 0, none⟩)) ∧ B ≤ g ∧ St w' g hs bs n ∧ Below B w w'
set_option maxRecDepth 100000 in
theorem new_c (w : World) : Calls Tryd.prog 44 #[] w (RetP w.heap.size w Sha.H0 (List.replicate 64 0) 0) := by
  go_enter Tryd.func44, Tryd.ntmps44
  go_wp2_with (first | (refine wpList_buildTo (by rfl) 100 _ (by rfl) (some 2) (by rfl) (stCells Sha.H0 (List.replicate 64 0) 0).toArray (by kernel_rfl) ?_))
  go_ret
  exact ⟨w.heap.size, rfl, Nat.le_refl _, ⟨heap_new _ _, Sha.W8.H0, rfl, by decide, by omega⟩, (Below.refl _ _).alloc (Nat.le_refl _) _⟩

theorem and63 (n : Nat) (hn : n ≤ 2305843009213693951) : bits .and .i64 (n : Int) 63 = ((n % 64 : Nat) : Int) := by
  show IntKind.i64.wrap ((BitVec.ofInt 64 n &&& BitVec.ofInt 64 63).toNat : Int) = _
  have h : (BitVec.ofInt 64 n &&& BitVec.ofInt 64 63).toNat = (BitVec.ofInt 64 n).toNat % 64 := by
    rw [BitVec.toNat_and, show (BitVec.ofInt 64 63).toNat = 2 ^ 6 - 1 by rfl, Nat.and_two_pow_sub_one_eq_mod]
  have h2 : ((BitVec.ofInt 64 (n : Int)).toNat : Int) = n := by
    rw [BitVec.toNat_ofInt]
    omega
  rw [h]
  have : IntKind.i64.wrap (((BitVec.ofInt 64 (n : Int)).toNat % 64 : Nat) : Int) = (((BitVec.ofInt 64 (n : Int)).toNat % 64 : Nat) : Int) := by
    simp [IntKind.wrap, IntKind.bits, IntKind.signed]
    omega
  rw [this]
  omega
theorem waiting_c (w : World) (g : Nat) (hs bs : List Nat) (n : Nat) (h : St w g hs bs n) :
    Calls Tryd.prog 62 #[.pointer (some ⟨g, 0, none⟩)] w fun e w' => e = .returned (.int .i64 ((n % 64 : Nat) : Int)) ∧ w = w' := by
  have hc := h.size
  have ha := and63 n h.nn
  clear h
  go_enter Tryd.func62, Tryd.ntmps62
  go_wp2
  go_ret
  exact ⟨rfl, rfl⟩
theorem run_index_words (ws : List Nat) (k : Nat) (hk : k < ws.length) (ty n : Nat) (hu : Tryd.prog.underlying ty = some (.array n 94)) (hn : ws.length = n) (W : World) :
    (Instr.index ty (.agg (wordsOf ws).toArray) (.int .i64 (k : Int))).run Tryd.prog W = .ok (.int .u32 ((ws.getD k 0 : Nat) : Int)) W := by
  have h1 := wordsOf_get ws k hk
  simp [Instr.index, run_underlying hu, asIntOf, go_sem]
  rw [List.getElem?_toArray] at h1
  rw [if_pos (by omega), h1]
  simp
theorem bytesOf_snoc (hs : List Nat) (k : Nat) (h : k < hs.length) : Sha.bytesOf (hs.take (k + 1)) = Sha.bytesOf (hs.take k) ++ Numm.put hs[k] 4 := by
  unfold Sha.bytesOf
  rw [take_snoc _ _ h, List.flatMap_append]
  simp
theorem bytesOf_len (hs : List Nat) : (Sha.bytesOf hs).length = 4 * hs.length := by
  induction hs with
  | nil => rfl
  | cons h hs ih => simp only [Sha.bytesOf, List.flatMap_cons, List.length_append, Numm.put_len, List.length_cons] at *; omega
set_option maxRecDepth 100000 in
set_option maxHeartbeats 800000 in
theorem spread_c (hs : List Nat) (w : World) (h8 : Sha.W8 hs) :
    Calls Tryd.prog 65 #[.agg (wordsOf hs).toArray] w (RetB w.heap.size w (Sha.bytesOf hs)) := by
  obtain ⟨i0, hi, hz0, hz1, hz2⟩ := info_parts byteInfo
  go_enter Tryd.func65, Tryd.ntmps65
  have hw8 : (Tryd.prog.info? 96).map (·.size) = some (wordsOf hs).toArray.size := by rw [wordsOf_size, h8.1]; exact info_words
  go_wp2_with (at_make; refine wpList_make_own _ rfl _ _ 23 rfl w.heap.size 5 i0 (.int .u8 0) 1 Tryd.underlying23 hi hz0 hz1 .i64 .i64 _ 32 rfl rfl rfl (by rw [hz2]; omega) (by unfold maxLen; omega) (by simp) ?_)
  intro w0 hown0 hg0
  have hb1 := (Below.refl (w.heap.size + 1) (w.alloc (.cells (wordsOf hs).toArray 96))).grown hg0 (by simp) (by simp)
  have hb0 : Below w.heap.size w w0 := ((Below.refl _ _).alloc (Nat.le_refl _) _).trans (hb1.mono (by omega))
  have hrow : w0.heap[w.heap.size]? = some (.cells (wordsOf hs).toArray 96 (0, 0)) := (hb1.block _ (by omega)).trans (heap_new _ _)
  have hown : Own w0 w.heap.size (.slice (some ⟨w.heap.size + 1, 0, none⟩) 0 32) [] := hown0
  clear hown0 hg0 hb1
  go_wp2_with (first | (refine wpList_load_row (by rfl) 96 _ (by rfl) w.heap.size (by rfl) _ (wordsOf hs).toArray (0, 0) _ hrow Tryd.underlying96 (by rfl) hw8 ?_))
  clear hrow
  go_loopw [3, 8] (fun v i wr => ∃ k : Nat, k ≤ 8 ∧ i = .int .i64 k ∧ Own wr w.heap.size v (Sha.bytesOf (hs.take k)) ∧ Below w.heap.size w wr) (fun _ i _ => 8 - (intOf i).toNat)
  case atStart => exact ⟨0, by omega, rfl, hown, hb0⟩
  case round =>
    clear hown hb0
    obtain ⟨k, hk, rfl, hown, hnx⟩ := hrel
    by_cases hk8 : k < 8
    · have hix : ∀ W : World, (Instr.index 96 (.agg (wordsOf hs).toArray) (.int .i64 (k : Int))).run Tryd.prog W = .ok (.int .u32 ((hs.getD k 0 : Nat) : Int)) W := by
        exact run_index_words hs k (by rw [h8.1]; exact hk8) 96 8 Tryd.underlying96 (by rw [h8.1])
      obtain ⟨x, hx⟩ : ∃ x, x = hs.getD k 0 := ⟨_, rfl⟩
      have hx32 : x < 4294967296 := by rw [hx, getD_at _ _ (by rw [h8.1]; exact hk8)]; exact h8.2 _ (List.getElem_mem _)
      rw [← hx] at hix
      have HX := Lib.hid hx
      clear hx
      go_wp2_with fail
      refine ((put_in x 4 _ (by omega) (by omega)).mono (RetB.form (Numm.put_byte _ _))).mono ?_
      rintro e1 w1 ⟨a1, L1, c1, rfl, hl1, hlc1, hc1, hn1, hr1, ho1, hb1⟩
      have hB1 := hnx.trans (hb1.mono hnx.size)
      have hown1 : Own w1 w.heap.size u3 (Sha.bytesOf (hs.take k)) := hown.keep hb1
      have hln := bytesOf_len (hs.take k)
      have hlen : (Sha.bytesOf (hs.take k)).length + (Numm.put x 4).length ≤ 140737488355328 := by rw [hln, List.length_take, hl1]; have := Numm.put_len x 4; omega
      clear hln hix hown hl1 hlc1 hc1 ho1 hb1
      go_wp2_with (at_builtin; (refine wpList_cat rfl _ _ rfl w.heap.size u3 (Sha.bytesOf (hs.take k)) (Numm.put x 4) rfl hown1 hB1.size a1 L1 c1 rfl hr1 hn1 hlen ?_))
      intro v2 w2 hown2 hb2
      have hB2 := hB1.trans hb2
      clear hown1 hr1 hn1 hlen hB1 hb2
      go_wp2
      go_roundw
      case rel => exact ⟨k + 1, by omega, by go_num, by rw [bytesOf_snoc hs k (by rw [h8.1]; exact hk8), ← getD_at hs k, ← HX.out]; exact hown2, hB2⟩
      case measure => simp [intOf]; omega
    · obtain rfl : k = 8 := by omega
      rw [List.take_of_length_le (by rw [h8.1]; omega)] at hown
      go_wp2
      go_ret
      exact ⟨_, rfl, hown, hnx⟩
end Go.Proofs.YthnfbdmkdpokcaaDoor
