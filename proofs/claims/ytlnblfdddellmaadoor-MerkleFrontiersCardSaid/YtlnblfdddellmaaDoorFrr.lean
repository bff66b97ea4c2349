/-
  The walks over Root of a frontier without leaves.
-/
import Derived.Test.YtlnblfdddellmaaDoorFro
namespace Go.Proofs.YtlnblfdddellmaaDoor
open Go.RowKit
set_option linter.unusedVariables false
set_option maxRecDepth 100000 in
set_option maxHeartbeats 2000000 in
theorem froot_none (w : World) (ht : Tab w) : Calls Tryd.prog 11 #[.pointer none] w (DigRet (Sha.sum []) w) := by
  obtain ⟨S, hS⟩ : ∃ S, S = Sha.sum [] := ⟨_, rfl⟩
  have HSD := Lib.hid (show D32 S from by rw [hS]; exact d32_sum _)
  have HRT := Lib.hid (show ∀ W, Below w.heap.size w W → Calls Tryd.prog 32 #[.slice none 0 0] W (DigRet S W) from fun W hW => by rw [hS, ← rootS_nil]; exact root_c 0 [] none 0 W (DR.nil W) (by omega) (by omega) (ht.below hW ht.pos))
  rw [← hS]
  have HI := Lib.hid (info32 dtA HSD.out)
  have HZ := Lib.hid (zsize HSD.out)
  clear hS ht
  go_enter Tryd.func11, Tryd.ntmps11
  go_upto_region 1 with fail
  refine gen_code (F := fun W => Brow W w.heap.size 32 zs32 ∧ Below w.heap.size w W) ⟨heap_new _ _, (Below.refl _ _).alloc (Nat.le_refl _) _⟩ ?_
  rintro wA ⟨hd, hb⟩
  have HD := Lib.hid hd
  have HB := Lib.hid hb
  clear hd hb
  go_wp2_with fail
  refine (HRT.out _ HB.out).mono ?_
  rintro e w2 ⟨rfl, hb2⟩
  have HD2 := Lib.hid (HD.out.below hb2 HD.out.lt)
  have HB2 := Lib.hid (HB.out.trans (hb2.mono HB.out.size))
  clear hb2
  go_wp2_with (first | (refine wpList_store_row (by rfl) 32 _ _ (by rfl) w.heap.size (cellsOf S).toArray (by rfl) (by rfl) 32 (cellsOf zs32).toArray HD2.out HI.out HZ.out (cellsOf_all _) ?_))
  refine bodyPost_ret (results_cell_row (by rfl) _ _ w.heap.size _ (cellsOf S).toArray (0, 0) _ (by rfl) HD2.out.setRow Tryd.underlying32 (by rfl) HI.out) ?_ ?_
  · rfl
  · exact ⟨rfl, HB2.out.setRow (Nat.le_refl _) _⟩
set_option maxRecDepth 100000 in
set_option maxHeartbeats 2000000 in
theorem froot_zero (g : Nat) (v : Value) (w : World) (h : FR w g 0 v) (ht : Tab w) : Calls Tryd.prog 11 #[.pointer (some ⟨g, 0, none⟩)] w (DigRet (Sha.sum []) w) := by
  obtain ⟨S, hS⟩ : ∃ S, S = Sha.sum [] := ⟨_, rfl⟩
  have HSD := Lib.hid (show D32 S from by rw [hS]; exact d32_sum _)
  have HRT := Lib.hid (show ∀ W, Below w.heap.size w W → Calls Tryd.prog 32 #[.slice none 0 0] W (DigRet S W) from fun W hW => by rw [hS, ← rootS_nil]; exact root_c 0 [] none 0 W (DR.nil W) (by omega) (by omega) (ht.below hW ht.pos))
  rw [← hS]
  have HI := Lib.hid (info32 dtA HSD.out)
  have HZ := Lib.hid (zsize HSD.out)
  have HF := Lib.hid h
  have hglt := h.lt
  clear hS ht h
  go_enter Tryd.func11, Tryd.ntmps11
  go_upto_region 1 with fail
  refine gen_code (F := fun W => Brow W w.heap.size 32 zs32 ∧ Below w.heap.size w W) ⟨heap_new _ _, (Below.refl _ _).alloc (Nat.le_refl _) _⟩ ?_
  rintro wA ⟨hd, hb⟩
  have HD := Lib.hid hd
  have HB := Lib.hid hb
  have hc := (HF.out.below hb hglt).sizec
  clear hd hb
  go_wp2_with fail
  refine (HRT.out _ HB.out).mono ?_
  rintro e w2 ⟨rfl, hb2⟩
  have HD2 := Lib.hid (HD.out.below hb2 HD.out.lt)
  have HB2 := Lib.hid (HB.out.trans (hb2.mono HB.out.size))
  clear hb2 hc
  go_wp2_with (first | (refine wpList_store_row (by rfl) 32 _ _ (by rfl) w.heap.size (cellsOf S).toArray (by rfl) (by rfl) 32 (cellsOf zs32).toArray HD2.out HI.out HZ.out (cellsOf_all _) ?_))
  refine bodyPost_ret (results_cell_row (by rfl) _ _ w.heap.size _ (cellsOf S).toArray (0, 0) _ (by rfl) HD2.out.setRow Tryd.underlying32 (by rfl) HI.out) ?_ ?_
  · rfl
  · exact ⟨rfl, HB2.out.setRow (Nat.le_refl _) _⟩
end Go.Proofs.YtlnblfdddellmaaDoor
