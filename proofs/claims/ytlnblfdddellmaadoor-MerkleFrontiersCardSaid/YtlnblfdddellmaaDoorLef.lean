/-
  The walks over Leaf, and over the document's Node and Leaf.
-/
import Derived.Test.YtlnblfdddellmaaDoorPai
namespace Go.Proofs.YtlnblfdddellmaaDoor
open Go.RowKit
set_option linter.unusedVariables false
theorem close_run (p : List Nat) (n : Nat) (hn : n = p.length) : Sha.close (Sha.run Sha.H0 p) (Sha.rest p) n = Sha.sum p := by subst hn; rfl
set_option maxRecDepth 100000 in
set_option maxHeartbeats 2000000 in
theorem rnode_c (l r : List Nat) (w : World) (hl : D32 l) (hr : D32 r) :
    Calls Tryd.prog 20 #[.agg (cellsOf l).toArray, .agg (cellsOf r).toArray] w (DigRet (nodeS l r) w) := by
  have HL := Lib.hid hl
  have HR := Lib.hid hr
  clear hl hr
  go_enter Tryd.func20, Tryd.ntmps20
  go_upto_region 1 with fail
  refine gen_code (F := fun W => Brow W w.heap.size 31 l ∧ Brow W (w.heap.size + 1) 31 r ∧ Brow W (w.heap.size + 1 + 1) 31 zs32 ∧ Below w.heap.size w W) ⟨(heap_new3 _ _ _ _).1, (heap_new3 _ _ _ _).2.1, (heap_new3 _ _ _ _).2.2, (((Below.refl _ _).alloc (Nat.le_refl _) _).alloc (by simp) _).alloc (by simp; omega) _⟩ ?_
  rintro wA ⟨h1, h2, h3, hb⟩
  have HA := Lib.hid h1
  have HB := Lib.hid h2
  have HC := Lib.hid h3
  have HBW := Lib.hid hb
  have HIL := Lib.hid (show (Tryd.prog.info? 31).map (·.size) = some (cellsOf l).toArray.size by rw [cellsOf_size, HL.out.1]; exact info_a32b)
  have HIR := Lib.hid (show (Tryd.prog.info? 31).map (·.size) = some (cellsOf r).toArray.size by rw [cellsOf_size, HR.out.1]; exact info_a32b)
  clear h1 h2 h3 hb
  go_wp2_with (first | (refine wpList_load_row (by rfl) 31 _ (by rfl) w.heap.size (by rfl) _ (cellsOf l).toArray (0, 0) _ HA.out Tryd.underlying31 (by rfl) HIL.out ?_) | (refine wpList_load_row (by rfl) 31 _ (by rfl) (w.heap.size + 1) (by rfl) _ (cellsOf r).toArray (0, 0) _ HB.out Tryd.underlying31 (by rfl) HIR.out ?_))
  refine ((pair_c l r wA HL.out HR.out).mono (RetB.form (by
    intro z hz
    simp only [List.mem_cons, List.mem_append] at hz
    rcases hz with rfl | h | h
    · omega
    · exact HL.out.2 z h
    · exact HR.out.2 z h))).mono ?_
  rintro e1 w1 ⟨a1, L1, c1, rfl, hl1, hlc1, hc1, hn1, hr1, ho1, hb1⟩
  have HC1 := Lib.hid (HC.out.below hb1 HC.out.lt)
  have HBW1 := Lib.hid (HBW.out.trans (hb1.mono HBW.out.size))
  have HR1 := Lib.hid hr1
  have hL1 : L1 = 65 := by rw [← hl1, List.length_cons, List.length_append, HL.out.1, HR.out.1]
  obtain ⟨S, hS⟩ : ∃ S, S = nodeS l r := ⟨_, rfl⟩
  have HSUM := Lib.hid (show Calls Tryd.prog 36 #[.slice a1 L1 c1] w1 (DigRet S w1) from by rw [hS]; exact rsum_c _ a1 L1 c1 w1 hr1 (by omega))
  have HS := Lib.hid (show D32 S from by rw [hS]; exact d32_sum _)
  have HSE := Lib.hid hS
  clear hl1 hr1 ho1 hb1 hS HA HB hL1
  go_wp2_with fail
  refine HSUM.out.mono ?_
  rintro e2 w2 ⟨rfl, hb2⟩
  have HC2 := Lib.hid (HC1.out.below hb2 HC1.out.lt)
  have HBW2 := Lib.hid (HBW1.out.trans (hb2.mono HBW1.out.size))
  have HI := Lib.hid (show (Tryd.prog.info? 31).map (·.size) = some (cellsOf S).toArray.size by rw [cellsOf_size, HS.out.1]; exact info_a32b)
  have HSS := Lib.hid (show (cellsOf zs32).toArray.size = (cellsOf S).toArray.size by rw [cellsOf_size, cellsOf_size, HS.out.1]; rfl)
  clear hb2
  go_wp2_with (first | (refine wpList_store_row (by rfl) 31 _ _ (by rfl) (w.heap.size + 1 + 1) (cellsOf S).toArray (by rfl) (by rfl) 31 (cellsOf zs32).toArray HC2.out HI.out HSS.out (cellsOf_all _) ?_))
  refine bodyPost_ret (results_cell_row (by rfl) _ _ (w.heap.size + 1 + 1) _ (cellsOf S).toArray (0, 0) _ (by rfl) HC2.out.setRow Tryd.underlying31 (by rfl) HI.out) ?_ ?_
  · rfl
  · exact ⟨by rw [HSE.out], HBW2.out.setRow (by omega) _⟩

set_option maxRecDepth 100000 in
set_option maxHeartbeats 2000000 in
theorem rleaf_end (w wr : World) (v : Value) (zs : List Nat) (B : Nat) (hd : Brow wr w.heap.size 31 zs32) (hB : Below w.heap.size w wr) (ho : Own wr B v (0 :: zs)) (hz : ∀ z ∈ zs, z < 256) (hl : zs.length ≤ 140737488355326) :
    Calls Tryd.prog 36 #[v] wr fun e w' => e = .returned (.agg (cellsOf (leafS zs)).toArray) ∧ Brow w' w.heap.size 31 zs32 ∧ Below w.heap.size w w' := by
  obtain ⟨a, L, c, rfl, h1, h2, h3, h4, h5, h6⟩ := ho.form (by
    intro z hm
    rcases List.mem_cons.1 hm with rfl | h
    · omega
    · exact hz z h)
  refine (rsum_c _ a L c wr h5 (by rw [← h1, List.length_cons]; omega)).mono ?_
  rintro e w' ⟨rfl, hb⟩
  exact ⟨rfl, hd.below hb hd.lt, hB.trans (hb.mono hB.size)⟩
end Go.Proofs.YtlnblfdddellmaaDoor
