/-
  The walks over Node, Leaf and Pair.
-/
import Derived.Test.YtlnblfdddellmaaDoorDgl
import Derived.Test.YtlnblfdddellmaaDoorPkd
import Derived.Test.YtlnblfdddellmaaDoorPkc
namespace Go.Proofs.YtlnblfdddellmaaDoor
open Go.RowKit
set_option linter.unusedVariables false
/-- the sum of a node, of a leaf -/
def nodeS (l r : List Nat) : List Nat := Sha.sum (1 :: (l ++ r))
def leafS (p : List Nat) : List Nat := Sha.sum (0 :: p)
theorem d32_sum (z : List Nat) : D32 (Sha.sum z) := ⟨sum_len z, sum_byte z⟩
theorem len_n65 : Tryd.prog.arrayLen 92 = 65 := by kernel_rfl
theorem elem_n65 : Tryd.prog.elem 92 = 5 := by kernel_rfl
theorem und_n65 : Tryd.prog.underlying 92 = some (.array (Tryd.prog.arrayLen 92) (Tryd.prog.elem 92)) := by rw [elem_n65, len_n65]; exact Tryd.underlying92
theorem info_n65 : (Tryd.prog.info? 92).map (·.size) = some 65 := by kernel_rfl
theorem run_n65From (W : World) (g k : Nat) (h : k < 65) (h0 : k ≠ 0) :
    (Instr.sliceAt 92 (.pointer (some ⟨g, 0, none⟩)) (some (.int .i64 (k : Int))) none none).run Tryd.prog W = .ok (.slice (some ⟨g, k, none⟩) (65 - k) (65 - k)) W := by
  rw [run_sliceAt_array_l W _ _ und_n65 .i64 (k : Int) (by omega) (by rw [len_n65]; omega), elem_n65, sizeOf_u8, len_n65]
  have h64 : ¬ 65 = k := by omega
  simp [Result.andThen, slicedAt, Addr.add, h64, h0]
theorem run_n65All (W : World) (g : Nat) :
    (Instr.sliceAt 92 (.pointer (some ⟨g, 0, none⟩)) none none none).run Tryd.prog W = .ok (.slice (some ⟨g, 0, none⟩) 65 65) W := by
  rw [run_sliceAt_array_all W _ _ und_n65, elem_n65, sizeOf_u8, len_n65]
  simp [Result.andThen, slicedAt, Addr.add]
theorem n65_one : Tryd.zeroCells92.setIfInBounds 0 (.int .u8 1) = (cellsOf (1 :: zs64)).toArray := by kernel_rfl
theorem n65_size : Tryd.zeroCells92.size = 65 := by kernel_rfl
theorem node_splice (l r : List Nat) (hl : l.length = 32) (hr : r.length = 32) : splice (splice (1 :: zs64) 1 l) 33 r = 1 :: (l ++ r) := by
  unfold splice zs64
  rw [hl, hr]
  simp only [List.take_succ_cons, List.take_zero, List.drop_succ_cons, List.drop_replicate, List.cons_append, List.nil_append]
  rw [List.take_append_of_le_length (by omega), List.take_of_length_le (by omega), List.drop_eq_nil_of_le (by simp; omega), List.append_nil]
/-- the three blocks of Node, and what lies behind them -/
def N3 (w : World) (l r : List Nat) (W : World) : Prop := Brow W w.heap.size 32 l ∧ Brow W (w.heap.size + 1) 32 r ∧ Brow W (w.heap.size + 1 + 1) 32 zs32 ∧ Below w.heap.size w W
theorem N3.new (w : World) (l r : List Nat) : N3 w l r (((w.alloc (.cells (cellsOf l).toArray 32)).alloc (.cells (cellsOf r).toArray 32)).alloc (.cells (cellsOf zs32).toArray 32)) := by
  have h1 := heap_new w (.cells (cellsOf l).toArray 32)
  have h2 := heap_new (w.alloc (.cells (cellsOf l).toArray 32)) (.cells (cellsOf r).toArray 32)
  have h3 := heap_new ((w.alloc (.cells (cellsOf l).toArray 32)).alloc (.cells (cellsOf r).toArray 32)) (.cells (cellsOf zs32).toArray 32)
  simp only [World.size_alloc] at h2 h3
  refine ⟨?_, ?_, h3, ((((Below.refl _ _).alloc (Nat.le_refl _) _).alloc (by simp) _).alloc (by simp; omega) _)⟩
  · exact (heap_alloc_old _ _ (by simp; omega)).trans ((heap_alloc_old _ _ (by simp)).trans h1)
  · exact (heap_alloc_old _ _ (by simp)).trans h2
theorem N3.below {w W W' : World} {l r : List Nat} (h : N3 w l r W) (hb : Below W.heap.size W W') : N3 w l r W' :=
  ⟨h.1.below hb h.1.lt, h.2.1.below hb h.2.1.lt, h.2.2.1.below hb h.2.2.1.lt, h.2.2.2.trans (hb.mono h.2.2.2.size)⟩
theorem N3.only {w W W' : World} {l r : List Nat} {g : Nat} (h : N3 w l r W) (hg : w.heap.size + 1 + 1 < g) (ho : Only g W W') : N3 w l r W' :=
  ⟨h.1.only ho (by omega), h.2.1.only ho (by omega), h.2.2.1.only ho (by omega), h.2.2.2.trans (ho.below (by omega) h.2.2.2.size)⟩
set_option maxRecDepth 100000 in
set_option maxHeartbeats 2000000 in
theorem node_c (l r : List Nat) (w : World) (hl : D32 l) (hr : D32 r) (ht : Tab w) :
    Calls Tryd.prog 33 #[.agg (cellsOf l).toArray, .agg (cellsOf r).toArray] w (DigRet (nodeS l r) w) := by
  have HL := Lib.hid hl
  have HR := Lib.hid hr
  have HT := Lib.hid ht
  have hpos := ht.pos
  clear hl hr ht
  go_enter Tryd.func33, Tryd.ntmps33
  go_upto_region 1 with fail
  refine gen_code (F := N3 w l r) (N3.new w l r) ?_
  intro wA h3
  have H3 := Lib.hid h3
  have hlt := h3.2.2.1.lt
  have HI := Lib.hid (show (Tryd.prog.info? 92).map (·.size) = some (Tryd.zeroCells92.setIfInBounds 0 (.int .u8 1)).size from by rw [Array.size_setIfInBounds, n65_size]; exact info_n65)
  have HS := Lib.hid (show Tryd.zeroCells92.size = (Tryd.zeroCells92.setIfInBounds 0 (.int .u8 1)).size from by rw [Array.size_setIfInBounds])
  have HO := Lib.hid (show (Tryd.zeroCells92.setIfInBounds 0 (.int .u8 1)).all (·.oneCell') = true from by rw [n65_one]; exact cellsOf_all _)
  have HF := Lib.hid (fun (X : Obj) (hX : X = .cells Tryd.zeroCells92 92 (0, 0)) => show Brow ((wA.alloc X).setRow wA.heap.size (Tryd.zeroCells92.setIfInBounds 0 (.int .u8 1))) wA.heap.size 92 (1 :: zs64) ∧ N3 w l r ((wA.alloc X).setRow wA.heap.size (Tryd.zeroCells92.setIfInBounds 0 (.int .u8 1))) from by
    subst hX
    refine ⟨?_, ?_⟩
    · have := setRow_heap (wA.alloc (.cells Tryd.zeroCells92 92 (0, 0))) wA.heap.size Tryd.zeroCells92 (Tryd.zeroCells92.setIfInBounds 0 (.int .u8 1)) 92 (0, 0) (heap_new _ _)
      rw [n65_one] at this ⊢
      exact this
    · exact h3.below (((Below.refl _ _).alloc (Nat.le_refl _) _).setRow (Nat.le_refl _) _))
  clear h3
  go_upto_region 2 with (first | (refine wpList_store_row (by rfl) 92 _ _ (by rfl) wA.heap.size (Tryd.zeroCells92.setIfInBounds 0 (.int .u8 1)) (by rfl) (by rfl) 92 Tryd.zeroCells92 (by exact heap_new _ _) HI.out HS.out HO.out ?_))
  refine gen_code (F := fun W => Brow W wA.heap.size 92 (1 :: zs64) ∧ N3 w l r W) (HF.out _ rfl) ?_
  rintro wB ⟨hb, hn⟩
  have HB1 := Lib.hid hb.drew
  have HN1 := Lib.hid (show N3 w l r wB.drew from ⟨hn.1.drew, hn.2.1.drew, hn.2.2.1.drew, hn.2.2.2.drew⟩)
  have HCL1 := Lib.hid (show (1 :: zs64).length = 65 from by rw [List.length_cons, zs64_len])
  have H1 := Lib.hid (show ∀ W, (Instr.sliceAt 92 (.pointer (some ⟨wA.heap.size, 0, none⟩)) (some (.int .i64 1)) none none).run Tryd.prog W = .ok (.slice (some ⟨wA.heap.size, 1, none⟩) 64 64) W from fun W => run_n65From W wA.heap.size 1 (by omega) (by omega))
  have H33 := Lib.hid (show ∀ W, (Instr.sliceAt 92 (.pointer (some ⟨wA.heap.size, 0, none⟩)) (some (.int .i64 33)) none none).run Tryd.prog W = .ok (.slice (some ⟨wA.heap.size, 33, none⟩) 32 32) W from fun W => run_n65From W wA.heap.size 33 (by omega) (by omega))
  have HD2 := Lib.hid (fun W => run_digAll W w.heap.size 0)
  have HD3 := Lib.hid (fun W => run_digAll W (w.heap.size + 1) 0)
  clear hb hn HI HS HO HF H3
  (try dsimp only [Act.put, List.setIfInBounds_toArray, List.set_cons_zero, List.set_cons_succ])
  refine wp_region_any (by kernel_rfl) ?_
  change wpAny _ _ _ _ _ _ _ wB.drew
  refine any_pure 0 (d := 7) (op := .slice 92 (.tmp 5) (some (.const (.int .i64 1))) none none) (.slice (some ⟨wA.heap.size, 1, none⟩) 64 64) (by rfl) (by kernel_rfl) (by kernel_rfl) (by kernel_rfl) (fun _ _ _ h => h) (fun o ho W => by unfold execOp; simp only [ho]; simp [H1.out W, Act.eval]) ?_
  simp only [Act.put, List.setIfInBounds_toArray, List.set_cons_zero, List.set_cons_succ]
  refine any_pure 1 (d := 8) (op := .slice 32 (.tmp 2) none none none) (.slice (some ⟨w.heap.size, 0, none⟩) 32 32) (by rfl) (by kernel_rfl) (by kernel_rfl) (by kernel_rfl) (fun _ _ _ h => h) (fun o ho W => by unfold execOp; simp only [ho]; simp [HD2.out W, Act.eval]) ?_
  simp only [Act.put, List.setIfInBounds_toArray, List.set_cons_zero, List.set_cons_succ]
  refine any_copy 2 (dst := some 9) (d := .tmp 7) (s := .tmp 8) (dT := 76) (sT := 76) (by kernel_rfl) (by rfl) 5 Tryd.underlying76 u8size (some ⟨wA.heap.size, 1, none⟩) (some ⟨w.heap.size, 0, none⟩) 64 64 32 32 (by rfl) (by rfl) wA.heap.size 1 (cellsOf (1 :: zs64)) 92 HB1.out (cellsOf l)
    (by rw [cellsOf_length, HL.out.1]; rfl) (fun h0 => ⟨rfl, _, rfl, fun j v hv => by rw [Addr.add_mid]; exact (HN1.out.1.range) j v hv⟩) (by rw [cellsOf_length, cellsOf_length, HL.out.1, HCL1.out]; omega) (cellsOf_one _) ?_
  intro wC hrow ho
  have hbC := Brow.copied hrow
  have HCL2 := Lib.hid (show (splice (1 :: zs64) 1 l).length = 65 from by rw [length_splice _ _ _ (by rw [HL.out.1, HCL1.out]; omega), HCL1.out])
  obtain ⟨C, hC⟩ : ∃ C, C = splice (1 :: zs64) 1 l := ⟨_, rfl⟩
  rw [← hC] at hbC HCL2
  have HC := Lib.hid hC
  have HB2 := Lib.hid hbC.drew
  have HN2 := Lib.hid (show N3 w l r wC.drew from by
    have h := HN1.out.only hlt ho
    exact ⟨h.1.drew, h.2.1.drew, h.2.2.1.drew, h.2.2.2.drew⟩)
  clear hrow ho hbC hC HB1 HN1 HCL1
  refine wpAny_done (by kernel_rfl) ?_ _
  go_upto_region 3 with fail
  (try dsimp only [Act.put, List.setIfInBounds_toArray, List.set_cons_zero, List.set_cons_succ])
  refine wp_region_any (by kernel_rfl) ?_
  change wpAny _ _ _ _ _ _ _ wC.drew
  refine any_pure 0 (d := 10) (op := .slice 92 (.tmp 5) (some (.const (.int .i64 33))) none none) (.slice (some ⟨wA.heap.size, 33, none⟩) 32 32) (by rfl) (by kernel_rfl) (by kernel_rfl) (by kernel_rfl) (fun _ _ _ h => h) (fun o ho W => by unfold execOp; simp only [ho]; simp [H33.out W, Act.eval]) ?_
  simp only [Act.put, List.setIfInBounds_toArray, List.set_cons_zero, List.set_cons_succ]
  refine any_pure 1 (d := 11) (op := .slice 32 (.tmp 3) none none none) (.slice (some ⟨w.heap.size + 1, 0, none⟩) 32 32) (by rfl) (by kernel_rfl) (by kernel_rfl) (by kernel_rfl) (fun _ _ _ h => h) (fun o ho W => by unfold execOp; simp only [ho]; simp [HD3.out W, Act.eval]) ?_
  simp only [Act.put, List.setIfInBounds_toArray, List.set_cons_zero, List.set_cons_succ]
  refine any_copy 2 (dst := some 12) (d := .tmp 10) (s := .tmp 11) (dT := 76) (sT := 76) (by kernel_rfl) (by rfl) 5 Tryd.underlying76 u8size (some ⟨wA.heap.size, 33, none⟩) (some ⟨w.heap.size + 1, 0, none⟩) 32 32 32 32 (by rfl) (by rfl) wA.heap.size 33 (cellsOf C) 92 HB2.out (cellsOf r)
    (by rw [cellsOf_length, HR.out.1]; rfl) (fun h0 => ⟨rfl, _, rfl, fun j v hv => by rw [Addr.add_mid]; exact (HN2.out.2.1.range) j v hv⟩) (by rw [cellsOf_length, cellsOf_length, HR.out.1, HCL2.out]; omega) (cellsOf_one _) ?_
  intro wD hrow ho
  have hbD := Brow.copied hrow
  rw [HC.out, node_splice l r HL.out.1 HR.out.1] at hbD
  have HND := Lib.hid (HN2.out.only hlt ho)
  have HBD := Lib.hid hbD
  have HALL := Lib.hid (fun W => run_n65All W wA.heap.size)
  clear hrow ho hbD HB2 HN2 HCL2 HC H1 H33 HD2 HD3
  refine wpAny_done (by kernel_rfl) ?_ _
  have kc := HALL.out
  have HT2 := Lib.hid (HT.out.below HND.out.2.2.2 hpos)
  have hrd := HBD.out.rd (by
    intro z hz
    simp only [List.mem_cons, List.mem_append] at hz
    rcases hz with rfl | h | h
    · omega
    · exact HL.out.2 z h
    · exact HR.out.2 z h)
  rw [show (1 :: (l ++ r)).length = 65 by rw [List.length_cons, List.length_append, HL.out.1, HR.out.1]] at hrd
  have HRD := Lib.hid hrd
  obtain ⟨S, hS⟩ : ∃ S, S = nodeS l r := ⟨_, rfl⟩
  have HSUM := Lib.hid (show Calls Tryd.prog 50 #[.slice (some ⟨wA.heap.size, 0, none⟩) 65 65] wD (DigRet S wD) from by rw [hS]; exact dsum_c _ 65 65 _ wD HRD.out (by omega) (by omega) (by omega) HT2.out)
  have HS := Lib.hid (show D32 S from by rw [hS]; exact d32_sum _)
  have HSE := Lib.hid hS
  clear hrd hS
  go_wp2_with fail
  refine HSUM.out.mono ?_
  rintro e wE ⟨rfl, hbE⟩
  have HNE := Lib.hid (HND.out.below hbE)
  have HI32 := Lib.hid (show (Tryd.prog.info? 32).map (·.size) = some (cellsOf S).toArray.size from by rw [cellsOf_size, HS.out.1]; exact info_dig)
  have hsz32 := Lib.hid (show (cellsOf zs32).toArray.size = (cellsOf S).toArray.size from by rw [cellsOf_size, cellsOf_size, HS.out.1, zs32_len])
  clear hbE kc
  go_wp2_with (first | (refine wpList_store_row (by rfl) 32 _ _ (by rfl) (w.heap.size + 1 + 1) (cellsOf S).toArray (by rfl) (by rfl) 32 (cellsOf zs32).toArray HNE.out.2.2.1 HI32.out hsz32.out (cellsOf_all _) ?_))
  refine bodyPost_ret (results_cell_row (by rfl) _ _ (w.heap.size + 1 + 1) _ (cellsOf S).toArray (0, 0) _ (by rfl) HNE.out.2.2.1.setRow Tryd.underlying32 (by rfl) HI32.out) ?_ ?_
  · rfl
  · exact ⟨by rw [HSE.out], HNE.out.2.2.2.setRow (by omega) _⟩
end Go.Proofs.YtlnblfdddellmaaDoor
