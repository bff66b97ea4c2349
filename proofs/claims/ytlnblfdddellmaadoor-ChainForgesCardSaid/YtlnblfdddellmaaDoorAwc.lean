/-
  The walk over 'awake' of layer 4: the answers that the document fixes.
-/
import Derived.Test.YtlnblfdddellmaaDoorChh
namespace Go.Proofs.YtlnblfdddellmaaDoor
open Go.RowKit
set_option linter.unusedVariables false
theorem digs_zero : Dg.digs zs32 = List.replicate 64 0 ++ [3, 12, 0] := by decide
theorem d32_zero : D32 zs32 := ⟨zs32_len, by decide⟩
def n9 : List Nat := 9 :: List.replicate 31 0
theorem d32_n9 : D32 n9 := ⟨by decide, by decide⟩
def x9 : List Nat := Ch.climbS 7 1 n9 0 2
theorem d32_x9 : D32 x9 := Ch.d32_climb d32_n9 _ _
theorem x9_ne : x9 ≠ zs32 := by
  have : x9.getD 0 0 ≠ 0 := by decide +kernel
  intro h
  rw [h] at this
  exact absurd rfl this
section
variable {P : Program} {ops : Array Oper} {Q : Exit → Act → World → Prop}
theorem wpList_neqg {rest : List Oper} {o : Oper} {a : Act} {w : World} (t t' : TypeId) (x y : Operand) (ho : o.op = .binOp .neq t x y t') (hw : Region.wanted o (yielded ops a.tmps) = true) (xs ys : Array Value) (hx : a.eval x = .agg xs) (hy : a.eval y = .agg ys)
    (hm : P.eqGuardType P.depth t = false) (b : Bool) (hrun : (Op.equalIn 10000 t (.agg xs) (.agg ys)).run P w = .ok b w) (h : wpList P ops Q rest (a.put o.dst (.bool !b)) w) : wpList P ops Q (o :: rest) a w := by
  rw [wpList, if_pos hw]
  refine .inl ?_
  unfold Oper.wp execOp
  simp only [ho, hx, hy, Sem.run_bind, run_eqGuard_agg w .neq t x y xs ys hm, run_neq_struct, hrun, Result.andThen_ok, Sem.run_pure]
  exact h
end
set_option maxRecDepth 100000 in
set_option maxHeartbeats 4000000 in
theorem awake4_c (w : World) (ht : Tab w) : Calls Tryd.prog 21 #[] w fun e w' => e = .returned (.bool true) ∧ Below w.heap.size w w' := by
  have HT := Lib.hid ht
  have hpos := ht.pos
  clear ht
  obtain ⟨D, hD⟩ : ∃ D, D = Dg.digs zs32 := ⟨_, rfl⟩
  have HDG := Lib.hid (show Calls Tryd.prog 40 #[.agg (cellsOf zs32).toArray] w (DigRet D w) from by rw [hD]; exact digits_c zs32 w d32_zero)
  have HDL := Lib.hid (show D.length = 67 from by rw [hD, digs_zero]; rfl)
  have HDV := Lib.hid (show D.getD 0 0 = 0 ∧ D.getD 64 0 = 3 ∧ D.getD 65 0 = 12 ∧ D.getD 66 0 = 0 from by rw [hD, digs_zero]; exact ⟨rfl, rfl, rfl, rfl⟩)
  have HI := Lib.hid (show (Tryd.prog.info? 59).map (·.size) = some (cellsOf D).toArray.size from by rw [cellsOf_size, HDL.out]; exact info_67)
  have HZ := Lib.hid (show (cellsOf zs67).toArray.size = (cellsOf D).toArray.size from by rw [cellsOf_size, cellsOf_size, HDL.out]; rfl)
  clear hD
  go_enter Tryd.func21, Tryd.ntmps21
  go_wp2_with fail
  refine HDG.out.mono ?_
  rintro e w1 ⟨rfl, hb1⟩
  have HB1 := Lib.hid hb1
  have K1 := Lib.hid (fun (X : Obj) (hX : X = .cells (cellsOf zs67).toArray 59 (0, 0)) => show Brow ((w1.alloc X).setRow w1.heap.size (cellsOf D).toArray) w1.heap.size 59 D ∧ Below w.heap.size w ((w1.alloc X).setRow w1.heap.size (cellsOf D).toArray) from by
    subst hX
    exact ⟨(Brow.new w1 59 zs67).setRow, hb1.trans ((((Below.refl _ _).alloc (Nat.le_refl _) _).setRow (Nat.le_refl _) _).mono hb1.size)⟩)
  clear hb1 HDG
  go_upto_region 2 with (first | (refine wpList_store_row (by rfl) 59 _ _ (by rfl) w1.heap.size (cellsOf D).toArray (by rfl) (by rfl) 59 (cellsOf zs67).toArray (by exact heap_new _ _) HI.out HZ.out (cellsOf_all _) ?_))
  refine gen_code (F := fun W => Brow W w1.heap.size 59 D ∧ Below w.heap.size w W) (K1.out _ rfl) ?_
  rintro w2 ⟨h2, hb2⟩
  have HD2 := Lib.hid h2
  have HB2 := Lib.hid hb2
  clear h2 hb2 K1 HB1
  obtain ⟨X, hX⟩ : ∃ X, X = x9 := ⟨_, rfl⟩
  have HXD := Lib.hid (show D32 X from by rw [hX]; exact d32_x9)
  have HXN := Lib.hid (show X ≠ zs32 from by rw [hX]; exact x9_ne)
  have HCL := Lib.hid (show Calls Tryd.prog 41 #[.int .u32 7, .int .u8 1, .agg (cellsOf n9).toArray, .int .i64 0, .int .i64 2] w2 (ClRet X 0 w2) from by rw [hX]; exact Climb_yes 7 1 0 2 n9 w2 d32_n9 (by omega) (by omega) (by omega) (by omega) (HT.out.below HB2.out hpos))
  obtain ⟨Z, hZ⟩ : ∃ Z, Z = Ch.stepS 7 1 0 n9 := ⟨_, rfl⟩
  have HZD := Lib.hid (show D32 Z from by rw [hZ]; exact Ch.d32_step _ _ _ _)
  have HST1 := Lib.hid (show ∀ W, Tab W → Calls Tryd.prog 42 #[.agg #[.int .u32 7, .int .u8 1, .int .u8 0], .agg (cellsOf n9).toArray] W (DigRet Z W) from fun W hW => by rw [hZ]; exact step_c 7 1 0 n9 W d32_n9 (by omega) (by omega) (by omega) hW)
  have HST2 := Lib.hid (show ∀ W, Tab W → Calls Tryd.prog 42 #[.agg #[.int .u32 7, .int .u8 1, .int .u8 1], .agg (cellsOf Z).toArray] W (DigRet X W) from fun W hW => by
    have := step_c 7 1 1 Z W HZD.out (by omega) (by omega) (by omega) hW
    rw [hX]
    rw [show Ch.stepS 7 1 1 Z = x9 from by rw [hZ]; rfl] at this
    exact this)
  have HIX := Lib.hid (info_d32 X HXD.out)
  have HZX := Lib.hid (zs_size X HXD.out)
  clear hX hZ
  go_wp2_with fail
  refine HCL.out.mono ?_
  rintro e w3 ⟨rfl, hb3⟩
  have HD3 := Lib.hid (HD2.out.below hb3 HD2.out.lt)
  have HB3 := Lib.hid (HB2.out.trans (hb3.mono HB2.out.size))
  have K3 := Lib.hid (fun (V : Obj) (hV : V = .cells (cellsOf zs32).toArray 32 (0, 0)) => show Brow ((w3.alloc V).setRow w3.heap.size (cellsOf X).toArray) w1.heap.size 59 D ∧ Brow ((w3.alloc V).setRow w3.heap.size (cellsOf X).toArray) w3.heap.size 32 X ∧ Below w.heap.size w ((w3.alloc V).setRow w3.heap.size (cellsOf X).toArray) from by
    subst hV
    have hb := ((Below.refl w3.heap.size w3).alloc (Nat.le_refl _) (.cells (cellsOf zs32).toArray 32 (0, 0))).setRow (Nat.le_refl _) (cellsOf X).toArray
    exact ⟨HD3.out.below hb HD3.out.lt, (Brow.new w3 32 zs32).setRow, HB3.out.trans (hb.mono HB3.out.size)⟩)
  clear hb3 HCL HD2
  go_upto_region 3 with (first | (refine wpList_store_row (by rfl) 32 _ _ (by rfl) w3.heap.size (cellsOf X).toArray (by rfl) (by rfl) 32 (cellsOf zs32).toArray (by exact heap_new _ _) HIX.out HZX.out (cellsOf_all _) ?_))
  refine gen_code (F := fun W => Brow W w1.heap.size 59 D ∧ Brow W w3.heap.size 32 X ∧ Below w.heap.size w W) (K3.out _ rfl) ?_
  rintro w4 ⟨h4, h4', hb4⟩
  have HD4 := Lib.hid h4
  have HX4 := Lib.hid h4'
  have HB4 := Lib.hid hb4
  clear h4 h4' hb4 K3 HD3 HB3
  go_wp2_with fail
  refine (HST1.out w4 (HT.out.below HB4.out hpos)).mono ?_
  rintro e w5 ⟨rfl, hb5⟩
  have HD5 := Lib.hid (HD4.out.below hb5 HD4.out.lt)
  have HX5 := Lib.hid (HX4.out.below hb5 HX4.out.lt)
  have HB5 := Lib.hid (HB4.out.trans (hb5.mono HB4.out.size))
  clear hb5 HD4 HX4
  go_wp2_with fail
  refine (HST2.out w5 (HT.out.below HB5.out hpos)).mono ?_
  rintro e w6 ⟨rfl, hb6⟩
  have HD6 := Lib.hid (HD5.out.below hb6 HD5.out.lt)
  have HX6 := Lib.hid (HX5.out.below hb6 HX5.out.lt)
  have HB6 := Lib.hid (HB5.out.trans (hb6.mono HB5.out.size))
  have K6 := Lib.hid (fun (V : Obj) (hV : V = .cells (cellsOf zs32).toArray 32 (0, 0)) => show Brow ((w6.alloc V).setRow w6.heap.size (cellsOf X).toArray) w1.heap.size 59 D ∧ Brow ((w6.alloc V).setRow w6.heap.size (cellsOf X).toArray) w3.heap.size 32 X ∧ Brow ((w6.alloc V).setRow w6.heap.size (cellsOf X).toArray) w6.heap.size 32 X ∧ Below w.heap.size w ((w6.alloc V).setRow w6.heap.size (cellsOf X).toArray) from by
    subst hV
    have hb := ((Below.refl w6.heap.size w6).alloc (Nat.le_refl _) (.cells (cellsOf zs32).toArray 32 (0, 0))).setRow (Nat.le_refl _) (cellsOf X).toArray
    exact ⟨HD6.out.below hb HD6.out.lt, HX6.out.below hb HX6.out.lt, (Brow.new w6 32 zs32).setRow, HB6.out.trans (hb.mono HB6.out.size)⟩)
  clear hb6 HST1 HST2 HD5 HX5 HB5
  go_upto_region 4 with (first | (refine wpList_store_row (by rfl) 32 _ _ (by rfl) w6.heap.size (cellsOf X).toArray (by rfl) (by rfl) 32 (cellsOf zs32).toArray (by exact heap_new _ _) HIX.out HZX.out (cellsOf_all _) ?_))
  refine gen_code (F := fun W => Brow W w1.heap.size 59 D ∧ Brow W w3.heap.size 32 X ∧ Brow W w6.heap.size 32 X ∧ Below w.heap.size w W) (K6.out _ rfl) ?_
  rintro w7 ⟨h7, h7', h7'', hb7⟩
  have HX7 := Lib.hid h7'
  have HY7 := Lib.hid h7''
  have HB7 := Lib.hid hb7
  have c0 : w7.cell? ⟨w1.heap.size, 0, none⟩ = some (.int .u8 0) := by have := h7.cell 0 (by rw [HDL.out]; omega); rwa [HDV.out.1] at this
  have c1 : w7.cell? ⟨w1.heap.size, 64, none⟩ = some (.int .u8 3) := by have := h7.cell 64 (by rw [HDL.out]; omega); rwa [HDV.out.2.1] at this
  have c2 : w7.cell? ⟨w1.heap.size, 65, none⟩ = some (.int .u8 12) := by have := h7.cell 65 (by rw [HDL.out]; omega); rwa [HDV.out.2.2.1] at this
  have c3 : w7.cell? ⟨w1.heap.size, 66, none⟩ = some (.int .u8 0) := by have := h7.cell 66 (by rw [HDL.out]; omega); rwa [HDV.out.2.2.2] at this
  have HGT := Lib.hid (show Tryd.prog.eqGuardType Tryd.prog.depth 32 = false by kernel_rfl)
  have HEQ := Lib.hid (fun W => show (Op.equalIn 10000 32 (.agg (cellsOf X).toArray) (.agg (cellsOf X).toArray)).run Tryd.prog W = .ok true W from by
    have := eq_dig 32 32 Tryd.underlying32 W X X HXD.out.1 HXD.out.1 HXD.out.2 HXD.out.2
    simpa using this)
  have HNE := Lib.hid (fun W => show (Op.equalIn 10000 32 (.agg (cellsOf X).toArray) (.agg (cellsOf zs32).toArray)).run Tryd.prog W = .ok false W from by
    have := eq_dig 32 32 Tryd.underlying32 W X zs32 HXD.out.1 zs32_len HXD.out.2 d32_zero.2
    rwa [decide_eq_false HXN.out] at this)
  have HLX := Lib.hid (run_loadAt_mid w7 w3.heap.size 0 32 (cellsOf X) _ HX7.out.range Tryd.underlying32 rfl (by rw [cellsOf_length, HXD.out.1]; exact info_dig))
  have HLY := Lib.hid (run_loadAt_mid w7 w6.heap.size 0 32 (cellsOf X) _ HY7.out.range Tryd.underlying32 rfl (by rw [cellsOf_length, HXD.out.1]; exact info_dig))
  clear h7 h7' h7'' hb7 K6 HD6 HX6 HB6
  go_wp2_with (first | (refine wpList_loadg 32 (.tmp 2) (by rfl) (by rfl) (.pointer (some ⟨w3.heap.size, 0, none⟩)) (by rfl) (.agg (cellsOf X).toArray) HLX.out ?_) | (refine wpList_loadg 32 (.tmp 4) (by rfl) (by rfl) (.pointer (some ⟨w6.heap.size, 0, none⟩)) (by rfl) (.agg (cellsOf X).toArray) HLY.out ?_) | (refine wpList_eqg 32 _ _ _ (by rfl) (by rfl) (cellsOf X).toArray (cellsOf X).toArray (by rfl) (by rfl) HGT.out true (HEQ.out _) ?_) | (refine wpList_neqg 32 _ _ _ (by rfl) (by rfl) (cellsOf X).toArray (cellsOf zs32).toArray (by rfl) (by rfl) HGT.out false (HNE.out _) ?_))
  go_ret
  exact ⟨rfl, HB7.out⟩
end Go.Proofs.YtlnblfdddellmaaDoor
