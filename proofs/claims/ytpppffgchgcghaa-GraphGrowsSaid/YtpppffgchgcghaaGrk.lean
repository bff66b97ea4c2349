/-
  Whether a sum is among others; how many nodes lead to a sum.
-/
import Derived.Test.YtpppffgchgcghaaGrj
namespace Go.Proofs.Ytpppffgchgcghaa
open Go.RowKit Go.Maps
set_option linter.unusedVariables false
theorem exec_indexU {P : Program} {a : Act} {o : Oper} {W : World} {x y : Operand} {t : TypeId} {v u r : Value} (ho : o.op = .indexAddr t x y) (hx : a.eval x = v) (hy : a.eval y = u) (hr : (Instr.indexAt t v u).run P W = .ok r W) : (execOp a.eval o).run P W = .ok (.value r) W := by
  unfold execOp
  simp only [ho, hx, hy, Sem.run_bind, hr, Result.andThen_ok, Sem.run_pure]
set_option maxRecDepth 100000 in
set_option maxHeartbeats 4000000 in
theorem index_c {w : World} (a : Option Addr) (n cap : Nat) (ds : Ds) (hdr : DR w a n ds) (hn : n ≤ 1000000000) {d : List Nat} (hd : D32 d) : Calls Try.prog 46 #[.slice a n cap, .agg (cellsOf d).toArray] w fun e w' => ∃ r : Int, e = .returned (.int .i64 r) ∧ (0 ≤ r ↔ d ∈ ds) ∧ Below w.heap.size w w' := by
  have HDR := Lib.hid hdr
  have HSD := Lib.hid hd
  have hln := hdr.1
  have HLN := Lib.hid hln
  have HGT := Lib.hid (show Try.prog.eqGuardType Try.prog.depth 42 = false by kernel_rfl)
  clear hdr hd hln
  go_enter Try.func46, Try.ntmps46
  obtain ⟨X, hX⟩ : ∃ X, X = w.heap.size := ⟨_, rfl⟩
  go_upto_region 1 with fail
  obtain ⟨w1, hw1⟩ : ∃ w1, w1 = w.alloc (.cells (cellsOf d).toArray 42) := ⟨_, rfl⟩
  rw [← hX]
  rw [← hw1]
  have HB1 := Lib.hid (show Below w.heap.size w w1 from by rw [hw1]; exact (Below.refl _ _).alloc (Nat.le_refl _) _)
  have HX1 := Lib.hid (show w1.heap[X]? = some (.cells (cellsOf d).toArray 42 (0, 0)) from by rw [hw1, hX]; exact heap_alloc_new w _)
  have HP0 := Lib.hid (show Below w1.heap.size w1 w1 ∧ d ∉ ds.take 0 from ⟨Below.refl _ _, by simp⟩)
  clear hw1 hX
  go_wp2_with fail
  go_loopw [8] (fun i wr => ∃ j : Nat, j ≤ n ∧ i = .int .i64 j ∧ Hid (Below w1.heap.size w1 wr ∧ d ∉ ds.take j)) (fun i _ => n - (intOf i).toNat)
  case atStart => exact ⟨0, Nat.zero_le _, rfl, HP0⟩
  case round =>
    clear HP0
    obtain ⟨j, hj, rfl, HP⟩ := hrel
    by_cases hjn : j < n
    · have HDW := Lib.hid (HDR.out.below (HB1.out.trans (HP.out.1.mono HB1.out.size)))
      obtain ⟨ba, oa, rfl, hba, hra⟩ := HDW.out.at j hjn
      obtain ⟨x, hx⟩ : ∃ x, x = ds.getD j [] := ⟨_, rfl⟩
      have hxm : x ∈ ds := by rw [hx, List.getD_eq_getElem?_getD, List.getElem?_eq_getElem (by rw [HLN.out]; exact hjn)]; exact List.getElem_mem _
      rw [← hx] at hra
      have HSX := Lib.hid (HDR.out.2.1 x hxm)
      have HXJ := Lib.hid (show (ds.take (j + 1)) = ds.take j ++ [x] from by
        have e : x = ds[j]'(by rw [HLN.out]; exact hjn) := by rw [hx, List.getD_eq_getElem?_getD, List.getElem?_eq_getElem (by rw [HLN.out]; exact hjn)]; rfl
        rw [e]
        exact List.take_succ_eq_append_getElem _)
      have HXM := Lib.hid hxm
      have HEQ := Lib.hid (fun W => eq_dig 42 32 Try.underlying42 W d x HSD.out.1 HSX.out.1 HSD.out.2 HSX.out.2)
      have HIX := Lib.hid (fun W => run_dindex dtA W ba oa n cap j hjn)
      go_upto_region 4 with fail
      obtain ⟨W0, hW0⟩ : ∃ W0, W0 = World.drew wr := ⟨_, rfl⟩
      have hb0 : Below wr.heap.size wr W0 := by rw [hW0]; exact below_drewN' _ wr 1
      have HB0 := Lib.hid hb0
      have HS := Lib.hid (show Below W0.heap.size W0 W0 from Below.refl _ _)
      have HL1 := Lib.hid (fun (W : World) (hW : Below W0.heap.size W0 W) => run_cell_dig W X d HSD.out (by
        have h1 := (Array.getElem?_eq_some_iff.1 HX1.out).1
        have h2 := HP.out.1.size
        have h3 := HB0.out.size
        exact (hW.block X (by omega)).trans ((HB0.out.block X (by omega)).trans ((HP.out.1.block X h1).trans HX1.out))))
      have HL2 := Lib.hid (fun (W : World) (hW : Below W0.heap.size W0 W) => run_dload dtA W ba (oa + j * 32) x HSX.out (fun i v hv => (hW.cell (p := ⟨ba, oa + j * 32 + i, none⟩) (Nat.lt_of_lt_of_le hba HB0.out.size)).trans ((HB0.out.cell (p := ⟨ba, oa + j * 32 + i, none⟩) hba).trans (hra i v hv))))
      clear hb0 hxm hx
      refine anyH_begin (S := fun W => Below W0.heap.size W0 W) (by kernel_rfl) ?_
      rw [← hW0]
      clear hW0
      refine anyH_loadG 0 (d := 11) (ty := 42) (x := (.tmp 3)) (gd := none) (p := .pointer (some ⟨X, 0, none⟩)) (.agg (cellsOf d).toArray) (by rfl) (fun o ho => wanted_plain ho _) (by kernel_rfl) (by kernel_rfl) (by kernel_rfl) (fun _ _ _ h => h) (by rfl) HL1.out HS.out ?_
      simp only [Act.put, List.setIfInBounds_toArray, List.set_cons_zero, List.set_cons_succ]
      refine anyH_pureG 1 (d := 12) (op := .move (.tmp 0)) (gd := none) (.slice (some ⟨ba, oa, none⟩) n cap) (by rfl) (fun o ho => wanted_plain ho _) (by kernel_rfl) (by kernel_rfl) (by kernel_rfl) (fun _ _ _ h => h) (fun o ho W hW => by unfold execOp; simp only [ho]; go_simp) HS.out ?_
      simp only [Act.put, List.setIfInBounds_toArray, List.set_cons_zero, List.set_cons_succ]
      refine anyH_pureG 2 (d := 13) (op := .move (.tmp 5)) (gd := none) (.int .i64 (j : Int)) (by rfl) (fun o ho => wanted_plain ho _) (by kernel_rfl) (by kernel_rfl) (by kernel_rfl) (fun _ _ _ h => h) (fun o ho W hW => by unfold execOp; simp only [ho]; go_simp) HS.out ?_
      simp only [Act.put, List.setIfInBounds_toArray, List.set_cons_zero, List.set_cons_succ]
      refine anyH_pureG 3 (d := 14) (op := .indexAddr 38 (.tmp 12) (.tmp 13)) (gd := none) (.pointer (some ⟨ba, oa + j * 32, none⟩)) (by rfl) (fun o ho => wanted_plain ho _) (by kernel_rfl) (by kernel_rfl) (by kernel_rfl) (fun _ _ _ h => h) (fun o ho W hW => exec_indexU ho (by rfl) (by rfl) (HIX.out W)) HS.out ?_
      simp only [Act.put, List.setIfInBounds_toArray, List.set_cons_zero, List.set_cons_succ]
      refine anyH_loadG 4 (d := 15) (ty := 42) (x := (.tmp 14)) (gd := none) (p := .pointer (some ⟨ba, oa + j * 32, none⟩)) (.agg (cellsOf x).toArray) (by rfl) (fun o ho => wanted_plain ho _) (by kernel_rfl) (by kernel_rfl) (by kernel_rfl) (fun _ _ _ h => h) (by rfl) HL2.out HS.out ?_
      simp only [Act.put, List.setIfInBounds_toArray, List.set_cons_zero, List.set_cons_succ]
      refine anyH_eqG 5 (d := 16) (t := 42) (t' := 42) (x := (.tmp 11)) (y := (.tmp 15)) (gd := none) ((cellsOf d).toArray) ((cellsOf x).toArray) (decide (d = x)) (by rfl) (fun o ho => wanted_plain ho _) (by kernel_rfl) (by kernel_rfl) (by kernel_rfl) (fun _ _ _ h => h) (by rfl) (by rfl) HGT.out HEQ.out HS.out ?_
      simp only [Act.put, List.setIfInBounds_toArray, List.set_cons_zero, List.set_cons_succ]
      refine wpAnyH_done (by kernel_rfl) ?_ _
      have HBF := Lib.hid (show Below w1.heap.size w1 W0 from HP.out.1.trans (HB0.out.mono HP.out.1.size))
      clear HL1 HL2 HS HIX HEQ hra hba HB0
      by_cases hdx : d = x
      · have HFIN := Lib.hid (show d ∈ ds from by rw [hdx]; exact HXM.out)
        rw [decide_eq_true hdx]
        clear hdx
        go_wp2_with fail
        go_ret
        exact ⟨_, rfl, ⟨fun _ => HFIN.out, fun _ => by omega⟩, HB1.out.trans (HBF.out.mono HB1.out.size)⟩
      · have HPN := Lib.hid (show Below w1.heap.size w1 W0 ∧ d ∉ ds.take (j + 1) from ⟨HBF.out, by rw [HXJ.out]; simp only [List.mem_append, List.mem_singleton, not_or]; exact ⟨HP.out.2, hdx⟩⟩)
        rw [decide_eq_false hdx]
        clear hdx HP HBF
        go_wp2_with fail
        go_roundw
        case rel => exact ⟨j + 1, by omega, by go_num, HPN⟩
        case measure => simp [intOf]; omega
    · obtain rfl : j = n := by omega
      have HFIN := Lib.hid (show d ∉ ds from by have := HP.out.2; rw [← HLN.out, List.take_length] at this; exact this)
      have HBF := Lib.hid HP.out.1
      clear HP
      go_wp2_with fail
      go_ret
      exact ⟨_, rfl, ⟨fun h => by omega, fun h => absurd h HFIN.out⟩, HB1.out.trans (HBF.out.mono HB1.out.size)⟩
set_option maxRecDepth 100000 in
theorem contains_c {w : World} (a : Option Addr) (n cap : Nat) (ds : Ds) (hdr : DR w a n ds) (hn : n ≤ 1000000000) {d : List Nat} (hd : D32 d) : Calls Try.prog 40 #[.slice a n cap, .agg (cellsOf d).toArray] w fun e w' => e = .returned (.bool (decide (d ∈ ds))) ∧ Below w.heap.size w w' := by
  have HDR := Lib.hid hdr
  have HSD := Lib.hid hd
  have HNN := Lib.hid hn
  clear hdr hd hn
  go_enter Try.func40, Try.ntmps40
  obtain ⟨X, hX⟩ : ∃ X, X = w.heap.size := ⟨_, rfl⟩
  go_upto_region 1 with fail
  obtain ⟨w1, hw1⟩ : ∃ w1, w1 = w.alloc (.cells (cellsOf d).toArray 42) := ⟨_, rfl⟩
  rw [← hX]
  rw [← hw1]
  have hb1 : Below w.heap.size w w1 := by rw [hw1]; exact (Below.refl _ _).alloc (Nat.le_refl _) _
  have HB1 := Lib.hid hb1
  have HLX := Lib.hid (run_cell_dig w1 X d HSD.out (by rw [hw1, hX]; exact heap_alloc_new w _))
  have HIC := Lib.hid (index_c a n cap ds (HDR.out.below hb1) HNN.out HSD.out)
  clear hw1 hX hb1
  go_wp2_with (first | (refine wpList_loadg 42 _ (by rfl) (by rfl) (.pointer (some ⟨X, 0, none⟩)) (by rfl) (.agg (cellsOf d).toArray) HLX.out ?_) | fail)
  refine HIC.out.mono ?_
  rintro e2 w2 ⟨r, rfl, hr, hb2⟩
  have HR := Lib.hid hr
  have HB2 := Lib.hid hb2
  clear hr hb2
  go_wp2_with fail
  go_ret
  refine ⟨?_, HB1.out.trans (HB2.out.mono HB1.out.size)⟩
  show Ending.returned (.bool (decide (0 ≤ r))) = _
  congr 2
  exact decide_eq_decide.2 HR.out
end Go.Proofs.Ytpppffgchgcghaa
