/-
  The walk over ChainCrosses.
-/
import Derived.Test.YtealeefkeikcbabDoorChe
namespace Go.Proofs.YtealeefkeikcbabDoor
open Go.RowKit
set_option linter.unusedVariables false
section
variable {P : Program} {ops : Array Oper} {Q : Exit → Act → World → Prop} {md : Region.Mode} {S : World → Prop}
theorem op_at (i : Nat) {d : Option Tmp} {op : Op} {a : Act} {w : World} {K : Act → World → Prop} (hi : (ops[i]?.map fun o => (o.dst, o.op, o.guard)) = some (d, op, none))
    (h : ∀ o : Oper, o.dst = d → o.op = op → o.wp P a w K Q) : wpOp P ops Q i K a w := by
  cases ho : ops[i]? with
  | none => simp [ho] at hi
  | some o =>
    simp only [ho, Option.map_some, Option.some.injEq, Prod.mk.injEq] at hi
    obtain ⟨g1, g2, g3⟩ := hi
    unfold wpOp
    simp only [ho, wanted_plain g3, if_true]
    exact .inl (h o g1 g2)
theorem gen_anyH {fuel : Nat} {listed : Array Bool} {a : Act} {W : World} {F : World → Prop} (h : F W) (k : ∀ w, F w → wpAnyH P md ops Q S fuel listed a w) : wpAnyH P md ops Q S fuel listed a W := k W h
theorem wp_call_fn {o : Oper} {a : Act} {w : World} {K : Act → World → Prop} {f : FuncId} {xs : Array Operand} {ts : Array TypeId} {vs : Array Value} {R : Ending → World → Prop} (ho : o.op = Op.call { callee := .value (.func f), args := xs, argTypes := ts }) (hx : xs.map a.eval = vs)
    (hf : (callFunc f vs).run P w = .ok (.enter f vs) w) (hc : Calls P f vs w R) (h : ∀ e w', R e w' → ∃ v, e = .returned v ∧ K (a.put o.dst v) w') : o.wp P a w K Q := by
  have hr : (execOp a.eval o).run P w = .ok (.enter f vs) w := by
    unfold execOp
    rw [ho]
    simp [resolve, invoke, hx, Act.eval, go_sem, hf]
  unfold Oper.wp
  rw [hr]
  refine hc.mono fun e w' hR => ?_
  obtain ⟨v, rfl, hv⟩ := h e w' hR
  exact hv
end
theorem run_alloc_67 (a : Act) (o : Oper) (ho : o.op = .alloc 38) (W : World) : (execOp a.eval o).run Tryd.prog W = .ok (.value (.pointer (some ⟨W.heap.size, 0, none⟩))) (W.alloc (.cells (cellsOf zs67).toArray 38)) := by
  unfold execOp
  simp only [ho]
  kernel_rfl
theorem wp_alloc_67 {o : Oper} {a : Act} {w : World} {K : Act → World → Prop} {Q : Exit → Act → World → Prop} (ho : o.op = .alloc 38)
    (h : K (a.put o.dst (.pointer (some ⟨w.heap.size, 0, none⟩))) (w.alloc (.cells (cellsOf zs67).toArray 38))) : o.wp Tryd.prog a w K Q := by
  unfold Oper.wp
  rw [run_alloc_67 a o ho w]
  exact h
theorem Brow.there67 {w : World} {g : Nat} {t : TypeId} {zs : List Nat} (h : Brow w g t zs) (m : Nat) (hm : m = zs.length) : w.there g 0 m := fun j hj => by
  rw [Nat.zero_add, cell_of_row _ _ _ _ _ _ h, frozen_of_row _ _ _ _ _ h]
  rw [List.getElem?_toArray, cellsOf_get _ _ (by omega)]
  exact ⟨rfl, rfl⟩
theorem Brow.setAll67 {w : World} {g : Nat} {t : TypeId} {zs ys : List Nat} (h : Brow w g t zs) (hl : ys.length = zs.length) : Brow (w.setCells g 0 (cellsOf ys)) g t ys := by
  have := setCells_row g t (cellsOf ys) 0 (cellsOf zs) w h (by rw [cellsOf_length, cellsOf_length]; omega)
  rw [← cellsOf_splice, splice_whole zs ys hl.symm] at this
  exact this
/-- two sums that came in -/
def X2 (w : World) (m n : List Nat) (W : World) : Prop := Brow W w.heap.size 22 m ∧ Brow W (w.heap.size + 1) 22 n ∧ Below w.heap.size w W
theorem X2.new (w : World) (m n : List Nat) : X2 w m n ((w.alloc (.cells (cellsOf m).toArray 22)).alloc (.cells (cellsOf n).toArray 22)) :=
  ⟨(heap_new2 _ _ _).1, (heap_new2 _ _ _).2, ((Below.refl _ _).alloc (Nat.le_refl _) _).alloc (by simp) _⟩
theorem X2.below {w W W' : World} {m n : List Nat} (h : X2 w m n W) (hb : Below W.heap.size W W') : X2 w m n W' :=
  ⟨h.1.below hb h.1.lt, h.2.1.below hb h.2.1.lt, h.2.2.trans (hb.mono h.2.2.size)⟩
theorem X2.only {w W W' : World} {m n : List Nat} {g : Nat} (h : X2 w m n W) (ho : Only g W W') (hg : w.heap.size + 1 < g) : X2 w m n W' :=
  ⟨h.1.only ho (by omega), h.2.1.only ho (by omega), h.2.2.trans (ho.below (by omega) h.2.2.size)⟩
theorem X2.drew {w W : World} {m n : List Nat} (h : X2 w m n W) : X2 w m n W.drew := ⟨h.1.drew, h.2.1.drew, h.2.2.drew⟩
/-- and their digits -/
def XC (w : World) (g5 g6 : Nat) (m n d1 d2 : List Nat) (W : World) : Prop := X2 w m n W ∧ Brow W g5 38 d1 ∧ Brow W g6 38 d2
theorem XC.below {w W W' : World} {m n d1 d2 : List Nat} {g5 g6 : Nat} (h : XC w g5 g6 m n d1 d2 W) (hb : Below W.heap.size W W') : XC w g5 g6 m n d1 d2 W' :=
  ⟨h.1.below hb, h.2.1.below hb h.2.1.lt, h.2.2.below hb h.2.2.lt⟩
theorem XC.drewN {w W : World} {m n d1 d2 : List Nat} {g5 g6 : Nat} (h : XC w g5 g6 m n d1 d2 W) (q : Nat) : XC w g5 g6 m n d1 d2 (W.drewN q) :=
  ⟨⟨h.1.1, h.1.2.1, h.1.2.2.trans (below_drewN' _ _ _)⟩, h.2.1, h.2.2⟩
set_option maxRecDepth 100000 in
set_option maxHeartbeats 4000000 in
theorem ccrosses_c (m n : List Nat) (w : World) (hm : D32 m) (hn : D32 n) (ht : Tab w) :
    Calls Tryd.prog 6 #[.agg (cellsOf m).toArray, .agg (cellsOf n).toArray] w fun e w' => e = .returned (.bool true) ∧ Below w.heap.size w w' := by
  have HM := Lib.hid hm
  have HN := Lib.hid hn
  have HT := Lib.hid ht
  have hpos := ht.pos
  obtain ⟨D1, h1⟩ : ∃ D, D = Dg.digs m := ⟨_, rfl⟩
  obtain ⟨D2, h2⟩ : ∃ D, D = Dg.digs n := ⟨_, rfl⟩
  have HL1 := Lib.hid (show D1.length = 67 from by rw [h1, Dg.digs_len, hm.1])
  have HL2 := Lib.hid (show D2.length = 67 from by rw [h2, Dg.digs_len, hn.1])
  have HI1 := Lib.hid (info_d67 D1 HL1.out)
  have HI2 := Lib.hid (info_d67 D2 HL2.out)
  have HLT1 := Lib.hid (show ∀ z ∈ D1, z < 16 from by rw [h1]; exact Dg.digs_lt m hm.1 hm.2)
  have HLT2 := Lib.hid (show ∀ z ∈ D2, z < 16 from by rw [h2]; exact Dg.digs_lt n hn.1 hn.2)
  have HE1 := Lib.hid (show Dg.low D1 D2 67 = !decide (m = n) from by rw [h1, h2]; exact Dg.low_eq m n hm.1 hn.1 hm.2 hn.2)
  have HE2 := Lib.hid (show Dg.low D2 D1 67 = !decide (m = n) from by
    rw [h1, h2, Dg.low_eq n m hn.1 hm.1 hn.2 hm.2]
    congr 1
    exact decide_eq_decide.2 ⟨Eq.symm, Eq.symm⟩)
  have HD1 := Lib.hid (show ∀ W, Calls Tryd.prog 21 #[.agg (cellsOf m).toArray] W (DigRet D1 W) from fun W => by rw [h1]; exact digits_c m W hm)
  have HD2 := Lib.hid (show ∀ W, Calls Tryd.prog 21 #[.agg (cellsOf n).toArray] W (DigRet D2 W) from fun W => by rw [h2]; exact digits_c n W hn)
  clear hm hn ht h1 h2
  go_enter Tryd.func6, Tryd.ntmps6
  go_upto_region 1 with fail
  refine gen_code (F := X2 w m n) (X2.new w _ _) ?_
  intro wA h
  have HS := Lib.hid h.drew
  clear h
  go_cut [5, 6] from 7 (fun s5 s6 wx => ∃ g5 g6 : Nat, s5 = .pointer (some ⟨g5, 0, none⟩) ∧ s6 = .pointer (some ⟨g6, 0, none⟩) ∧ Hid (XC w g5 g6 m n D1 D2 wx))
  case first =>
    (try dsimp only [Act.put, List.setIfInBounds_toArray, List.set_cons_zero, List.set_cons_succ])
    have HLM := Lib.hid (fun W (hW : X2 w m n W) => loadR W w.heap.size m HM.out hW.1)
    have HLN := Lib.hid (fun W (hW : X2 w m n W) => loadR W (w.heap.size + 1) n HN.out hW.2.1)
    refine anyH_begin (S := X2 w m n) (by kernel_rfl) ?_
    refine anyH_loadG 0 (d := 10) (ty := 22) (x := (.tmp 2)) (gd := none) (p := .pointer (some ⟨w.heap.size, 0, none⟩)) (.agg (cellsOf m).toArray) (by rfl) (fun o ho => wanted_plain ho _) (by kernel_rfl) (by kernel_rfl) (by kernel_rfl) (fun _ _ _ h => h) (by rfl) HLM.out HS.out ?_
    simp only [Act.put, List.setIfInBounds_toArray, List.set_cons_zero, List.set_cons_succ]
    refine anyH_loadG 2 (d := 12) (ty := 22) (x := (.tmp 3)) (gd := none) (p := .pointer (some ⟨w.heap.size + 1, 0, none⟩)) (.agg (cellsOf n).toArray) (by rfl) (fun o ho => wanted_plain ho _) (by kernel_rfl) (by kernel_rfl) (by kernel_rfl) (fun _ _ _ h => h) (by rfl) HLN.out HS.out ?_
    simp only [Act.put, List.setIfInBounds_toArray, List.set_cons_zero, List.set_cons_succ]
    refine wpAnyH_all (rs := [1, 4, 5]) (by kernel_rfl) (by simp) ?_
    intro k hk; simp only [List.mem_cons, List.not_mem_nil, or_false] at hk; rcases hk with rfl | rfl | rfl
    · refine op_at 1 (d := some 11) (op := .call { callee := .value (.func 21), args := #[(.tmp 10)], argTypes := #[25] }) (by rfl) ?_
      intro o0 hod hoo
      refine wp_call_fn (R := _) hoo (vs := #[.agg (cellsOf m).toArray]) (by go_simp) (by go_simp) (HD1.out wA.drew) ?_
      rintro e w1 ⟨rfl, hb⟩
      refine ⟨_, rfl, HS.out.below hb, ?_⟩
      rw [hod]
      have HS := Lib.hid (HS.out.below hb)
      clear hod hoo hb
      simp only [Act.put, List.setIfInBounds_toArray, List.set_cons_zero, List.set_cons_succ]
      refine wpAnyH_all (rs := [3, 4, 5]) (by kernel_rfl) (by simp) ?_
      intro k hk; simp only [List.mem_cons, List.not_mem_nil, or_false] at hk; rcases hk with rfl | rfl | rfl
      · refine op_at 3 (d := some 13) (op := .call { callee := .value (.func 21), args := #[(.tmp 12)], argTypes := #[25] }) (by rfl) ?_
        intro o0 hod hoo
        refine wp_call_fn (R := _) hoo (vs := #[.agg (cellsOf n).toArray]) (by go_simp) (by go_simp) (HD2.out w1) ?_
        rintro e w2 ⟨rfl, hb⟩
        refine ⟨_, rfl, HS.out.below hb, ?_⟩
        rw [hod]
        have HS := Lib.hid (HS.out.below hb)
        clear hod hoo hb
        simp only [Act.put, List.setIfInBounds_toArray, List.set_cons_zero, List.set_cons_succ]
        refine wpAnyH_all (rs := [4, 5]) (by kernel_rfl) (by simp) ?_
        intro k hk; simp only [List.mem_cons, List.not_mem_nil, or_false] at hk; rcases hk with rfl | rfl
        · refine op_at 4 (d := some 5) (op := .alloc 38) (by rfl) ?_
          intro o0 hod hoo
          refine wp_alloc_67 hoo ?_
          have hb : Below w2.heap.size w2 (w2.alloc (.cells (cellsOf zs67).toArray 38)) := (Below.refl _ _).alloc (Nat.le_refl _) _
          refine ⟨HS.out.below hb, ?_⟩
          rw [hod]
          obtain ⟨g5, hg5⟩ : ∃ g, g = w2.heap.size := ⟨_, rfl⟩
          rw [← hg5]
          refine gen_anyH (F := fun W => Brow W g5 38 zs67 ∧ X2 w m n W) ⟨(by rw [hg5]; exact heap_new _ _), (HS.out.below hb)⟩ ?_
          have hNg5 : w.heap.size + 1 < g5 := by have := HS.out.2.1.lt; omega
          rintro w3 ⟨ha, hs⟩
          clear hg5 hb hod hoo HS
          have HA := Lib.hid ha
          have HS := Lib.hid hs
          clear ha hs
          simp only [Act.put, List.setIfInBounds_toArray, List.set_cons_zero, List.set_cons_succ]
          refine wpAnyH_all (rs := [5]) (by kernel_rfl) (by simp) ?_
          intro k hk; simp only [List.mem_cons, List.not_mem_nil, or_false] at hk; subst hk
          refine op_at 5 (d := some 6) (op := .alloc 38) (by rfl) ?_
          intro o0 hod hoo
          refine wp_alloc_67 hoo ?_
          have hb : Below w3.heap.size w3 (w3.alloc (.cells (cellsOf zs67).toArray 38)) := (Below.refl _ _).alloc (Nat.le_refl _) _
          refine ⟨HS.out.below hb, ?_⟩
          rw [hod]
          obtain ⟨g6, hg6⟩ : ∃ g, g = w3.heap.size := ⟨_, rfl⟩
          rw [← hg6]
          refine gen_anyH (F := fun W => Brow W g6 38 zs67 ∧ X2 w m n W ∧ Brow W g5 38 zs67) ⟨(by rw [hg6]; exact heap_new _ _), (HS.out.below hb), (HA.out.below hb HA.out.lt)⟩ ?_
          have hneg5 : g5 ≠ g6 := by have := HA.out.lt; omega
          have hNg6 : w.heap.size + 1 < g6 := by have := HS.out.2.1.lt; omega
          rintro w5 ⟨ha, hs, hHA⟩
          clear hg6 hb hod hoo HS
          have HB := Lib.hid ha
          have HS := Lib.hid hs
          have HA := Lib.hid hHA
          clear ha hs hHA
          simp only [Act.put, List.setIfInBounds_toArray, List.set_cons_zero, List.set_cons_succ]
          have h56 : g5 ≠ g6 := by first | assumption | (intro h; exact absurd h.symm (by assumption))
          refine wpAnyH_all (rs := [6]) (by kernel_rfl) (by simp) ?_
          intro k hk; simp only [List.mem_cons, List.not_mem_nil, or_false] at hk; subst hk
          refine op_at 6 (d := none) (op := .store 38 (.tmp 5) (.tmp 11)) (by rfl) ?_
          intro o0 hod hoo
          refine wp_store_mid 38 (.tmp 5) (.tmp 11) hoo g5 0 (cellsOf D1).toArray (by rfl) (by rfl) (HA.out.there67 _ (by rw [cellsOf_size, HL1.out]; rfl)) HI1.out (cellsOf_all _) ?_
          rw [hod, List.toList_toArray]
          have ho : Only g5 w5 (w5.setCells g5 0 (cellsOf D1)) := Only.setCells (cellsOf D1) 0 (Only.refl _ _)
          refine ⟨HS.out.only ho hNg5, ?_⟩
          refine gen_anyH (F := fun W => X2 w m n W ∧ Brow W g5 38 D1 ∧ Brow W g6 38 zs67) ⟨HS.out.only ho hNg5, HA.out.setAll67 (by rw [HL1.out]; rfl), HB.out.only ho (Ne.symm h56)⟩ ?_
          rintro w7 ⟨hs, ha, hb⟩
          clear hod hoo ho HS HA HB
          have HS := Lib.hid hs
          have HA := Lib.hid ha
          have HB := Lib.hid hb
          clear hs ha hb
          simp only [Act.put]
          refine wpAnyH_all (rs := [7]) (by kernel_rfl) (by simp) ?_
          intro k hk; simp only [List.mem_cons, List.not_mem_nil, or_false] at hk; subst hk
          refine op_at 7 (d := none) (op := .store 38 (.tmp 6) (.tmp 13)) (by rfl) ?_
          intro o0 hod hoo
          refine wp_store_mid 38 (.tmp 6) (.tmp 13) hoo g6 0 (cellsOf D2).toArray (by rfl) (by rfl) (HB.out.there67 _ (by rw [cellsOf_size, HL2.out]; rfl)) HI2.out (cellsOf_all _) ?_
          rw [hod, List.toList_toArray]
          have ho : Only g6 w7 (w7.setCells g6 0 (cellsOf D2)) := Only.setCells (cellsOf D2) 0 (Only.refl _ _)
          refine ⟨HS.out.only ho hNg6, ?_⟩
          refine gen_anyH (F := XC w g5 g6 m n D1 D2) ⟨HS.out.only ho hNg6, HA.out.only ho h56, HB.out.setAll67 (by rw [HL2.out]; rfl)⟩ ?_
          intro w8 hf
          have HF := Lib.hid hf
          clear hod hoo ho hf HS HA HB
          simp only [Act.put]
          refine wpAnyH_done (by kernel_rfl) ?_ _
          go_wp2_with fail
          go_meet
          exact ⟨g5, g6, rfl, rfl, HF⟩
        · refine op_at 5 (d := some 6) (op := .alloc 38) (by rfl) ?_
          intro o0 hod hoo
          refine wp_alloc_67 hoo ?_
          have hb : Below w2.heap.size w2 (w2.alloc (.cells (cellsOf zs67).toArray 38)) := (Below.refl _ _).alloc (Nat.le_refl _) _
          refine ⟨HS.out.below hb, ?_⟩
          rw [hod]
          obtain ⟨g6, hg6⟩ : ∃ g, g = w2.heap.size := ⟨_, rfl⟩
          rw [← hg6]
          refine gen_anyH (F := fun W => Brow W g6 38 zs67 ∧ X2 w m n W) ⟨(by rw [hg6]; exact heap_new _ _), (HS.out.below hb)⟩ ?_
          have hNg6 : w.heap.size + 1 < g6 := by have := HS.out.2.1.lt; omega
          rintro w9 ⟨ha, hs⟩
          clear hg6 hb hod hoo HS
          have HB := Lib.hid ha
          have HS := Lib.hid hs
          clear ha hs
          simp only [Act.put, List.setIfInBounds_toArray, List.set_cons_zero, List.set_cons_succ]
          refine wpAnyH_all (rs := [4]) (by kernel_rfl) (by simp) ?_
          intro k hk; simp only [List.mem_cons, List.not_mem_nil, or_false] at hk; subst hk
          refine op_at 4 (d := some 5) (op := .alloc 38) (by rfl) ?_
          intro o0 hod hoo
          refine wp_alloc_67 hoo ?_
          have hb : Below w9.heap.size w9 (w9.alloc (.cells (cellsOf zs67).toArray 38)) := (Below.refl _ _).alloc (Nat.le_refl _) _
          refine ⟨HS.out.below hb, ?_⟩
          rw [hod]
          obtain ⟨g5, hg5⟩ : ∃ g, g = w9.heap.size := ⟨_, rfl⟩
          rw [← hg5]
          refine gen_anyH (F := fun W => Brow W g5 38 zs67 ∧ X2 w m n W ∧ Brow W g6 38 zs67) ⟨(by rw [hg5]; exact heap_new _ _), (HS.out.below hb), (HB.out.below hb HB.out.lt)⟩ ?_
          have hneg6 : g6 ≠ g5 := by have := HB.out.lt; omega
          have hNg5 : w.heap.size + 1 < g5 := by have := HS.out.2.1.lt; omega
          rintro w11 ⟨ha, hs, hHB⟩
          clear hg5 hb hod hoo HS
          have HA := Lib.hid ha
          have HS := Lib.hid hs
          have HB := Lib.hid hHB
          clear ha hs hHB
          simp only [Act.put, List.setIfInBounds_toArray, List.set_cons_zero, List.set_cons_succ]
          have h56 : g5 ≠ g6 := by first | assumption | (intro h; exact absurd h.symm (by assumption))
          refine wpAnyH_all (rs := [6]) (by kernel_rfl) (by simp) ?_
          intro k hk; simp only [List.mem_cons, List.not_mem_nil, or_false] at hk; subst hk
          refine op_at 6 (d := none) (op := .store 38 (.tmp 5) (.tmp 11)) (by rfl) ?_
          intro o0 hod hoo
          refine wp_store_mid 38 (.tmp 5) (.tmp 11) hoo g5 0 (cellsOf D1).toArray (by rfl) (by rfl) (HA.out.there67 _ (by rw [cellsOf_size, HL1.out]; rfl)) HI1.out (cellsOf_all _) ?_
          rw [hod, List.toList_toArray]
          have ho : Only g5 w11 (w11.setCells g5 0 (cellsOf D1)) := Only.setCells (cellsOf D1) 0 (Only.refl _ _)
          refine ⟨HS.out.only ho hNg5, ?_⟩
          refine gen_anyH (F := fun W => X2 w m n W ∧ Brow W g5 38 D1 ∧ Brow W g6 38 zs67) ⟨HS.out.only ho hNg5, HA.out.setAll67 (by rw [HL1.out]; rfl), HB.out.only ho (Ne.symm h56)⟩ ?_
          rintro w13 ⟨hs, ha, hb⟩
          clear hod hoo ho HS HA HB
          have HS := Lib.hid hs
          have HA := Lib.hid ha
          have HB := Lib.hid hb
          clear hs ha hb
          simp only [Act.put]
          refine wpAnyH_all (rs := [7]) (by kernel_rfl) (by simp) ?_
          intro k hk; simp only [List.mem_cons, List.not_mem_nil, or_false] at hk; subst hk
          refine op_at 7 (d := none) (op := .store 38 (.tmp 6) (.tmp 13)) (by rfl) ?_
          intro o0 hod hoo
          refine wp_store_mid 38 (.tmp 6) (.tmp 13) hoo g6 0 (cellsOf D2).toArray (by rfl) (by rfl) (HB.out.there67 _ (by rw [cellsOf_size, HL2.out]; rfl)) HI2.out (cellsOf_all _) ?_
          rw [hod, List.toList_toArray]
          have ho : Only g6 w13 (w13.setCells g6 0 (cellsOf D2)) := Only.setCells (cellsOf D2) 0 (Only.refl _ _)
          refine ⟨HS.out.only ho hNg6, ?_⟩
          refine gen_anyH (F := XC w g5 g6 m n D1 D2) ⟨HS.out.only ho hNg6, HA.out.only ho h56, HB.out.setAll67 (by rw [HL2.out]; rfl)⟩ ?_
          intro w14 hf
          have HF := Lib.hid hf
          clear hod hoo ho hf HS HA HB
          simp only [Act.put]
          refine wpAnyH_done (by kernel_rfl) ?_ _
          go_wp2_with fail
          go_meet
          exact ⟨g5, g6, rfl, rfl, HF⟩
      · refine op_at 4 (d := some 5) (op := .alloc 38) (by rfl) ?_
        intro o0 hod hoo
        refine wp_alloc_67 hoo ?_
        have hb : Below w1.heap.size w1 (w1.alloc (.cells (cellsOf zs67).toArray 38)) := (Below.refl _ _).alloc (Nat.le_refl _) _
        refine ⟨HS.out.below hb, ?_⟩
        rw [hod]
        obtain ⟨g5, hg5⟩ : ∃ g, g = w1.heap.size := ⟨_, rfl⟩
        rw [← hg5]
        refine gen_anyH (F := fun W => Brow W g5 38 zs67 ∧ X2 w m n W) ⟨(by rw [hg5]; exact heap_new _ _), (HS.out.below hb)⟩ ?_
        have hNg5 : w.heap.size + 1 < g5 := by have := HS.out.2.1.lt; omega
        rintro w15 ⟨ha, hs⟩
        clear hg5 hb hod hoo HS
        have HA := Lib.hid ha
        have HS := Lib.hid hs
        clear ha hs
        simp only [Act.put, List.setIfInBounds_toArray, List.set_cons_zero, List.set_cons_succ]
        refine wpAnyH_all (rs := [3, 5]) (by kernel_rfl) (by simp) ?_
        intro k hk; simp only [List.mem_cons, List.not_mem_nil, or_false] at hk; rcases hk with rfl | rfl
        · refine op_at 3 (d := some 13) (op := .call { callee := .value (.func 21), args := #[(.tmp 12)], argTypes := #[25] }) (by rfl) ?_
          intro o0 hod hoo
          refine wp_call_fn (R := _) hoo (vs := #[.agg (cellsOf n).toArray]) (by go_simp) (by go_simp) (HD2.out w15) ?_
          rintro e w17 ⟨rfl, hb⟩
          refine ⟨_, rfl, HS.out.below hb, ?_⟩
          rw [hod]
          have HA := Lib.hid (HA.out.below hb HA.out.lt)
          have HS := Lib.hid (HS.out.below hb)
          clear hod hoo hb
          simp only [Act.put, List.setIfInBounds_toArray, List.set_cons_zero, List.set_cons_succ]
          refine wpAnyH_all (rs := [5]) (by kernel_rfl) (by simp) ?_
          intro k hk; simp only [List.mem_cons, List.not_mem_nil, or_false] at hk; subst hk
          refine op_at 5 (d := some 6) (op := .alloc 38) (by rfl) ?_
          intro o0 hod hoo
          refine wp_alloc_67 hoo ?_
          have hb : Below w17.heap.size w17 (w17.alloc (.cells (cellsOf zs67).toArray 38)) := (Below.refl _ _).alloc (Nat.le_refl _) _
          refine ⟨HS.out.below hb, ?_⟩
          rw [hod]
          obtain ⟨g6, hg6⟩ : ∃ g, g = w17.heap.size := ⟨_, rfl⟩
          rw [← hg6]
          refine gen_anyH (F := fun W => Brow W g6 38 zs67 ∧ X2 w m n W ∧ Brow W g5 38 zs67) ⟨(by rw [hg6]; exact heap_new _ _), (HS.out.below hb), (HA.out.below hb HA.out.lt)⟩ ?_
          have hneg5 : g5 ≠ g6 := by have := HA.out.lt; omega
          have hNg6 : w.heap.size + 1 < g6 := by have := HS.out.2.1.lt; omega
          rintro w18 ⟨ha, hs, hHA⟩
          clear hg6 hb hod hoo HS
          have HB := Lib.hid ha
          have HS := Lib.hid hs
          have HA := Lib.hid hHA
          clear ha hs hHA
          simp only [Act.put, List.setIfInBounds_toArray, List.set_cons_zero, List.set_cons_succ]
          have h56 : g5 ≠ g6 := by first | assumption | (intro h; exact absurd h.symm (by assumption))
          refine wpAnyH_all (rs := [6]) (by kernel_rfl) (by simp) ?_
          intro k hk; simp only [List.mem_cons, List.not_mem_nil, or_false] at hk; subst hk
          refine op_at 6 (d := none) (op := .store 38 (.tmp 5) (.tmp 11)) (by rfl) ?_
          intro o0 hod hoo
          refine wp_store_mid 38 (.tmp 5) (.tmp 11) hoo g5 0 (cellsOf D1).toArray (by rfl) (by rfl) (HA.out.there67 _ (by rw [cellsOf_size, HL1.out]; rfl)) HI1.out (cellsOf_all _) ?_
          rw [hod, List.toList_toArray]
          have ho : Only g5 w18 (w18.setCells g5 0 (cellsOf D1)) := Only.setCells (cellsOf D1) 0 (Only.refl _ _)
          refine ⟨HS.out.only ho hNg5, ?_⟩
          refine gen_anyH (F := fun W => X2 w m n W ∧ Brow W g5 38 D1 ∧ Brow W g6 38 zs67) ⟨HS.out.only ho hNg5, HA.out.setAll67 (by rw [HL1.out]; rfl), HB.out.only ho (Ne.symm h56)⟩ ?_
          rintro w20 ⟨hs, ha, hb⟩
          clear hod hoo ho HS HA HB
          have HS := Lib.hid hs
          have HA := Lib.hid ha
          have HB := Lib.hid hb
          clear hs ha hb
          simp only [Act.put]
          refine wpAnyH_all (rs := [7]) (by kernel_rfl) (by simp) ?_
          intro k hk; simp only [List.mem_cons, List.not_mem_nil, or_false] at hk; subst hk
          refine op_at 7 (d := none) (op := .store 38 (.tmp 6) (.tmp 13)) (by rfl) ?_
          intro o0 hod hoo
          refine wp_store_mid 38 (.tmp 6) (.tmp 13) hoo g6 0 (cellsOf D2).toArray (by rfl) (by rfl) (HB.out.there67 _ (by rw [cellsOf_size, HL2.out]; rfl)) HI2.out (cellsOf_all _) ?_
          rw [hod, List.toList_toArray]
          have ho : Only g6 w20 (w20.setCells g6 0 (cellsOf D2)) := Only.setCells (cellsOf D2) 0 (Only.refl _ _)
          refine ⟨HS.out.only ho hNg6, ?_⟩
          refine gen_anyH (F := XC w g5 g6 m n D1 D2) ⟨HS.out.only ho hNg6, HA.out.only ho h56, HB.out.setAll67 (by rw [HL2.out]; rfl)⟩ ?_
          intro w21 hf
          have HF := Lib.hid hf
          clear hod hoo ho hf HS HA HB
          simp only [Act.put]
          refine wpAnyH_done (by kernel_rfl) ?_ _
          go_wp2_with fail
          go_meet
          exact ⟨g5, g6, rfl, rfl, HF⟩
        · refine op_at 5 (d := some 6) (op := .alloc 38) (by rfl) ?_
          intro o0 hod hoo
          refine wp_alloc_67 hoo ?_
          have hb : Below w15.heap.size w15 (w15.alloc (.cells (cellsOf zs67).toArray 38)) := (Below.refl _ _).alloc (Nat.le_refl _) _
          refine ⟨HS.out.below hb, ?_⟩
          rw [hod]
          obtain ⟨g6, hg6⟩ : ∃ g, g = w15.heap.size := ⟨_, rfl⟩
          rw [← hg6]
          refine gen_anyH (F := fun W => Brow W g6 38 zs67 ∧ X2 w m n W ∧ Brow W g5 38 zs67) ⟨(by rw [hg6]; exact heap_new _ _), (HS.out.below hb), (HA.out.below hb HA.out.lt)⟩ ?_
          have hneg5 : g5 ≠ g6 := by have := HA.out.lt; omega
          have hNg6 : w.heap.size + 1 < g6 := by have := HS.out.2.1.lt; omega
          rintro w22 ⟨ha, hs, hHA⟩
          clear hg6 hb hod hoo HS
          have HB := Lib.hid ha
          have HS := Lib.hid hs
          have HA := Lib.hid hHA
          clear ha hs hHA
          simp only [Act.put, List.setIfInBounds_toArray, List.set_cons_zero, List.set_cons_succ]
          refine wpAnyH_all (rs := [3]) (by kernel_rfl) (by simp) ?_
          intro k hk; simp only [List.mem_cons, List.not_mem_nil, or_false] at hk; subst hk
          refine op_at 3 (d := some 13) (op := .call { callee := .value (.func 21), args := #[(.tmp 12)], argTypes := #[25] }) (by rfl) ?_
          intro o0 hod hoo
          refine wp_call_fn (R := _) hoo (vs := #[.agg (cellsOf n).toArray]) (by go_simp) (by go_simp) (HD2.out w22) ?_
          rintro e w24 ⟨rfl, hb⟩
          refine ⟨_, rfl, HS.out.below hb, ?_⟩
          rw [hod]
          have HA := Lib.hid (HA.out.below hb HA.out.lt)
          have HB := Lib.hid (HB.out.below hb HB.out.lt)
          have HS := Lib.hid (HS.out.below hb)
          clear hod hoo hb
          simp only [Act.put, List.setIfInBounds_toArray, List.set_cons_zero, List.set_cons_succ]
          have h56 : g5 ≠ g6 := by first | assumption | (intro h; exact absurd h.symm (by assumption))
          refine wpAnyH_all (rs := [6]) (by kernel_rfl) (by simp) ?_
          intro k hk; simp only [List.mem_cons, List.not_mem_nil, or_false] at hk; subst hk
          refine op_at 6 (d := none) (op := .store 38 (.tmp 5) (.tmp 11)) (by rfl) ?_
          intro o0 hod hoo
          refine wp_store_mid 38 (.tmp 5) (.tmp 11) hoo g5 0 (cellsOf D1).toArray (by rfl) (by rfl) (HA.out.there67 _ (by rw [cellsOf_size, HL1.out]; rfl)) HI1.out (cellsOf_all _) ?_
          rw [hod, List.toList_toArray]
          have ho : Only g5 w24 (w24.setCells g5 0 (cellsOf D1)) := Only.setCells (cellsOf D1) 0 (Only.refl _ _)
          refine ⟨HS.out.only ho hNg5, ?_⟩
          refine gen_anyH (F := fun W => X2 w m n W ∧ Brow W g5 38 D1 ∧ Brow W g6 38 zs67) ⟨HS.out.only ho hNg5, HA.out.setAll67 (by rw [HL1.out]; rfl), HB.out.only ho (Ne.symm h56)⟩ ?_
          rintro w25 ⟨hs, ha, hb⟩
          clear hod hoo ho HS HA HB
          have HS := Lib.hid hs
          have HA := Lib.hid ha
          have HB := Lib.hid hb
          clear hs ha hb
          simp only [Act.put]
          refine wpAnyH_all (rs := [7]) (by kernel_rfl) (by simp) ?_
          intro k hk; simp only [List.mem_cons, List.not_mem_nil, or_false] at hk; subst hk
          refine op_at 7 (d := none) (op := .store 38 (.tmp 6) (.tmp 13)) (by rfl) ?_
          intro o0 hod hoo
          refine wp_store_mid 38 (.tmp 6) (.tmp 13) hoo g6 0 (cellsOf D2).toArray (by rfl) (by rfl) (HB.out.there67 _ (by rw [cellsOf_size, HL2.out]; rfl)) HI2.out (cellsOf_all _) ?_
          rw [hod, List.toList_toArray]
          have ho : Only g6 w25 (w25.setCells g6 0 (cellsOf D2)) := Only.setCells (cellsOf D2) 0 (Only.refl _ _)
          refine ⟨HS.out.only ho hNg6, ?_⟩
          refine gen_anyH (F := XC w g5 g6 m n D1 D2) ⟨HS.out.only ho hNg6, HA.out.only ho h56, HB.out.setAll67 (by rw [HL2.out]; rfl)⟩ ?_
          intro w26 hf
          have HF := Lib.hid hf
          clear hod hoo ho hf HS HA HB
          simp only [Act.put]
          refine wpAnyH_done (by kernel_rfl) ?_ _
          go_wp2_with fail
          go_meet
          exact ⟨g5, g6, rfl, rfl, HF⟩
      · refine op_at 5 (d := some 6) (op := .alloc 38) (by rfl) ?_
        intro o0 hod hoo
        refine wp_alloc_67 hoo ?_
        have hb : Below w1.heap.size w1 (w1.alloc (.cells (cellsOf zs67).toArray 38)) := (Below.refl _ _).alloc (Nat.le_refl _) _
        refine ⟨HS.out.below hb, ?_⟩
        rw [hod]
        obtain ⟨g6, hg6⟩ : ∃ g, g = w1.heap.size := ⟨_, rfl⟩
        rw [← hg6]
        refine gen_anyH (F := fun W => Brow W g6 38 zs67 ∧ X2 w m n W) ⟨(by rw [hg6]; exact heap_new _ _), (HS.out.below hb)⟩ ?_
        have hNg6 : w.heap.size + 1 < g6 := by have := HS.out.2.1.lt; omega
        rintro w27 ⟨ha, hs⟩
        clear hg6 hb hod hoo HS
        have HB := Lib.hid ha
        have HS := Lib.hid hs
        clear ha hs
        simp only [Act.put, List.setIfInBounds_toArray, List.set_cons_zero, List.set_cons_succ]
        refine wpAnyH_all (rs := [3, 4]) (by kernel_rfl) (by simp) ?_
        intro k hk; simp only [List.mem_cons, List.not_mem_nil, or_false] at hk; rcases hk with rfl | rfl
        · refine op_at 3 (d := some 13) (op := .call { callee := .value (.func 21), args := #[(.tmp 12)], argTypes := #[25] }) (by rfl) ?_
          intro o0 hod hoo
          refine wp_call_fn (R := _) hoo (vs := #[.agg (cellsOf n).toArray]) (by go_simp) (by go_simp) (HD2.out w27) ?_
          rintro e w29 ⟨rfl, hb⟩
          refine ⟨_, rfl, HS.out.below hb, ?_⟩
          rw [hod]
          have HB := Lib.hid (HB.out.below hb HB.out.lt)
          have HS := Lib.hid (HS.out.below hb)
          clear hod hoo hb
          simp only [Act.put, List.setIfInBounds_toArray, List.set_cons_zero, List.set_cons_succ]
          refine wpAnyH_all (rs := [4]) (by kernel_rfl) (by simp) ?_
          intro k hk; simp only [List.mem_cons, List.not_mem_nil, or_false] at hk; subst hk
          refine op_at 4 (d := some 5) (op := .alloc 38) (by rfl) ?_
          intro o0 hod hoo
          refine wp_alloc_67 hoo ?_
          have hb : Below w29.heap.size w29 (w29.alloc (.cells (cellsOf zs67).toArray 38)) := (Below.refl _ _).alloc (Nat.le_refl _) _
          refine ⟨HS.out.below hb, ?_⟩
          rw [hod]
          obtain ⟨g5, hg5⟩ : ∃ g, g = w29.heap.size := ⟨_, rfl⟩
          rw [← hg5]
          refine gen_anyH (F := fun W => Brow W g5 38 zs67 ∧ X2 w m n W ∧ Brow W g6 38 zs67) ⟨(by rw [hg5]; exact heap_new _ _), (HS.out.below hb), (HB.out.below hb HB.out.lt)⟩ ?_
          have hneg6 : g6 ≠ g5 := by have := HB.out.lt; omega
          have hNg5 : w.heap.size + 1 < g5 := by have := HS.out.2.1.lt; omega
          rintro w30 ⟨ha, hs, hHB⟩
          clear hg5 hb hod hoo HS
          have HA := Lib.hid ha
          have HS := Lib.hid hs
          have HB := Lib.hid hHB
          clear ha hs hHB
          simp only [Act.put, List.setIfInBounds_toArray, List.set_cons_zero, List.set_cons_succ]
          have h56 : g5 ≠ g6 := by first | assumption | (intro h; exact absurd h.symm (by assumption))
          refine wpAnyH_all (rs := [6]) (by kernel_rfl) (by simp) ?_
          intro k hk; simp only [List.mem_cons, List.not_mem_nil, or_false] at hk; subst hk
          refine op_at 6 (d := none) (op := .store 38 (.tmp 5) (.tmp 11)) (by rfl) ?_
          intro o0 hod hoo
          refine wp_store_mid 38 (.tmp 5) (.tmp 11) hoo g5 0 (cellsOf D1).toArray (by rfl) (by rfl) (HA.out.there67 _ (by rw [cellsOf_size, HL1.out]; rfl)) HI1.out (cellsOf_all _) ?_
          rw [hod, List.toList_toArray]
          have ho : Only g5 w30 (w30.setCells g5 0 (cellsOf D1)) := Only.setCells (cellsOf D1) 0 (Only.refl _ _)
          refine ⟨HS.out.only ho hNg5, ?_⟩
          refine gen_anyH (F := fun W => X2 w m n W ∧ Brow W g5 38 D1 ∧ Brow W g6 38 zs67) ⟨HS.out.only ho hNg5, HA.out.setAll67 (by rw [HL1.out]; rfl), HB.out.only ho (Ne.symm h56)⟩ ?_
          rintro w32 ⟨hs, ha, hb⟩
          clear hod hoo ho HS HA HB
          have HS := Lib.hid hs
          have HA := Lib.hid ha
          have HB := Lib.hid hb
          clear hs ha hb
          simp only [Act.put]
          refine wpAnyH_all (rs := [7]) (by kernel_rfl) (by simp) ?_
          intro k hk; simp only [List.mem_cons, List.not_mem_nil, or_false] at hk; subst hk
          refine op_at 7 (d := none) (op := .store 38 (.tmp 6) (.tmp 13)) (by rfl) ?_
          intro o0 hod hoo
          refine wp_store_mid 38 (.tmp 6) (.tmp 13) hoo g6 0 (cellsOf D2).toArray (by rfl) (by rfl) (HB.out.there67 _ (by rw [cellsOf_size, HL2.out]; rfl)) HI2.out (cellsOf_all _) ?_
          rw [hod, List.toList_toArray]
          have ho : Only g6 w32 (w32.setCells g6 0 (cellsOf D2)) := Only.setCells (cellsOf D2) 0 (Only.refl _ _)
          refine ⟨HS.out.only ho hNg6, ?_⟩
          refine gen_anyH (F := XC w g5 g6 m n D1 D2) ⟨HS.out.only ho hNg6, HA.out.only ho h56, HB.out.setAll67 (by rw [HL2.out]; rfl)⟩ ?_
          intro w33 hf
          have HF := Lib.hid hf
          clear hod hoo ho hf HS HA HB
          simp only [Act.put]
          refine wpAnyH_done (by kernel_rfl) ?_ _
          go_wp2_with fail
          go_meet
          exact ⟨g5, g6, rfl, rfl, HF⟩
        · refine op_at 4 (d := some 5) (op := .alloc 38) (by rfl) ?_
          intro o0 hod hoo
          refine wp_alloc_67 hoo ?_
          have hb : Below w27.heap.size w27 (w27.alloc (.cells (cellsOf zs67).toArray 38)) := (Below.refl _ _).alloc (Nat.le_refl _) _
          refine ⟨HS.out.below hb, ?_⟩
          rw [hod]
          obtain ⟨g5, hg5⟩ : ∃ g, g = w27.heap.size := ⟨_, rfl⟩
          rw [← hg5]
          refine gen_anyH (F := fun W => Brow W g5 38 zs67 ∧ X2 w m n W ∧ Brow W g6 38 zs67) ⟨(by rw [hg5]; exact heap_new _ _), (HS.out.below hb), (HB.out.below hb HB.out.lt)⟩ ?_
          have hneg6 : g6 ≠ g5 := by have := HB.out.lt; omega
          have hNg5 : w.heap.size + 1 < g5 := by have := HS.out.2.1.lt; omega
          rintro w34 ⟨ha, hs, hHB⟩
          clear hg5 hb hod hoo HS
          have HA := Lib.hid ha
          have HS := Lib.hid hs
          have HB := Lib.hid hHB
          clear ha hs hHB
          simp only [Act.put, List.setIfInBounds_toArray, List.set_cons_zero, List.set_cons_succ]
          refine wpAnyH_all (rs := [3]) (by kernel_rfl) (by simp) ?_
          intro k hk; simp only [List.mem_cons, List.not_mem_nil, or_false] at hk; subst hk
          refine op_at 3 (d := some 13) (op := .call { callee := .value (.func 21), args := #[(.tmp 12)], argTypes := #[25] }) (by rfl) ?_
          intro o0 hod hoo
          refine wp_call_fn (R := _) hoo (vs := #[.agg (cellsOf n).toArray]) (by go_simp) (by go_simp) (HD2.out w34) ?_
          rintro e w36 ⟨rfl, hb⟩
          refine ⟨_, rfl, HS.out.below hb, ?_⟩
          rw [hod]
          have HA := Lib.hid (HA.out.below hb HA.out.lt)
          have HB := Lib.hid (HB.out.below hb HB.out.lt)
          have HS := Lib.hid (HS.out.below hb)
          clear hod hoo hb
          simp only [Act.put, List.setIfInBounds_toArray, List.set_cons_zero, List.set_cons_succ]
          have h56 : g5 ≠ g6 := by first | assumption | (intro h; exact absurd h.symm (by assumption))
          refine wpAnyH_all (rs := [6]) (by kernel_rfl) (by simp) ?_
          intro k hk; simp only [List.mem_cons, List.not_mem_nil, or_false] at hk; subst hk
          refine op_at 6 (d := none) (op := .store 38 (.tmp 5) (.tmp 11)) (by rfl) ?_
          intro o0 hod hoo
          refine wp_store_mid 38 (.tmp 5) (.tmp 11) hoo g5 0 (cellsOf D1).toArray (by rfl) (by rfl) (HA.out.there67 _ (by rw [cellsOf_size, HL1.out]; rfl)) HI1.out (cellsOf_all _) ?_
          rw [hod, List.toList_toArray]
          have ho : Only g5 w36 (w36.setCells g5 0 (cellsOf D1)) := Only.setCells (cellsOf D1) 0 (Only.refl _ _)
          refine ⟨HS.out.only ho hNg5, ?_⟩
          refine gen_anyH (F := fun W => X2 w m n W ∧ Brow W g5 38 D1 ∧ Brow W g6 38 zs67) ⟨HS.out.only ho hNg5, HA.out.setAll67 (by rw [HL1.out]; rfl), HB.out.only ho (Ne.symm h56)⟩ ?_
          rintro w37 ⟨hs, ha, hb⟩
          clear hod hoo ho HS HA HB
          have HS := Lib.hid hs
          have HA := Lib.hid ha
          have HB := Lib.hid hb
          clear hs ha hb
          simp only [Act.put]
          refine wpAnyH_all (rs := [7]) (by kernel_rfl) (by simp) ?_
          intro k hk; simp only [List.mem_cons, List.not_mem_nil, or_false] at hk; subst hk
          refine op_at 7 (d := none) (op := .store 38 (.tmp 6) (.tmp 13)) (by rfl) ?_
          intro o0 hod hoo
          refine wp_store_mid 38 (.tmp 6) (.tmp 13) hoo g6 0 (cellsOf D2).toArray (by rfl) (by rfl) (HB.out.there67 _ (by rw [cellsOf_size, HL2.out]; rfl)) HI2.out (cellsOf_all _) ?_
          rw [hod, List.toList_toArray]
          have ho : Only g6 w37 (w37.setCells g6 0 (cellsOf D2)) := Only.setCells (cellsOf D2) 0 (Only.refl _ _)
          refine ⟨HS.out.only ho hNg6, ?_⟩
          refine gen_anyH (F := XC w g5 g6 m n D1 D2) ⟨HS.out.only ho hNg6, HA.out.only ho h56, HB.out.setAll67 (by rw [HL2.out]; rfl)⟩ ?_
          intro w38 hf
          have HF := Lib.hid hf
          clear hod hoo ho hf HS HA HB
          simp only [Act.put]
          refine wpAnyH_done (by kernel_rfl) ?_ _
          go_wp2_with fail
          go_meet
          exact ⟨g5, g6, rfl, rfl, HF⟩
    · refine op_at 4 (d := some 5) (op := .alloc 38) (by rfl) ?_
      intro o0 hod hoo
      refine wp_alloc_67 hoo ?_
      have hb : Below wA.drew.heap.size wA.drew (wA.drew.alloc (.cells (cellsOf zs67).toArray 38)) := (Below.refl _ _).alloc (Nat.le_refl _) _
      refine ⟨HS.out.below hb, ?_⟩
      rw [hod]
      obtain ⟨g5, hg5⟩ : ∃ g, g = wA.drew.heap.size := ⟨_, rfl⟩
      rw [← hg5]
      refine gen_anyH (F := fun W => Brow W g5 38 zs67 ∧ X2 w m n W) ⟨(by rw [hg5]; exact heap_new _ _), (HS.out.below hb)⟩ ?_
      have hNg5 : w.heap.size + 1 < g5 := by have := HS.out.2.1.lt; omega
      rintro w39 ⟨ha, hs⟩
      clear hg5 hb hod hoo HS
      have HA := Lib.hid ha
      have HS := Lib.hid hs
      clear ha hs
      simp only [Act.put, List.setIfInBounds_toArray, List.set_cons_zero, List.set_cons_succ]
      refine wpAnyH_all (rs := [1, 5]) (by kernel_rfl) (by simp) ?_
      intro k hk; simp only [List.mem_cons, List.not_mem_nil, or_false] at hk; rcases hk with rfl | rfl
      · refine op_at 1 (d := some 11) (op := .call { callee := .value (.func 21), args := #[(.tmp 10)], argTypes := #[25] }) (by rfl) ?_
        intro o0 hod hoo
        refine wp_call_fn (R := _) hoo (vs := #[.agg (cellsOf m).toArray]) (by go_simp) (by go_simp) (HD1.out w39) ?_
        rintro e w41 ⟨rfl, hb⟩
        refine ⟨_, rfl, HS.out.below hb, ?_⟩
        rw [hod]
        have HA := Lib.hid (HA.out.below hb HA.out.lt)
        have HS := Lib.hid (HS.out.below hb)
        clear hod hoo hb
        simp only [Act.put, List.setIfInBounds_toArray, List.set_cons_zero, List.set_cons_succ]
        refine wpAnyH_all (rs := [3, 5]) (by kernel_rfl) (by simp) ?_
        intro k hk; simp only [List.mem_cons, List.not_mem_nil, or_false] at hk; rcases hk with rfl | rfl
        · refine op_at 3 (d := some 13) (op := .call { callee := .value (.func 21), args := #[(.tmp 12)], argTypes := #[25] }) (by rfl) ?_
          intro o0 hod hoo
          refine wp_call_fn (R := _) hoo (vs := #[.agg (cellsOf n).toArray]) (by go_simp) (by go_simp) (HD2.out w41) ?_
          rintro e w42 ⟨rfl, hb⟩
          refine ⟨_, rfl, HS.out.below hb, ?_⟩
          rw [hod]
          have HA := Lib.hid (HA.out.below hb HA.out.lt)
          have HS := Lib.hid (HS.out.below hb)
          clear hod hoo hb
          simp only [Act.put, List.setIfInBounds_toArray, List.set_cons_zero, List.set_cons_succ]
          refine wpAnyH_all (rs := [5]) (by kernel_rfl) (by simp) ?_
          intro k hk; simp only [List.mem_cons, List.not_mem_nil, or_false] at hk; subst hk
          refine op_at 5 (d := some 6) (op := .alloc 38) (by rfl) ?_
          intro o0 hod hoo
          refine wp_alloc_67 hoo ?_
          have hb : Below w42.heap.size w42 (w42.alloc (.cells (cellsOf zs67).toArray 38)) := (Below.refl _ _).alloc (Nat.le_refl _) _
          refine ⟨HS.out.below hb, ?_⟩
          rw [hod]
          obtain ⟨g6, hg6⟩ : ∃ g, g = w42.heap.size := ⟨_, rfl⟩
          rw [← hg6]
          refine gen_anyH (F := fun W => Brow W g6 38 zs67 ∧ X2 w m n W ∧ Brow W g5 38 zs67) ⟨(by rw [hg6]; exact heap_new _ _), (HS.out.below hb), (HA.out.below hb HA.out.lt)⟩ ?_
          have hneg5 : g5 ≠ g6 := by have := HA.out.lt; omega
          have hNg6 : w.heap.size + 1 < g6 := by have := HS.out.2.1.lt; omega
          rintro w43 ⟨ha, hs, hHA⟩
          clear hg6 hb hod hoo HS
          have HB := Lib.hid ha
          have HS := Lib.hid hs
          have HA := Lib.hid hHA
          clear ha hs hHA
          simp only [Act.put, List.setIfInBounds_toArray, List.set_cons_zero, List.set_cons_succ]
          have h56 : g5 ≠ g6 := by first | assumption | (intro h; exact absurd h.symm (by assumption))
          refine wpAnyH_all (rs := [6]) (by kernel_rfl) (by simp) ?_
          intro k hk; simp only [List.mem_cons, List.not_mem_nil, or_false] at hk; subst hk
          refine op_at 6 (d := none) (op := .store 38 (.tmp 5) (.tmp 11)) (by rfl) ?_
          intro o0 hod hoo
          refine wp_store_mid 38 (.tmp 5) (.tmp 11) hoo g5 0 (cellsOf D1).toArray (by rfl) (by rfl) (HA.out.there67 _ (by rw [cellsOf_size, HL1.out]; rfl)) HI1.out (cellsOf_all _) ?_
          rw [hod, List.toList_toArray]
          have ho : Only g5 w43 (w43.setCells g5 0 (cellsOf D1)) := Only.setCells (cellsOf D1) 0 (Only.refl _ _)
          refine ⟨HS.out.only ho hNg5, ?_⟩
          refine gen_anyH (F := fun W => X2 w m n W ∧ Brow W g5 38 D1 ∧ Brow W g6 38 zs67) ⟨HS.out.only ho hNg5, HA.out.setAll67 (by rw [HL1.out]; rfl), HB.out.only ho (Ne.symm h56)⟩ ?_
          rintro w45 ⟨hs, ha, hb⟩
          clear hod hoo ho HS HA HB
          have HS := Lib.hid hs
          have HA := Lib.hid ha
          have HB := Lib.hid hb
          clear hs ha hb
          simp only [Act.put]
          refine wpAnyH_all (rs := [7]) (by kernel_rfl) (by simp) ?_
          intro k hk; simp only [List.mem_cons, List.not_mem_nil, or_false] at hk; subst hk
          refine op_at 7 (d := none) (op := .store 38 (.tmp 6) (.tmp 13)) (by rfl) ?_
          intro o0 hod hoo
          refine wp_store_mid 38 (.tmp 6) (.tmp 13) hoo g6 0 (cellsOf D2).toArray (by rfl) (by rfl) (HB.out.there67 _ (by rw [cellsOf_size, HL2.out]; rfl)) HI2.out (cellsOf_all _) ?_
          rw [hod, List.toList_toArray]
          have ho : Only g6 w45 (w45.setCells g6 0 (cellsOf D2)) := Only.setCells (cellsOf D2) 0 (Only.refl _ _)
          refine ⟨HS.out.only ho hNg6, ?_⟩
          refine gen_anyH (F := XC w g5 g6 m n D1 D2) ⟨HS.out.only ho hNg6, HA.out.only ho h56, HB.out.setAll67 (by rw [HL2.out]; rfl)⟩ ?_
          intro w46 hf
          have HF := Lib.hid hf
          clear hod hoo ho hf HS HA HB
          simp only [Act.put]
          refine wpAnyH_done (by kernel_rfl) ?_ _
          go_wp2_with fail
          go_meet
          exact ⟨g5, g6, rfl, rfl, HF⟩
        · refine op_at 5 (d := some 6) (op := .alloc 38) (by rfl) ?_
          intro o0 hod hoo
          refine wp_alloc_67 hoo ?_
          have hb : Below w41.heap.size w41 (w41.alloc (.cells (cellsOf zs67).toArray 38)) := (Below.refl _ _).alloc (Nat.le_refl _) _
          refine ⟨HS.out.below hb, ?_⟩
          rw [hod]
          obtain ⟨g6, hg6⟩ : ∃ g, g = w41.heap.size := ⟨_, rfl⟩
          rw [← hg6]
          refine gen_anyH (F := fun W => Brow W g6 38 zs67 ∧ X2 w m n W ∧ Brow W g5 38 zs67) ⟨(by rw [hg6]; exact heap_new _ _), (HS.out.below hb), (HA.out.below hb HA.out.lt)⟩ ?_
          have hneg5 : g5 ≠ g6 := by have := HA.out.lt; omega
          have hNg6 : w.heap.size + 1 < g6 := by have := HS.out.2.1.lt; omega
          rintro w47 ⟨ha, hs, hHA⟩
          clear hg6 hb hod hoo HS
          have HB := Lib.hid ha
          have HS := Lib.hid hs
          have HA := Lib.hid hHA
          clear ha hs hHA
          simp only [Act.put, List.setIfInBounds_toArray, List.set_cons_zero, List.set_cons_succ]
          refine wpAnyH_all (rs := [3]) (by kernel_rfl) (by simp) ?_
          intro k hk; simp only [List.mem_cons, List.not_mem_nil, or_false] at hk; subst hk
          refine op_at 3 (d := some 13) (op := .call { callee := .value (.func 21), args := #[(.tmp 12)], argTypes := #[25] }) (by rfl) ?_
          intro o0 hod hoo
          refine wp_call_fn (R := _) hoo (vs := #[.agg (cellsOf n).toArray]) (by go_simp) (by go_simp) (HD2.out w47) ?_
          rintro e w49 ⟨rfl, hb⟩
          refine ⟨_, rfl, HS.out.below hb, ?_⟩
          rw [hod]
          have HA := Lib.hid (HA.out.below hb HA.out.lt)
          have HB := Lib.hid (HB.out.below hb HB.out.lt)
          have HS := Lib.hid (HS.out.below hb)
          clear hod hoo hb
          simp only [Act.put, List.setIfInBounds_toArray, List.set_cons_zero, List.set_cons_succ]
          have h56 : g5 ≠ g6 := by first | assumption | (intro h; exact absurd h.symm (by assumption))
          refine wpAnyH_all (rs := [6]) (by kernel_rfl) (by simp) ?_
          intro k hk; simp only [List.mem_cons, List.not_mem_nil, or_false] at hk; subst hk
          refine op_at 6 (d := none) (op := .store 38 (.tmp 5) (.tmp 11)) (by rfl) ?_
          intro o0 hod hoo
          refine wp_store_mid 38 (.tmp 5) (.tmp 11) hoo g5 0 (cellsOf D1).toArray (by rfl) (by rfl) (HA.out.there67 _ (by rw [cellsOf_size, HL1.out]; rfl)) HI1.out (cellsOf_all _) ?_
          rw [hod, List.toList_toArray]
          have ho : Only g5 w49 (w49.setCells g5 0 (cellsOf D1)) := Only.setCells (cellsOf D1) 0 (Only.refl _ _)
          refine ⟨HS.out.only ho hNg5, ?_⟩
          refine gen_anyH (F := fun W => X2 w m n W ∧ Brow W g5 38 D1 ∧ Brow W g6 38 zs67) ⟨HS.out.only ho hNg5, HA.out.setAll67 (by rw [HL1.out]; rfl), HB.out.only ho (Ne.symm h56)⟩ ?_
          rintro w50 ⟨hs, ha, hb⟩
          clear hod hoo ho HS HA HB
          have HS := Lib.hid hs
          have HA := Lib.hid ha
          have HB := Lib.hid hb
          clear hs ha hb
          simp only [Act.put]
          refine wpAnyH_all (rs := [7]) (by kernel_rfl) (by simp) ?_
          intro k hk; simp only [List.mem_cons, List.not_mem_nil, or_false] at hk; subst hk
          refine op_at 7 (d := none) (op := .store 38 (.tmp 6) (.tmp 13)) (by rfl) ?_
          intro o0 hod hoo
          refine wp_store_mid 38 (.tmp 6) (.tmp 13) hoo g6 0 (cellsOf D2).toArray (by rfl) (by rfl) (HB.out.there67 _ (by rw [cellsOf_size, HL2.out]; rfl)) HI2.out (cellsOf_all _) ?_
          rw [hod, List.toList_toArray]
          have ho : Only g6 w50 (w50.setCells g6 0 (cellsOf D2)) := Only.setCells (cellsOf D2) 0 (Only.refl _ _)
          refine ⟨HS.out.only ho hNg6, ?_⟩
          refine gen_anyH (F := XC w g5 g6 m n D1 D2) ⟨HS.out.only ho hNg6, HA.out.only ho h56, HB.out.setAll67 (by rw [HL2.out]; rfl)⟩ ?_
          intro w51 hf
          have HF := Lib.hid hf
          clear hod hoo ho hf HS HA HB
          simp only [Act.put]
          refine wpAnyH_done (by kernel_rfl) ?_ _
          go_wp2_with fail
          go_meet
          exact ⟨g5, g6, rfl, rfl, HF⟩
      · refine op_at 5 (d := some 6) (op := .alloc 38) (by rfl) ?_
        intro o0 hod hoo
        refine wp_alloc_67 hoo ?_
        have hb : Below w39.heap.size w39 (w39.alloc (.cells (cellsOf zs67).toArray 38)) := (Below.refl _ _).alloc (Nat.le_refl _) _
        refine ⟨HS.out.below hb, ?_⟩
        rw [hod]
        obtain ⟨g6, hg6⟩ : ∃ g, g = w39.heap.size := ⟨_, rfl⟩
        rw [← hg6]
        refine gen_anyH (F := fun W => Brow W g6 38 zs67 ∧ X2 w m n W ∧ Brow W g5 38 zs67) ⟨(by rw [hg6]; exact heap_new _ _), (HS.out.below hb), (HA.out.below hb HA.out.lt)⟩ ?_
        have hneg5 : g5 ≠ g6 := by have := HA.out.lt; omega
        have hNg6 : w.heap.size + 1 < g6 := by have := HS.out.2.1.lt; omega
        rintro w52 ⟨ha, hs, hHA⟩
        clear hg6 hb hod hoo HS
        have HB := Lib.hid ha
        have HS := Lib.hid hs
        have HA := Lib.hid hHA
        clear ha hs hHA
        simp only [Act.put, List.setIfInBounds_toArray, List.set_cons_zero, List.set_cons_succ]
        refine wpAnyH_all (rs := [1]) (by kernel_rfl) (by simp) ?_
        intro k hk; simp only [List.mem_cons, List.not_mem_nil, or_false] at hk; subst hk
        refine op_at 1 (d := some 11) (op := .call { callee := .value (.func 21), args := #[(.tmp 10)], argTypes := #[25] }) (by rfl) ?_
        intro o0 hod hoo
        refine wp_call_fn (R := _) hoo (vs := #[.agg (cellsOf m).toArray]) (by go_simp) (by go_simp) (HD1.out w52) ?_
        rintro e w54 ⟨rfl, hb⟩
        refine ⟨_, rfl, HS.out.below hb, ?_⟩
        rw [hod]
        have HA := Lib.hid (HA.out.below hb HA.out.lt)
        have HB := Lib.hid (HB.out.below hb HB.out.lt)
        have HS := Lib.hid (HS.out.below hb)
        clear hod hoo hb
        simp only [Act.put, List.setIfInBounds_toArray, List.set_cons_zero, List.set_cons_succ]
        refine wpAnyH_all (rs := [3]) (by kernel_rfl) (by simp) ?_
        intro k hk; simp only [List.mem_cons, List.not_mem_nil, or_false] at hk; subst hk
        refine op_at 3 (d := some 13) (op := .call { callee := .value (.func 21), args := #[(.tmp 12)], argTypes := #[25] }) (by rfl) ?_
        intro o0 hod hoo
        refine wp_call_fn (R := _) hoo (vs := #[.agg (cellsOf n).toArray]) (by go_simp) (by go_simp) (HD2.out w54) ?_
        rintro e w55 ⟨rfl, hb⟩
        refine ⟨_, rfl, HS.out.below hb, ?_⟩
        rw [hod]
        have HA := Lib.hid (HA.out.below hb HA.out.lt)
        have HB := Lib.hid (HB.out.below hb HB.out.lt)
        have HS := Lib.hid (HS.out.below hb)
        clear hod hoo hb
        simp only [Act.put, List.setIfInBounds_toArray, List.set_cons_zero, List.set_cons_succ]
        have h56 : g5 ≠ g6 := by first | assumption | (intro h; exact absurd h.symm (by assumption))
        refine wpAnyH_all (rs := [6]) (by kernel_rfl) (by simp) ?_
        intro k hk; simp only [List.mem_cons, List.not_mem_nil, or_false] at hk; subst hk
        refine op_at 6 (d := none) (op := .store 38 (.tmp 5) (.tmp 11)) (by rfl) ?_
        intro o0 hod hoo
        refine wp_store_mid 38 (.tmp 5) (.tmp 11) hoo g5 0 (cellsOf D1).toArray (by rfl) (by rfl) (HA.out.there67 _ (by rw [cellsOf_size, HL1.out]; rfl)) HI1.out (cellsOf_all _) ?_
        rw [hod, List.toList_toArray]
        have ho : Only g5 w55 (w55.setCells g5 0 (cellsOf D1)) := Only.setCells (cellsOf D1) 0 (Only.refl _ _)
        refine ⟨HS.out.only ho hNg5, ?_⟩
        refine gen_anyH (F := fun W => X2 w m n W ∧ Brow W g5 38 D1 ∧ Brow W g6 38 zs67) ⟨HS.out.only ho hNg5, HA.out.setAll67 (by rw [HL1.out]; rfl), HB.out.only ho (Ne.symm h56)⟩ ?_
        rintro w56 ⟨hs, ha, hb⟩
        clear hod hoo ho HS HA HB
        have HS := Lib.hid hs
        have HA := Lib.hid ha
        have HB := Lib.hid hb
        clear hs ha hb
        simp only [Act.put]
        refine wpAnyH_all (rs := [7]) (by kernel_rfl) (by simp) ?_
        intro k hk; simp only [List.mem_cons, List.not_mem_nil, or_false] at hk; subst hk
        refine op_at 7 (d := none) (op := .store 38 (.tmp 6) (.tmp 13)) (by rfl) ?_
        intro o0 hod hoo
        refine wp_store_mid 38 (.tmp 6) (.tmp 13) hoo g6 0 (cellsOf D2).toArray (by rfl) (by rfl) (HB.out.there67 _ (by rw [cellsOf_size, HL2.out]; rfl)) HI2.out (cellsOf_all _) ?_
        rw [hod, List.toList_toArray]
        have ho : Only g6 w56 (w56.setCells g6 0 (cellsOf D2)) := Only.setCells (cellsOf D2) 0 (Only.refl _ _)
        refine ⟨HS.out.only ho hNg6, ?_⟩
        refine gen_anyH (F := XC w g5 g6 m n D1 D2) ⟨HS.out.only ho hNg6, HA.out.only ho h56, HB.out.setAll67 (by rw [HL2.out]; rfl)⟩ ?_
        intro w57 hf
        have HF := Lib.hid hf
        clear hod hoo ho hf HS HA HB
        simp only [Act.put]
        refine wpAnyH_done (by kernel_rfl) ?_ _
        go_wp2_with fail
        go_meet
        exact ⟨g5, g6, rfl, rfl, HF⟩
    · refine op_at 5 (d := some 6) (op := .alloc 38) (by rfl) ?_
      intro o0 hod hoo
      refine wp_alloc_67 hoo ?_
      have hb : Below wA.drew.heap.size wA.drew (wA.drew.alloc (.cells (cellsOf zs67).toArray 38)) := (Below.refl _ _).alloc (Nat.le_refl _) _
      refine ⟨HS.out.below hb, ?_⟩
      rw [hod]
      obtain ⟨g6, hg6⟩ : ∃ g, g = wA.drew.heap.size := ⟨_, rfl⟩
      rw [← hg6]
      refine gen_anyH (F := fun W => Brow W g6 38 zs67 ∧ X2 w m n W) ⟨(by rw [hg6]; exact heap_new _ _), (HS.out.below hb)⟩ ?_
      have hNg6 : w.heap.size + 1 < g6 := by have := HS.out.2.1.lt; omega
      rintro w58 ⟨ha, hs⟩
      clear hg6 hb hod hoo HS
      have HB := Lib.hid ha
      have HS := Lib.hid hs
      clear ha hs
      simp only [Act.put, List.setIfInBounds_toArray, List.set_cons_zero, List.set_cons_succ]
      refine wpAnyH_all (rs := [1, 4]) (by kernel_rfl) (by simp) ?_
      intro k hk; simp only [List.mem_cons, List.not_mem_nil, or_false] at hk; rcases hk with rfl | rfl
      · refine op_at 1 (d := some 11) (op := .call { callee := .value (.func 21), args := #[(.tmp 10)], argTypes := #[25] }) (by rfl) ?_
        intro o0 hod hoo
        refine wp_call_fn (R := _) hoo (vs := #[.agg (cellsOf m).toArray]) (by go_simp) (by go_simp) (HD1.out w58) ?_
        rintro e w60 ⟨rfl, hb⟩
        refine ⟨_, rfl, HS.out.below hb, ?_⟩
        rw [hod]
        have HB := Lib.hid (HB.out.below hb HB.out.lt)
        have HS := Lib.hid (HS.out.below hb)
        clear hod hoo hb
        simp only [Act.put, List.setIfInBounds_toArray, List.set_cons_zero, List.set_cons_succ]
        refine wpAnyH_all (rs := [3, 4]) (by kernel_rfl) (by simp) ?_
        intro k hk; simp only [List.mem_cons, List.not_mem_nil, or_false] at hk; rcases hk with rfl | rfl
        · refine op_at 3 (d := some 13) (op := .call { callee := .value (.func 21), args := #[(.tmp 12)], argTypes := #[25] }) (by rfl) ?_
          intro o0 hod hoo
          refine wp_call_fn (R := _) hoo (vs := #[.agg (cellsOf n).toArray]) (by go_simp) (by go_simp) (HD2.out w60) ?_
          rintro e w61 ⟨rfl, hb⟩
          refine ⟨_, rfl, HS.out.below hb, ?_⟩
          rw [hod]
          have HB := Lib.hid (HB.out.below hb HB.out.lt)
          have HS := Lib.hid (HS.out.below hb)
          clear hod hoo hb
          simp only [Act.put, List.setIfInBounds_toArray, List.set_cons_zero, List.set_cons_succ]
          refine wpAnyH_all (rs := [4]) (by kernel_rfl) (by simp) ?_
          intro k hk; simp only [List.mem_cons, List.not_mem_nil, or_false] at hk; subst hk
          refine op_at 4 (d := some 5) (op := .alloc 38) (by rfl) ?_
          intro o0 hod hoo
          refine wp_alloc_67 hoo ?_
          have hb : Below w61.heap.size w61 (w61.alloc (.cells (cellsOf zs67).toArray 38)) := (Below.refl _ _).alloc (Nat.le_refl _) _
          refine ⟨HS.out.below hb, ?_⟩
          rw [hod]
          obtain ⟨g5, hg5⟩ : ∃ g, g = w61.heap.size := ⟨_, rfl⟩
          rw [← hg5]
          refine gen_anyH (F := fun W => Brow W g5 38 zs67 ∧ X2 w m n W ∧ Brow W g6 38 zs67) ⟨(by rw [hg5]; exact heap_new _ _), (HS.out.below hb), (HB.out.below hb HB.out.lt)⟩ ?_
          have hneg6 : g6 ≠ g5 := by have := HB.out.lt; omega
          have hNg5 : w.heap.size + 1 < g5 := by have := HS.out.2.1.lt; omega
          rintro w62 ⟨ha, hs, hHB⟩
          clear hg5 hb hod hoo HS
          have HA := Lib.hid ha
          have HS := Lib.hid hs
          have HB := Lib.hid hHB
          clear ha hs hHB
          simp only [Act.put, List.setIfInBounds_toArray, List.set_cons_zero, List.set_cons_succ]
          have h56 : g5 ≠ g6 := by first | assumption | (intro h; exact absurd h.symm (by assumption))
          refine wpAnyH_all (rs := [6]) (by kernel_rfl) (by simp) ?_
          intro k hk; simp only [List.mem_cons, List.not_mem_nil, or_false] at hk; subst hk
          refine op_at 6 (d := none) (op := .store 38 (.tmp 5) (.tmp 11)) (by rfl) ?_
          intro o0 hod hoo
          refine wp_store_mid 38 (.tmp 5) (.tmp 11) hoo g5 0 (cellsOf D1).toArray (by rfl) (by rfl) (HA.out.there67 _ (by rw [cellsOf_size, HL1.out]; rfl)) HI1.out (cellsOf_all _) ?_
          rw [hod, List.toList_toArray]
          have ho : Only g5 w62 (w62.setCells g5 0 (cellsOf D1)) := Only.setCells (cellsOf D1) 0 (Only.refl _ _)
          refine ⟨HS.out.only ho hNg5, ?_⟩
          refine gen_anyH (F := fun W => X2 w m n W ∧ Brow W g5 38 D1 ∧ Brow W g6 38 zs67) ⟨HS.out.only ho hNg5, HA.out.setAll67 (by rw [HL1.out]; rfl), HB.out.only ho (Ne.symm h56)⟩ ?_
          rintro w64 ⟨hs, ha, hb⟩
          clear hod hoo ho HS HA HB
          have HS := Lib.hid hs
          have HA := Lib.hid ha
          have HB := Lib.hid hb
          clear hs ha hb
          simp only [Act.put]
          refine wpAnyH_all (rs := [7]) (by kernel_rfl) (by simp) ?_
          intro k hk; simp only [List.mem_cons, List.not_mem_nil, or_false] at hk; subst hk
          refine op_at 7 (d := none) (op := .store 38 (.tmp 6) (.tmp 13)) (by rfl) ?_
          intro o0 hod hoo
          refine wp_store_mid 38 (.tmp 6) (.tmp 13) hoo g6 0 (cellsOf D2).toArray (by rfl) (by rfl) (HB.out.there67 _ (by rw [cellsOf_size, HL2.out]; rfl)) HI2.out (cellsOf_all _) ?_
          rw [hod, List.toList_toArray]
          have ho : Only g6 w64 (w64.setCells g6 0 (cellsOf D2)) := Only.setCells (cellsOf D2) 0 (Only.refl _ _)
          refine ⟨HS.out.only ho hNg6, ?_⟩
          refine gen_anyH (F := XC w g5 g6 m n D1 D2) ⟨HS.out.only ho hNg6, HA.out.only ho h56, HB.out.setAll67 (by rw [HL2.out]; rfl)⟩ ?_
          intro w65 hf
          have HF := Lib.hid hf
          clear hod hoo ho hf HS HA HB
          simp only [Act.put]
          refine wpAnyH_done (by kernel_rfl) ?_ _
          go_wp2_with fail
          go_meet
          exact ⟨g5, g6, rfl, rfl, HF⟩
        · refine op_at 4 (d := some 5) (op := .alloc 38) (by rfl) ?_
          intro o0 hod hoo
          refine wp_alloc_67 hoo ?_
          have hb : Below w60.heap.size w60 (w60.alloc (.cells (cellsOf zs67).toArray 38)) := (Below.refl _ _).alloc (Nat.le_refl _) _
          refine ⟨HS.out.below hb, ?_⟩
          rw [hod]
          obtain ⟨g5, hg5⟩ : ∃ g, g = w60.heap.size := ⟨_, rfl⟩
          rw [← hg5]
          refine gen_anyH (F := fun W => Brow W g5 38 zs67 ∧ X2 w m n W ∧ Brow W g6 38 zs67) ⟨(by rw [hg5]; exact heap_new _ _), (HS.out.below hb), (HB.out.below hb HB.out.lt)⟩ ?_
          have hneg6 : g6 ≠ g5 := by have := HB.out.lt; omega
          have hNg5 : w.heap.size + 1 < g5 := by have := HS.out.2.1.lt; omega
          rintro w66 ⟨ha, hs, hHB⟩
          clear hg5 hb hod hoo HS
          have HA := Lib.hid ha
          have HS := Lib.hid hs
          have HB := Lib.hid hHB
          clear ha hs hHB
          simp only [Act.put, List.setIfInBounds_toArray, List.set_cons_zero, List.set_cons_succ]
          refine wpAnyH_all (rs := [3]) (by kernel_rfl) (by simp) ?_
          intro k hk; simp only [List.mem_cons, List.not_mem_nil, or_false] at hk; subst hk
          refine op_at 3 (d := some 13) (op := .call { callee := .value (.func 21), args := #[(.tmp 12)], argTypes := #[25] }) (by rfl) ?_
          intro o0 hod hoo
          refine wp_call_fn (R := _) hoo (vs := #[.agg (cellsOf n).toArray]) (by go_simp) (by go_simp) (HD2.out w66) ?_
          rintro e w68 ⟨rfl, hb⟩
          refine ⟨_, rfl, HS.out.below hb, ?_⟩
          rw [hod]
          have HA := Lib.hid (HA.out.below hb HA.out.lt)
          have HB := Lib.hid (HB.out.below hb HB.out.lt)
          have HS := Lib.hid (HS.out.below hb)
          clear hod hoo hb
          simp only [Act.put, List.setIfInBounds_toArray, List.set_cons_zero, List.set_cons_succ]
          have h56 : g5 ≠ g6 := by first | assumption | (intro h; exact absurd h.symm (by assumption))
          refine wpAnyH_all (rs := [6]) (by kernel_rfl) (by simp) ?_
          intro k hk; simp only [List.mem_cons, List.not_mem_nil, or_false] at hk; subst hk
          refine op_at 6 (d := none) (op := .store 38 (.tmp 5) (.tmp 11)) (by rfl) ?_
          intro o0 hod hoo
          refine wp_store_mid 38 (.tmp 5) (.tmp 11) hoo g5 0 (cellsOf D1).toArray (by rfl) (by rfl) (HA.out.there67 _ (by rw [cellsOf_size, HL1.out]; rfl)) HI1.out (cellsOf_all _) ?_
          rw [hod, List.toList_toArray]
          have ho : Only g5 w68 (w68.setCells g5 0 (cellsOf D1)) := Only.setCells (cellsOf D1) 0 (Only.refl _ _)
          refine ⟨HS.out.only ho hNg5, ?_⟩
          refine gen_anyH (F := fun W => X2 w m n W ∧ Brow W g5 38 D1 ∧ Brow W g6 38 zs67) ⟨HS.out.only ho hNg5, HA.out.setAll67 (by rw [HL1.out]; rfl), HB.out.only ho (Ne.symm h56)⟩ ?_
          rintro w69 ⟨hs, ha, hb⟩
          clear hod hoo ho HS HA HB
          have HS := Lib.hid hs
          have HA := Lib.hid ha
          have HB := Lib.hid hb
          clear hs ha hb
          simp only [Act.put]
          refine wpAnyH_all (rs := [7]) (by kernel_rfl) (by simp) ?_
          intro k hk; simp only [List.mem_cons, List.not_mem_nil, or_false] at hk; subst hk
          refine op_at 7 (d := none) (op := .store 38 (.tmp 6) (.tmp 13)) (by rfl) ?_
          intro o0 hod hoo
          refine wp_store_mid 38 (.tmp 6) (.tmp 13) hoo g6 0 (cellsOf D2).toArray (by rfl) (by rfl) (HB.out.there67 _ (by rw [cellsOf_size, HL2.out]; rfl)) HI2.out (cellsOf_all _) ?_
          rw [hod, List.toList_toArray]
          have ho : Only g6 w69 (w69.setCells g6 0 (cellsOf D2)) := Only.setCells (cellsOf D2) 0 (Only.refl _ _)
          refine ⟨HS.out.only ho hNg6, ?_⟩
          refine gen_anyH (F := XC w g5 g6 m n D1 D2) ⟨HS.out.only ho hNg6, HA.out.only ho h56, HB.out.setAll67 (by rw [HL2.out]; rfl)⟩ ?_
          intro w70 hf
          have HF := Lib.hid hf
          clear hod hoo ho hf HS HA HB
          simp only [Act.put]
          refine wpAnyH_done (by kernel_rfl) ?_ _
          go_wp2_with fail
          go_meet
          exact ⟨g5, g6, rfl, rfl, HF⟩
      · refine op_at 4 (d := some 5) (op := .alloc 38) (by rfl) ?_
        intro o0 hod hoo
        refine wp_alloc_67 hoo ?_
        have hb : Below w58.heap.size w58 (w58.alloc (.cells (cellsOf zs67).toArray 38)) := (Below.refl _ _).alloc (Nat.le_refl _) _
        refine ⟨HS.out.below hb, ?_⟩
        rw [hod]
        obtain ⟨g5, hg5⟩ : ∃ g, g = w58.heap.size := ⟨_, rfl⟩
        rw [← hg5]
        refine gen_anyH (F := fun W => Brow W g5 38 zs67 ∧ X2 w m n W ∧ Brow W g6 38 zs67) ⟨(by rw [hg5]; exact heap_new _ _), (HS.out.below hb), (HB.out.below hb HB.out.lt)⟩ ?_
        have hneg6 : g6 ≠ g5 := by have := HB.out.lt; omega
        have hNg5 : w.heap.size + 1 < g5 := by have := HS.out.2.1.lt; omega
        rintro w71 ⟨ha, hs, hHB⟩
        clear hg5 hb hod hoo HS
        have HA := Lib.hid ha
        have HS := Lib.hid hs
        have HB := Lib.hid hHB
        clear ha hs hHB
        simp only [Act.put, List.setIfInBounds_toArray, List.set_cons_zero, List.set_cons_succ]
        refine wpAnyH_all (rs := [1]) (by kernel_rfl) (by simp) ?_
        intro k hk; simp only [List.mem_cons, List.not_mem_nil, or_false] at hk; subst hk
        refine op_at 1 (d := some 11) (op := .call { callee := .value (.func 21), args := #[(.tmp 10)], argTypes := #[25] }) (by rfl) ?_
        intro o0 hod hoo
        refine wp_call_fn (R := _) hoo (vs := #[.agg (cellsOf m).toArray]) (by go_simp) (by go_simp) (HD1.out w71) ?_
        rintro e w73 ⟨rfl, hb⟩
        refine ⟨_, rfl, HS.out.below hb, ?_⟩
        rw [hod]
        have HA := Lib.hid (HA.out.below hb HA.out.lt)
        have HB := Lib.hid (HB.out.below hb HB.out.lt)
        have HS := Lib.hid (HS.out.below hb)
        clear hod hoo hb
        simp only [Act.put, List.setIfInBounds_toArray, List.set_cons_zero, List.set_cons_succ]
        refine wpAnyH_all (rs := [3]) (by kernel_rfl) (by simp) ?_
        intro k hk; simp only [List.mem_cons, List.not_mem_nil, or_false] at hk; subst hk
        refine op_at 3 (d := some 13) (op := .call { callee := .value (.func 21), args := #[(.tmp 12)], argTypes := #[25] }) (by rfl) ?_
        intro o0 hod hoo
        refine wp_call_fn (R := _) hoo (vs := #[.agg (cellsOf n).toArray]) (by go_simp) (by go_simp) (HD2.out w73) ?_
        rintro e w74 ⟨rfl, hb⟩
        refine ⟨_, rfl, HS.out.below hb, ?_⟩
        rw [hod]
        have HA := Lib.hid (HA.out.below hb HA.out.lt)
        have HB := Lib.hid (HB.out.below hb HB.out.lt)
        have HS := Lib.hid (HS.out.below hb)
        clear hod hoo hb
        simp only [Act.put, List.setIfInBounds_toArray, List.set_cons_zero, List.set_cons_succ]
        have h56 : g5 ≠ g6 := by first | assumption | (intro h; exact absurd h.symm (by assumption))
        refine wpAnyH_all (rs := [6]) (by kernel_rfl) (by simp) ?_
        intro k hk; simp only [List.mem_cons, List.not_mem_nil, or_false] at hk; subst hk
        refine op_at 6 (d := none) (op := .store 38 (.tmp 5) (.tmp 11)) (by rfl) ?_
        intro o0 hod hoo
        refine wp_store_mid 38 (.tmp 5) (.tmp 11) hoo g5 0 (cellsOf D1).toArray (by rfl) (by rfl) (HA.out.there67 _ (by rw [cellsOf_size, HL1.out]; rfl)) HI1.out (cellsOf_all _) ?_
        rw [hod, List.toList_toArray]
        have ho : Only g5 w74 (w74.setCells g5 0 (cellsOf D1)) := Only.setCells (cellsOf D1) 0 (Only.refl _ _)
        refine ⟨HS.out.only ho hNg5, ?_⟩
        refine gen_anyH (F := fun W => X2 w m n W ∧ Brow W g5 38 D1 ∧ Brow W g6 38 zs67) ⟨HS.out.only ho hNg5, HA.out.setAll67 (by rw [HL1.out]; rfl), HB.out.only ho (Ne.symm h56)⟩ ?_
        rintro w75 ⟨hs, ha, hb⟩
        clear hod hoo ho HS HA HB
        have HS := Lib.hid hs
        have HA := Lib.hid ha
        have HB := Lib.hid hb
        clear hs ha hb
        simp only [Act.put]
        refine wpAnyH_all (rs := [7]) (by kernel_rfl) (by simp) ?_
        intro k hk; simp only [List.mem_cons, List.not_mem_nil, or_false] at hk; subst hk
        refine op_at 7 (d := none) (op := .store 38 (.tmp 6) (.tmp 13)) (by rfl) ?_
        intro o0 hod hoo
        refine wp_store_mid 38 (.tmp 6) (.tmp 13) hoo g6 0 (cellsOf D2).toArray (by rfl) (by rfl) (HB.out.there67 _ (by rw [cellsOf_size, HL2.out]; rfl)) HI2.out (cellsOf_all _) ?_
        rw [hod, List.toList_toArray]
        have ho : Only g6 w75 (w75.setCells g6 0 (cellsOf D2)) := Only.setCells (cellsOf D2) 0 (Only.refl _ _)
        refine ⟨HS.out.only ho hNg6, ?_⟩
        refine gen_anyH (F := XC w g5 g6 m n D1 D2) ⟨HS.out.only ho hNg6, HA.out.only ho h56, HB.out.setAll67 (by rw [HL2.out]; rfl)⟩ ?_
        intro w76 hf
        have HF := Lib.hid hf
        clear hod hoo ho hf HS HA HB
        simp only [Act.put]
        refine wpAnyH_done (by kernel_rfl) ?_ _
        go_wp2_with fail
        go_meet
        exact ⟨g5, g6, rfl, rfl, HF⟩
  case rest =>
    obtain ⟨g5, g6, rfl, rfl, HF⟩ := hcut
    clear HS
    go_wp2_with fail
    go_loopw [7, 8, 14] (fun l h i wr => ∃ k : Nat, k ≤ 67 ∧ i = .int .i64 k ∧ l = .bool (Dg.low D1 D2 k) ∧ h = .bool (Dg.low D2 D1 k) ∧ Hid (XC w g5 g6 m n D1 D2 wr)) (fun _ _ i _ => 67 - (intOf i).toNat)
    case atStart => exact ⟨0, by omega, rfl, rfl, rfl, HF⟩
    case round =>
      clear HF
      obtain ⟨k, hk, rfl, rfl, rfl, HB⟩ := hrel
      by_cases hk67 : k < 67
      · obtain ⟨x, hx⟩ : ∃ x, x = D1.getD k 0 := ⟨_, rfl⟩
        obtain ⟨y, hy⟩ : ∃ y, y = D2.getD k 0 := ⟨_, rfl⟩
        have f1 : wr.cell? ⟨g5, k, none⟩ = some (.int .u8 (x : Int)) := by rw [hx]; exact HB.out.2.1.cell k (by rw [HL1.out]; exact hk67)
        have f2 : wr.cell? ⟨g6, k, none⟩ = some (.int .u8 (y : Int)) := by rw [hy]; exact HB.out.2.2.cell k (by rw [HL2.out]; exact hk67)
        obtain ⟨l, hl⟩ : ∃ l, l = Dg.low D1 D2 k := ⟨_, rfl⟩
        obtain ⟨h, hh⟩ : ∃ h, h = Dg.low D2 D1 k := ⟨_, rfl⟩
        have HK1 := Lib.hid (show Dg.low D1 D2 (k + 1) = (l || decide ((x : Int) < (y : Int))) from by
          rw [Dg.low, ← hl, ← hx, ← hy]; congr 1; exact decide_eq_decide.2 (by omega))
        have HK2 := Lib.hid (show Dg.low D2 D1 (k + 1) = (h || decide ((y : Int) < (x : Int))) from by
          rw [Dg.low, ← hh, ← hx, ← hy]; congr 1; exact decide_eq_decide.2 (by omega))
        rw [← hl, ← hh]
        clear hl hh hx hy
        go_upto_region 6 with fail
        cases l <;> cases h
        all_goals
          go_quiet (fail)
          go_wp2_with fail
          go_roundw
          case rel => exact ⟨k + 1, by omega, by go_num, by rw [HK1.out]; simp, by rw [HK2.out]; simp, by first | exact Lib.hid (HB.out.drewN _) | exact HB⟩
          case measure => simp [intOf]; omega
      · obtain rfl : k = 67 := by omega
        obtain ⟨e, he⟩ : ∃ e, e = decide (m = n) := ⟨_, rfl⟩
        have q1 := HE1.out
        have q2 := HE2.out
        rw [← he] at q1 q2
        rw [q1, q2]
        have HS := Lib.hid HB.out.1
        have HNE := Lib.hid (show ∀ W, (Op.equalIn 10000 22 (.agg (cellsOf m).toArray) (.agg (cellsOf n).toArray)).run Tryd.prog W = .ok e W from fun W => by
          rw [he]; exact eq_dig 22 32 Tryd.underlying22 W m n HM.out.1 HN.out.1 HM.out.2 HN.out.2)
        have HGT := Lib.hid (show Tryd.prog.eqGuardType Tryd.prog.depth 22 = false by kernel_rfl)
        clear q1 q2 he HB
        cases e
        all_goals
          go_wp2_with (first | (go_at_call 14; refine (awake4_c _ (HT.out.below HS.out.2.2 hpos)).mono ?_; rintro e wb ⟨rfl, hbb⟩; have HS := Lib.hid (HS.out.below hbb); clear hbb) | (refine wpList_loadg 22 (.tmp 2) (by rfl) (by rfl) (.pointer (some ⟨w.heap.size, 0, none⟩)) (by rfl) (.agg (cellsOf m).toArray) (loadR _ _ m HM.out HS.out.1) ?_) | (refine wpList_loadg 22 (.tmp 3) (by rfl) (by rfl) (.pointer (some ⟨w.heap.size + 1, 0, none⟩)) (by rfl) (.agg (cellsOf n).toArray) (loadR _ _ n HN.out HS.out.2.1) ?_) | (refine wpList_neqg 22 _ _ _ (by rfl) (by rfl) (cellsOf m).toArray (cellsOf n).toArray (by rfl) (by rfl) HGT.out _ (HNE.out _) ?_))
          go_ret
          exact ⟨rfl, HS.out.2.2⟩
end Go.Proofs.YtealeefkeikcbabDoor
