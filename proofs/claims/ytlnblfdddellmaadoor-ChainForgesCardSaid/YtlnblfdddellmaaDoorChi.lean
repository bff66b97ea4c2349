/-
  The walk over ChainCrosses.
-/
import Derived.Test.YtlnblfdddellmaaDoorChe
namespace Go.Proofs.YtlnblfdddellmaaDoor
open Go.RowKit
set_option linter.unusedVariables false
section
variable {P : Program} {ops : Array Oper} {Q : Exit → Act → World → Prop} {md : Region.Mode} {S : World → Prop}
theorem op_at (i : Nat) {d : Option Tmp} {op : Op} {a : Act} {w : World} {K : Act → World → Prop} (hi : (ops[i]?.map fun o => (o.dst, o.op, o.guard)) = some (d, op, none))
    (h : ∀ o : Oper, o.dst = d → o.op = op → o.wp P a w K Q) : wpOp P ops Q i K a w := by
  cases ho : ops[i]? with
  | none => simp [ho] at hi
  | some o =>
    simp only [ho, Option.map_some, Option.some.injEq, Prod.mk.injEq] at hi
    obtain ⟨g1, g2, g3⟩ := hi
    unfold wpOp
    simp only [ho, wanted_plain g3, if_true]
    exact .inl (h o g1 g2)
theorem gen_anyH {fuel : Nat} {listed : Array Bool} {a : Act} {W : World} {F : World → Prop} (h : F W) (k : ∀ w, F w → wpAnyH P md ops Q S fuel listed a w) : wpAnyH P md ops Q S fuel listed a W := k W h
theorem wp_call_fn {o : Oper} {a : Act} {w : World} {K : Act → World → Prop} {f : FuncId} {xs : Array Operand} {ts : Array TypeId} {vs : Array Value} {R : Ending → World → Prop} (ho : o.op = Op.call { callee := .value (.func f), args := xs, argTypes := ts }) (hx : xs.map a.eval = vs)
    (hf : (callFunc f vs).run P w = .ok (.enter f vs) w) (hc : Calls P f vs w R) (h : ∀ e w', R e w' → ∃ v, e = .returned v ∧ K (a.put o.dst v) w') : o.wp P a w K Q := by
  have hr : (execOp a.eval o).run P w = .ok (.enter f vs) w := by
    unfold execOp
    rw [ho]
    simp [resolve, invoke, hx, Act.eval, go_sem, hf]
  unfold Oper.wp
  rw [hr]
  refine hc.mono fun e w' hR => ?_
  obtain ⟨v, rfl, hv⟩ := h e w' hR
  exact hv
end
theorem run_alloc_67 (a : Act) (o : Oper) (ho : o.op = .alloc 59) (W : World) : (execOp a.eval o).run Tryd.prog W = .ok (.value (.pointer (some ⟨W.heap.size, 0, none⟩))) (W.alloc (.cells (cellsOf zs67).toArray 59)) := by
  unfold execOp
  simp only [ho]
  kernel_rfl
theorem wp_alloc_67 {o : Oper} {a : Act} {w : World} {K : Act → World → Prop} {Q : Exit → Act → World → Prop} (ho : o.op = .alloc 59)
    (h : K (a.put o.dst (.pointer (some ⟨w.heap.size, 0, none⟩))) (w.alloc (.cells (cellsOf zs67).toArray 59))) : o.wp Tryd.prog a w K Q := by
  unfold Oper.wp
  rw [run_alloc_67 a o ho w]
  exact h
theorem Brow.there67 {w : World} {g : Nat} {t : TypeId} {zs : List Nat} (h : Brow w g t zs) (m : Nat) (hm : m = zs.length) : w.there g 0 m := fun j hj => by
  rw [Nat.zero_add, cell_of_row _ _ _ _ _ _ h, frozen_of_row _ _ _ _ _ h]
  rw [List.getElem?_toArray, cellsOf_get _ _ (by omega)]
  exact ⟨rfl, rfl⟩
theorem Brow.setAll67 {w : World} {g : Nat} {t : TypeId} {zs ys : List Nat} (h : Brow w g t zs) (hl : ys.length = zs.length) : Brow (w.setCells g 0 (cellsOf ys)) g t ys := by
  have := setCells_row g t (cellsOf ys) 0 (cellsOf zs) w h (by rw [cellsOf_length, cellsOf_length]; omega)
  rw [← cellsOf_splice, splice_whole zs ys hl.symm] at this
  exact this
/-- two sums that came in -/
def X2 (w : World) (m n : List Nat) (W : World) : Prop := Brow W w.heap.size 31 m ∧ Brow W (w.heap.size + 1) 31 n ∧ Below w.heap.size w W
theorem X2.new (w : World) (m n : List Nat) : X2 w m n ((w.alloc (.cells (cellsOf m).toArray 31)).alloc (.cells (cellsOf n).toArray 31)) :=
  ⟨(heap_new2 _ _ _).1, (heap_new2 _ _ _).2, ((Below.refl _ _).alloc (Nat.le_refl _) _).alloc (by simp) _⟩
theorem X2.below {w W W' : World} {m n : List Nat} (h : X2 w m n W) (hb : Below W.heap.size W W') : X2 w m n W' :=
  ⟨h.1.below hb h.1.lt, h.2.1.below hb h.2.1.lt, h.2.2.trans (hb.mono h.2.2.size)⟩
theorem X2.only {w W W' : World} {m n : List Nat} {g : Nat} (h : X2 w m n W) (ho : Only g W W') (hg : w.heap.size + 1 < g) : X2 w m n W' :=
  ⟨h.1.only ho (by omega), h.2.1.only ho (by omega), h.2.2.trans (ho.below (by omega) h.2.2.size)⟩
theorem X2.drew {w W : World} {m n : List Nat} (h : X2 w m n W) : X2 w m n W.drew := ⟨h.1.drew, h.2.1.drew, h.2.2.drew⟩
/-- and their digits -/
def XC (w : World) (g5 g6 : Nat) (m n d1 d2 : List Nat) (W : World) : Prop := X2 w m n W ∧ Brow W g5 59 d1 ∧ Brow W g6 59 d2
theorem XC.below {w W W' : World} {m n d1 d2 : List Nat} {g5 g6 : Nat} (h : XC w g5 g6 m n d1 d2 W) (hb : Below W.heap.size W W') : XC w g5 g6 m n d1 d2 W' :=
  ⟨h.1.below hb, h.2.1.below hb h.2.1.lt, h.2.2.below hb h.2.2.lt⟩
theorem XC.drewN {w W : World} {m n d1 d2 : List Nat} {g5 g6 : Nat} (h : XC w g5 g6 m n d1 d2 W) (q : Nat) : XC w g5 g6 m n d1 d2 (W.drewN q) :=
  ⟨⟨h.1.1, h.1.2.1, h.1.2.2.trans (below_drewN' _ _ _)⟩, h.2.1, h.2.2⟩
end Go.Proofs.YtlnblfdddellmaaDoor
