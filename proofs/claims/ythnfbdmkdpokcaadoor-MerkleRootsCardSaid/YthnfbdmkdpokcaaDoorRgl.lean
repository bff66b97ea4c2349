/-
  A step of a region that draws its order: a load and a call, in either order.
-/
import Derived.Test.YthnfbdmkdpokcaaDoorReg
namespace Go.Proofs.YthnfbdmkdpokcaaDoor
open Go.RowKit
section
variable {P : Program} {ops : Array Oper} {Q : Exit → Act → World → Prop} {md : Region.Mode}
/-- operation i is a call: by its contract -/
theorem op_call {i : Nat} {d : Option Tmp} {f : FuncId} {xs : Array Operand} {ts : Array TypeId} {vs : Array Value} {a : Act} {w : World} {K : Act → World → Prop} {R : Ending → World → Prop}
    (hi : (ops[i]?.map fun o => (o.dst, o.op, o.guard)) = some (d, Op.call { callee := .value (.func f), args := xs, argTypes := ts }, none)) (hx : xs.map a.eval = vs)
    (hf : (callFunc f vs).run P w = .ok (.enter f vs) w) (hc : Calls P f vs w R)
    (h : ∀ e w', R e w' → ∃ v, e = .returned v ∧ K (a.put d v) w') : wpOp P ops Q i K a w := by
  cases ho : ops[i]? with
  | none => simp [ho] at hi
  | some o =>
    simp only [ho, Option.map_some, Option.some.injEq, Prod.mk.injEq] at hi
    obtain ⟨h1, h2, h3⟩ := hi
    unfold wpOp
    simp only [ho, wanted_plain h3, if_true]
    refine .inl ?_
    have hr : (execOp a.eval o).run P w = .ok (.enter f vs) w := by
      unfold execOp
      rw [h2]
      simp [resolve, invoke, hx, Act.eval, go_sem, hf]
    unfold Oper.wp
    rw [hr]
    refine hc.mono fun e w' hR => ?_
    obtain ⟨v, rfl, hv⟩ := h e w' hR
    rw [h1]
    exact hv
/-- a load and a call, in either order: the load yields the same ahead of the call and behind it -/
theorem any_load_call (i j : Nat) {d1 d2 : Nat} {t1 : TypeId} {x1 : Operand} {p1 v1 : Value} {f : FuncId} {xs : Array Operand} {ts : Array TypeId} {vs : Array Value} {fuel : Nat} {listed : Array Bool} {a : Act} {w : World} {R : Ending → World → Prop}
    (h0 : Region.ready md ops listed = [i, j]) (h1 : Region.ready md ops (listed.setIfInBounds i true) = [j]) (h2 : Region.ready md ops (listed.setIfInBounds j true) = [i])
    (hij : i ≠ j) (hd : d1 ≠ d2)
    (hi : (ops[i]?.map fun o => (o.dst, o.op, o.guard)) = some (some d1, Op.load t1 x1, none))
    (hj : (ops[j]?.map fun o => (o.dst, o.op, o.guard)) = some (some d2, Op.call { callee := .value (.func f), args := xs, argTypes := ts }, none))
    (e1 : a.eval x1 = p1) (e1' : ∀ v, (a.put (some d2) v).eval x1 = p1) (hx : xs.map a.eval = vs) (hx' : xs.map (a.put (some d1) v1).eval = vs)
    (hf : (callFunc f vs).run P w = .ok (.enter f vs) w) (hc : Calls P f vs w R)
    (r1 : (Instr.loadAt t1 p1).run P w = .ok v1 w)
    (h : ∀ e w', R e w' → ∃ v, e = .returned v ∧ (Instr.loadAt t1 p1).run P w' = .ok v1 w' ∧ wpAny P md ops Q fuel ((listed.setIfInBounds i true).setIfInBounds j true) ((a.put (some d1) v1).put (some d2) v) w') :
    wpAny P md ops Q (fuel + 1 + 1) listed a w := by
  refine wpAny_all h0 (by simp) ?_
  intro k hk
  simp only [List.mem_cons, List.not_mem_nil, or_false] at hk
  rcases hk with rfl | rfl
  · refine op_load hi e1 r1 (wpAny_all h1 (by simp) ?_)
    intro l hl
    simp only [List.mem_cons, List.not_mem_nil, or_false] at hl
    subst hl
    refine op_call hj hx' hf hc fun e w' hR => ?_
    obtain ⟨v, hv, _, hk⟩ := h e w' hR
    exact ⟨v, hv, hk⟩
  · refine op_call hj hx hf hc fun e w' hR => ?_
    obtain ⟨v, hv, r2, hk⟩ := h e w' hR
    refine ⟨v, hv, wpAny_all h2 (by simp) ?_⟩
    intro l hl
    simp only [List.mem_cons, List.not_mem_nil, or_false] at hl
    subst hl
    refine op_load hi (e1' v) r2 ?_
    rw [Array.setIfInBounds_comm _ _ hij] at hk
    have hc : (a.put (some d2) v).put (some d1) v1 = (a.put (some d1) v1).put (some d2) v := Act.put_comm a v v1 (by simp [hd])
    rw [hc]
    exact hk
end
end Go.Proofs.YthnfbdmkdpokcaaDoor
