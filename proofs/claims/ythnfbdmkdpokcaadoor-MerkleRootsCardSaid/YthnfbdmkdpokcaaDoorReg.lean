/-
  Steps of a region that draws its order: loads and stores of whole arrays, calls by their contracts.
-/
import Derived.Test.YthnfbdmkdpokcaaDoorProg
import Derived.Deep.MidRow
import Derived.Deep.RegionWith
import Derived.WalkKit
namespace Go.Proofs.YthnfbdmkdpokcaaDoor
open Go.RowKit
set_option linter.unusedVariables false
section
variable {P : Program} {ops : Array Oper} {Q : Exit → Act → World → Prop} {md : Region.Mode}
theorem wanted_plain {o : Oper} (hgd : o.guard = none) (a : Act) : Region.wanted o (yielded ops a.tmps) = true := by simp [Region.wanted, hgd]
/-- operation i is a load: it yields v here -/
theorem op_load {i d : Nat} {ty : TypeId} {x : Operand} {p v : Value} {a : Act} {w : World} {K : Act → World → Prop}
    (hi : (ops[i]?.map fun o => (o.dst, o.op, o.guard)) = some (some d, Op.load ty x, none)) (hx : a.eval x = p) (hrun : (Instr.loadAt ty p).run P w = .ok v w)
    (h : K (a.put (some d) v) w) : wpOp P ops Q i K a w := by
  cases ho : ops[i]? with
  | none => simp [ho] at hi
  | some o =>
    simp only [ho, Option.map_some, Option.some.injEq, Prod.mk.injEq] at hi
    obtain ⟨h1, h2, h3⟩ := hi
    unfold wpOp
    simp only [ho, wanted_plain h3, if_true]
    refine .inl ?_
    unfold Oper.wp execOp
    simp only [h2, hx, hrun, Sem.run_bind, Result.andThen_ok, Sem.run_pure]
    show K (a.put o.dst v) w
    rw [h1]
    exact h
/-- what yields in whatever world is taken first -/
theorem any_pure (i : Nat) {d : Nat} {op : Op} (v : Value) {fuel : Nat} {listed : Array Bool} {a : Act} {w : World}
    (hi : (ops[i]?.map fun o => (o.dst, o.op, o.guard)) = some (some d, op, none)) (hs : Region.noSelect ops = true) (hf : Region.free md ops listed i = true) (hr : (Region.ready md ops listed).contains i = true)
    (hQ : ∀ c a w, Q (.panic c) (a.put (some d) v) w → Q (.panic c) a w) (hy : ∀ o : Oper, o.op = op → ∀ W, (execOp a.eval o).run P W = .ok (.value v) W)
    (h : wpAny P md ops Q fuel (listed.setIfInBounds i true) (a.put (some d) v) w) : wpAny P md ops Q (fuel + 1) listed a w := by
  cases ho : ops[i]? with
  | none => simp [ho] at hi
  | some o =>
    simp only [ho, Option.map_some, Option.some.injEq, Prod.mk.injEq] at hi
    obtain ⟨h1, h2, h3⟩ := hi
    refine wpAny_take ho hs hf hr ?_ (Or.inl ⟨wanted_plain h3 a, hy o h2⟩) ?_
    · rw [h1]; exact hQ
    · rw [h1]; exact h
/-- two loads, in either order -/
theorem any_loads2 (i j : Nat) {d1 d2 : Nat} {t1 t2 : TypeId} {x1 x2 : Operand} {p1 p2 v1 v2 : Value} {fuel : Nat} {listed : Array Bool} {a : Act} {w : World}
    (h0 : Region.ready md ops listed = [i, j]) (h1 : Region.ready md ops (listed.setIfInBounds i true) = [j]) (h2 : Region.ready md ops (listed.setIfInBounds j true) = [i])
    (hij : i ≠ j) (hd : d1 ≠ d2)
    (hi : (ops[i]?.map fun o => (o.dst, o.op, o.guard)) = some (some d1, Op.load t1 x1, none)) (hj : (ops[j]?.map fun o => (o.dst, o.op, o.guard)) = some (some d2, Op.load t2 x2, none))
    (e1 : a.eval x1 = p1) (e2 : a.eval x2 = p2) (e1' : (a.put (some d2) v2).eval x1 = p1) (e2' : (a.put (some d1) v1).eval x2 = p2)
    (r1 : (Instr.loadAt t1 p1).run P w = .ok v1 w) (r2 : (Instr.loadAt t2 p2).run P w = .ok v2 w)
    (h : wpAny P md ops Q fuel ((listed.setIfInBounds i true).setIfInBounds j true) ((a.put (some d1) v1).put (some d2) v2) w) :
    wpAny P md ops Q (fuel + 1 + 1) listed a w := by
  refine wpAny_all h0 (by simp) ?_
  intro k hk
  simp only [List.mem_cons, List.not_mem_nil, or_false] at hk
  rcases hk with rfl | rfl
  · refine op_load hi e1 r1 (wpAny_all h1 (by simp) ?_)
    intro k hk
    simp only [List.mem_cons, List.not_mem_nil, or_false] at hk
    subst hk
    exact op_load hj e2' r2 h
  · refine op_load hj e2 r2 (wpAny_all h2 (by simp) ?_)
    intro l hl
    simp only [List.mem_cons, List.not_mem_nil, or_false] at hl
    subst hl
    refine op_load hi e1' r1 ?_
    rw [Array.setIfInBounds_comm _ _ hij] at h
    have hc : (a.put (some d2) v2).put (some d1) v1 = (a.put (some d1) v1).put (some d2) v2 := Act.put_comm a v2 v1 (by simp [hd])
    rw [hc]
    exact h
/-- one load alone may come up -/
theorem any_load (i : Nat) {d : Nat} {ty : TypeId} {x : Operand} {p v : Value} {fuel : Nat} {listed : Array Bool} {a : Act} {w : World}
    (h0 : Region.ready md ops listed = [i]) (hi : (ops[i]?.map fun o => (o.dst, o.op, o.guard)) = some (some d, Op.load ty x, none)) (hx : a.eval x = p) (hrun : (Instr.loadAt ty p).run P w = .ok v w)
    (h : wpAny P md ops Q fuel (listed.setIfInBounds i true) (a.put (some d) v) w) : wpAny P md ops Q (fuel + 1) listed a w := by
  refine wpAny_all h0 (by simp) ?_
  intro k hk
  simp only [List.mem_cons, List.not_mem_nil, or_false] at hk
  subst hk
  exact op_load hi hx hrun h
/-- a call alone may come up: by its contract -/
theorem any_call (i : Nat) {d : Option Tmp} {f : FuncId} {xs : Array Operand} {ts : Array TypeId} {vs : Array Value} {fuel : Nat} {listed : Array Bool} {a : Act} {w : World} {R : Ending → World → Prop}
    (h0 : Region.ready md ops listed = [i]) (hi : (ops[i]?.map fun o => (o.dst, o.op, o.guard)) = some (d, Op.call { callee := .value (.func f), args := xs, argTypes := ts }, none)) (hx : xs.map a.eval = vs)
    (hf : (callFunc f vs).run P w = .ok (.enter f vs) w) (hc : Calls P f vs w R)
    (h : ∀ e w', R e w' → ∃ v, e = .returned v ∧ wpAny P md ops Q fuel (listed.setIfInBounds i true) (a.put d v) w') : wpAny P md ops Q (fuel + 1) listed a w := by
  refine wpAny_all h0 (by simp) ?_
  intro k hk
  simp only [List.mem_cons, List.not_mem_nil, or_false] at hk
  subst hk
  cases ho : ops[k]? with
  | none => simp [ho] at hi
  | some o =>
    simp only [ho, Option.map_some, Option.some.injEq, Prod.mk.injEq] at hi
    obtain ⟨h1, h2, h3⟩ := hi
    unfold wpOp
    simp only [ho, wanted_plain h3, if_true]
    refine .inl ?_
    have hr : (execOp a.eval o).run P w = .ok (.enter f vs) w := by
      unfold execOp
      rw [h2]
      simp [resolve, invoke, hx, Act.eval, go_sem, hf]
    unfold Oper.wp
    rw [hr]
    refine hc.mono fun e w' hR => ?_
    obtain ⟨v, rfl, hv⟩ := h e w' hR
    rw [h1]
    exact hv
/-- a store of a whole array alone may come up -/
theorem any_store_mid (i : Nat) {ty : TypeId} {x y : Operand} {fuel : Nat} {listed : Array Bool} {a : Act} {w : World} (b o : Nat) (cells : Array Value)
    (h0 : Region.ready md ops listed = [i]) (hi : (ops[i]?.map fun o => (o.dst, o.op, o.guard)) = some (none, Op.store ty x y, none))
    (hx : a.eval x = .pointer (some ⟨b, o, none⟩)) (hy : a.eval y = .agg cells)
    (ht : w.there b o cells.size) (hs : (P.info? ty).map (·.size) = some cells.size) (h1 : cells.all (·.oneCell') = true)
    (h : wpAny P md ops Q fuel (listed.setIfInBounds i true) a (w.setCells b o cells.toList)) : wpAny P md ops Q (fuel + 1) listed a w := by
  refine wpAny_all h0 (by simp) ?_
  intro k hk
  simp only [List.mem_cons, List.not_mem_nil, or_false] at hk
  subst hk
  cases ho : ops[k]? with
  | none => simp [ho] at hi
  | some op =>
    simp only [ho, Option.map_some, Option.some.injEq, Prod.mk.injEq] at hi
    obtain ⟨g1, g2, g3⟩ := hi
    unfold wpOp
    simp only [ho, wanted_plain g3, if_true]
    refine .inl (wp_store_mid ty x y g2 b o cells hx hy ht hs h1 ?_)
    rw [g1]
    exact h
end
end Go.Proofs.YthnfbdmkdpokcaaDoor
