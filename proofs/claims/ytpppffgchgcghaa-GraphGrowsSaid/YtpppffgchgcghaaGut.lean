/-
  Steps of a region that draws its order, one operation at a time; what stands while blocks of its own are written.
-/
import Derived.Test.YtpppffgchgcghaaGqa
import Derived.Test.YtpppffgchgcghaaJst
namespace Go.Proofs.Ytpppffgchgcghaa
open Go.RowKit Go.Maps
set_option linter.unusedVariables false
section
variable {P : Program} {ops : Array Oper} {Q : Exit → Act → World → Prop} {md : Region.Mode} {S : World → Prop}
theorem anyH_oneU (i : Nat) {d1 : Option Tmp} {op1 : Op} {fuel : Nat} {listed : Array Bool} {a : Act} {w : World}
    (h0 : Region.ready md ops listed = [i]) (hi : (ops[i]?.map fun o => (o.dst, o.op, o.guard)) = some (d1, op1, none))
    (h1 : ∀ o : Oper, o.dst = d1 → o.op = op1 → o.wp P a w (fun a w => S w ∧ wpAnyH P md ops Q S fuel (listed.setIfInBounds i true) a w) Q) : wpAnyH P md ops Q S (fuel + 1) listed a w := by
  refine wpAnyH_all h0 (by simp) ?_
  intro k hk
  simp only [List.mem_cons, List.not_mem_nil, or_false] at hk
  subst hk
  cases ho : ops[k]? with
  | none => simp [ho] at hi
  | some o =>
    simp only [ho, Option.map_some, Option.some.injEq, Prod.mk.injEq] at hi
    obtain ⟨g1, g2, g3⟩ := hi
    unfold wpOp
    simp only [ho, wanted_plain g3, if_true]
    exact .inl (h1 o g1 g2)
theorem anyH_twoU (i j : Nat) {d1 d2 : Option Tmp} {op1 op2 : Op} {fuel : Nat} {listed : Array Bool} {a : Act} {w : World}
    (h0 : Region.ready md ops listed = [i, j]) (hi : (ops[i]?.map fun o => (o.dst, o.op, o.guard)) = some (d1, op1, none)) (hj : (ops[j]?.map fun o => (o.dst, o.op, o.guard)) = some (d2, op2, none))
    (h1 : ∀ o : Oper, o.dst = d1 → o.op = op1 → o.wp P a w (fun a w => S w ∧ wpAnyH P md ops Q S fuel (listed.setIfInBounds i true) a w) Q)
    (h2 : ∀ o : Oper, o.dst = d2 → o.op = op2 → o.wp P a w (fun a w => S w ∧ wpAnyH P md ops Q S fuel (listed.setIfInBounds j true) a w) Q) : wpAnyH P md ops Q S (fuel + 1) listed a w := by
  refine wpAnyH_all h0 (by simp) ?_
  intro k hk
  simp only [List.mem_cons, List.not_mem_nil, or_false] at hk
  rcases hk with rfl | rfl
  · cases ho : ops[k]? with
    | none => simp [ho] at hi
    | some o =>
      simp only [ho, Option.map_some, Option.some.injEq, Prod.mk.injEq] at hi
      obtain ⟨g1, g2, g3⟩ := hi
      unfold wpOp
      simp only [ho, wanted_plain g3, if_true]
      exact .inl (h1 o g1 g2)
  · cases ho : ops[k]? with
    | none => simp [ho] at hj
    | some o =>
      simp only [ho, Option.map_some, Option.some.injEq, Prod.mk.injEq] at hj
      obtain ⟨g1, g2, g3⟩ := hj
      unfold wpOp
      simp only [ho, wanted_plain g3, if_true]
      exact .inl (h2 o g1 g2)
/-- a call, at its operation -/
theorem wp_callU {f : FuncId} {xs : Array Operand} {ts : Array TypeId} {vs : Array Value} {o : Oper} {a : Act} {w : World} {K : Act → World → Prop} {R : Ending → World → Prop}
    (ho : o.op = .call { callee := .value (.func f), args := xs, argTypes := ts }) (hx : xs.map a.eval = vs) (hf : (callFunc f vs).run P w = .ok (.enter f vs) w) (hc : Calls P f vs w R)
    (h : ∀ e w', R e w' → ∃ v, e = .returned v ∧ K (a.put o.dst v) w') : o.wp P a w K Q := by
  have hr : (execOp a.eval o).run P w = .ok (.enter f vs) w := by
    unfold execOp
    rw [ho]
    simp [resolve, invoke, hx, Act.eval, go_sem, hf]
  unfold Oper.wp
  rw [hr]
  refine hc.mono fun e w' hR => ?_
  obtain ⟨v, rfl, hv⟩ := h e w' hR
  exact hv
/-- an operation, by its run -/
theorem wp_runU {o : Oper} {a : Act} {w w' : World} {K : Act → World → Prop} (v : Value) (hr : (execOp a.eval o).run P w = .ok (.value v) w') (h : K (a.put o.dst v) w') : o.wp P a w K Q := by
  unfold Oper.wp
  rw [hr]
  exact h
end
theorem exec_deleteU {P : Program} {a : Act} {o : Oper} {w w' : World} {x y : Operand} {t s : TypeId} {v u r : Value} (ho : o.op = .call { callee := .builtin .delete, args := #[x, y], argTypes := #[t, s] }) (hx : a.eval x = v) (hy : a.eval y = u)
    (hr : (Builtin.delete_ #[t, s] o.type #[v, u]).run P w = .ok r w') : (execOp a.eval o).run P w = .ok (.value r) w' := by
  unfold execOp
  simp only [ho]
  rw [Sem.run_bind]
  unfold resolve
  simp only [Sem.run_pure, Result.andThen_ok, invoke, builtin, List.map_toArray, List.map_cons, List.map_nil, hx, hy]
  rw [Sem.run_bind, hr]
  rfl
theorem exec_appendU {P : Program} {a : Act} {o : Oper} {w w' : World} {x y : Operand} {t s : TypeId} {v u r : Value} (ho : o.op = .call { callee := .builtin .append, args := #[x, y], argTypes := #[t, s] }) (hx : a.eval x = v) (hy : a.eval y = u)
    (hr : (Builtin.append_ #[t, s] o.type #[v, u]).run P w = .ok r w') : (execOp a.eval o).run P w = .ok (.value r) w' := by
  unfold execOp
  simp only [ho]
  rw [Sem.run_bind]
  unfold resolve
  simp only [Sem.run_pure, Result.andThen_ok, invoke, builtin, List.map_toArray, List.map_cons, List.map_nil, hx, hy]
  rw [Sem.run_bind, hr]
  rfl
theorem wp_mapUpdU {P : Program} {op : Oper} {a : Act} {w w' : World} {K : Act → World → Prop} {Q : Exit → Act → World → Prop} (t : TypeId) (m x v : Operand) (ho : op.op = .mapUpdate t m x v) (mv kv vv : Value) (hm : a.eval m = mv) (hx : a.eval x = kv) (hv : a.eval v = vv) (hrun : (Instr.mapUpdate t mv kv vv).run P w = .ok () w') (h : K (a.put op.dst undef) w') : op.wp P a w K Q := by
  unfold Oper.wp
  simp [execOp, ho, hm, hx, hv, hrun, Result.andThen]
  exact h
/-- a literal of one sum -/
theorem wp_dlayU {T E : TypeId} (hT : DT T E) {w : World} {o : Oper} {a : Act} {K : Act → World → Prop} {Q : Exit → Act → World → Prop} (x : Operand) (ho : o.op = .buildSlice T 1 #[(0, x)])
    (d : List Nat) (hd : D32 d) (hx : a.eval x = .agg (cellsOf d).toArray)
    (h : K (a.put o.dst (.slice (some ⟨w.heap.size, 0, none⟩) 1 1)) (w.alloc (.cells (cellsOf d).toArray E))) : o.wp Try.prog a w K Q := by
  obtain ⟨i0, z, hi, hz, hs, hb, hzs⟩ := hT.info
  have h1 := hT.one (cellsOf d).toArray (by rw [List.size_toArray, cellsOf_length, hd.1])
  unfold Program.builtSlice at h1
  simp only [hi, hz] at h1
  rw [if_neg (by rw [hs]; omega)] at h1
  refine wp_buildSlice T E 1 _ ho (cellsOf d).toArray i0 z hT.und hi hz (by rw [hs]; omega) (by rw [hs]; omega) ?_ h
  simp only [List.map_toArray, List.map_cons, List.map_nil, hx]
  exact h1
/-- all that isn't one's own stands -/
structure Fr (O : Nat → Prop) (w w' : World) : Prop where
  os : w'.os = w.os
  tape : w'.tape = w.tape
  output : w'.output = w.output
  size : w.heap.size ≤ w'.heap.size
  block : ∀ k, k < w.heap.size → ¬ O k → w'.heap[k]? = w.heap[k]?
theorem Fr.refl (O : Nat → Prop) (w : World) : Fr O w w := ⟨rfl, rfl, rfl, Nat.le_refl _, fun _ _ _ => rfl⟩
theorem Fr.trans {O O1 : Nat → Prop} {w w1 w2 : World} (h : Fr O w w1) (h1 : Fr O1 w1 w2) (hO : ∀ k, k < w.heap.size → O1 k → O k) : Fr O w w2 :=
  ⟨h1.os.trans h.os, h1.tape.trans h.tape, h1.output.trans h.output, Nat.le_trans h.size h1.size, fun k hk hn => (h1.block k (Nat.lt_of_lt_of_le hk h.size) fun e => hn (hO k hk e)).trans (h.block k hk hn)⟩
theorem Fr.ofBelow {O : Nat → Prop} {w w' : World} (h : Below w.heap.size w w') : Fr O w w' := ⟨h.os, h.tape, h.output, h.size, fun k hk _ => h.block k hk⟩
theorem Fr.grown {O : Nat → Prop} {w w' : World} {row : Option Nat} (h : w.grownBy w' row) (hO : ∀ k, row = some k → O k) : Fr O w w' := ⟨h.os, h.tape, h.output, h.size, fun k hk hn => h.block k hk fun e => hn (hO k e.symm)⟩
theorem Fr.below {O : Nat → Prop} {w w' : World} {B : Nat} (h : Fr O w w') (hB : B ≤ w.heap.size) (hO : ∀ k, O k → B ≤ k) : Below B w w' :=
  ⟨h.os, h.tape, h.output, h.size, fun k hk => h.block k (by omega) fun e => by have := hO k e; omega⟩
theorem Fr.set {O : Nat → Prop} {w w1 : World} (h : Fr O w w1) (b o : Nat) (v : Value) (hb : O b) : Fr O w (w1.setCell ⟨b, o, none⟩ v) :=
  ⟨h.os, h.tape, h.output, by simp only [World.setCell, Array.size_modify]; exact h.size, fun k hk hn => (Below.heap_setCell w1 ⟨b, o, none⟩ v k fun e => hn (by rw [e]; exact hb)).trans (h.block k hk hn)⟩
/-- and what is new -/
def ext (O : Nat → Prop) (w w' : World) : Nat → Prop := fun j => O j ∨ (w.heap.size ≤ j ∧ j < w'.heap.size)
theorem ext_ext {O : Nat → Prop} {w w1 w2 : World} (h : w.heap.size ≤ w1.heap.size) (h2 : w1.heap.size ≤ w2.heap.size) : ∀ j, ext (ext O w w1) w1 w2 j → ext O w w2 j := fun j hj => by
  rcases hj with (hj | hj) | hj
  · exact .inl hj
  · exact .inr ⟨hj.1, by omega⟩
  · exact .inr ⟨by omega, hj.2⟩
theorem ext_old {O : Nat → Prop} {w w1 : World} : ∀ k, k < w.heap.size → ext O w w1 k → O k := fun k hk h => h.elim id fun e => by omega
/-- cells that hold -/
def HasU (L : List (Addr × Value)) (W : World) : Prop := ∀ p ∈ L, W.cell? p.1 = some p.2
theorem HasU.below {L : List (Addr × Value)} {W W' : World} (h : HasU L W) (hb : Below W.heap.size W W') (hx : ∀ p ∈ L, p.1.block < W.heap.size) : HasU L W' := fun p hp => (hb.cell (p := p.1) (hx p hp)).trans (h p hp)
end Go.Proofs.Ytpppffgchgcghaa
