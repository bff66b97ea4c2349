/-
  A store of one cell into the middle of a block, as a law: for fields of structs in regions that draw.
-/
import Derived.Test.YtpppffgchgcghaaPkb
import Derived.Deep.MidRow
namespace Go.Proofs.Ytpppffgchgcghaa
open Go.RowKit
set_option linter.unusedVariables false
section
variable {P : Program} {ops : Array Oper} {Q : Exit → Act → World → Prop} {md : Region.Mode} {S : World → Prop}
theorem op_atJ (i : Nat) {d : Option Tmp} {op : Op} {a : Act} {w : World} {K : Act → World → Prop} (hi : (ops[i]?.map fun o => (o.dst, o.op, o.guard)) = some (d, op, none))
    (h : ∀ o : Oper, o.dst = d → o.op = op → o.wp P a w K Q) : wpOp P ops Q i K a w := by
  cases ho : ops[i]? with
  | none => simp [ho] at hi
  | some o =>
    simp only [ho, Option.map_some, Option.some.injEq, Prod.mk.injEq] at hi
    obtain ⟨g1, g2, g3⟩ := hi
    unfold wpOp
    simp only [ho, wanted_plain g3, if_true]
    exact .inl (h o g1 g2)
theorem wp_load_g {op : Oper} {a : Act} {w : World} {K : Act → World → Prop} (ty : TypeId) (x : Operand) (ho : op.op = .load ty x) (p v : Value) (hx : a.eval x = p) (hrun : (Instr.loadAt ty p).run P w = .ok v w) (h : K (a.put op.dst v) w) : op.wp P a w K Q := by
  unfold Oper.wp execOp
  simp only [ho, hx, Sem.run_bind, hrun, Result.andThen_ok, Sem.run_pure]
  exact h
theorem run_storeVar_one (w : World) (b o : Nat) (ty : TypeId) (v : Value) (ht : w.there b o 1) (hi : (P.info? ty).map (·.size) = some 1) (hv : v.cells = #[v]) (h1 : v.oneCell' = true) :
    (storeVar ty ⟨b, o, none⟩ v).run P w = .ok () (w.setCells b o [v]) := by
  have := run_storeCells_cells (P := P) b o [v] 0 w (fun j hj => by simpa using (ht j (by simpa using hj)).1) (fun j hj => by simpa using (ht j (by simpa using hj)).2)
    (fun u hu => by rw [List.mem_singleton] at hu; subst hu; exact h1)
  cases hq : P.info? ty with
  | none => simp [hq] at hi
  | some i =>
    have hs : i.size = 1 := by simpa [hq] using hi
    simp only [Nat.add_zero] at this
    simp [storeVar, sizeOf, typeInfo, hq, hv, hs, this]
theorem run_storeAt_one (w : World) (b o : Nat) (ty : TypeId) (v : Value) (ht : w.there b o 1) (hi : (P.info? ty).map (·.size) = some 1) (hv : v.cells = #[v]) (h1 : v.oneCell' = true) :
    (Instr.storeAt ty (.pointer (some ⟨b, o, none⟩)) v).run P w = .ok () (w.setCells b o [v]) := by
  simp only [Instr.storeAt, Instr.sureAddr, Sem.run_bind, Sem.run_pure, Result.andThen_ok, run_storeVar_one w b o ty v ht hi hv h1]
theorem wp_store_one {op : Oper} {a : Act} {w : World} {K : Act → World → Prop} (ty : TypeId) (x y : Operand) (ho : op.op = .store ty x y)
    (b o : Nat) (v : Value) (hx : a.eval x = .pointer (some ⟨b, o, none⟩)) (hy : a.eval y = v) (ht : w.there b o 1) (hi : (P.info? ty).map (·.size) = some 1) (hv : v.cells = #[v]) (h1 : v.oneCell' = true)
    (h : K (a.put op.dst undef) (w.setCells b o [v])) : op.wp P a w K Q := by
  unfold Oper.wp execOp
  simp only [ho, hx, hy, Sem.run_bind, run_storeAt_one w b o ty v ht hi hv h1, Result.andThen_ok, Sem.run_pure]
  exact h
end
/-- the cells of a block with one of them changed -/
theorem row_set {W : World} {g o : Nat} {C : Array Value} {t : TypeId} (h : W.heap[g]? = some (.cells C t (0, 0))) (v : Value) (ho : o < C.size) : (W.setCells g o [v]).heap[g]? = some (.cells (C.setIfInBounds o v) t (0, 0)) := by
  have := setCells_row g t [v] o C.toList W (by rw [Array.toArray_toList]; exact h) (by simp; omega)
  rw [this]
  congr 2
  apply Array.ext'
  rw [List.toList_toArray, Array.toList_setIfInBounds]
  unfold splice
  apply List.ext_getElem?
  intro i
  by_cases h1 : i < o
  · rw [List.getElem?_append_left (by simp; omega), List.getElem?_take_of_lt h1, List.getElem?_set_ne (by omega)]
  · by_cases h2 : i = o
    · subst h2
      rw [List.getElem?_append_right (by simp; omega), List.getElem?_set_self (by simpa using ho)]
      simp [Nat.min_eq_left (Nat.le_of_lt ho)]
    · rw [List.getElem?_append_right (by simp; omega), List.getElem?_set_ne (by omega)]
      simp only [List.length_take, Array.length_toList, Nat.min_eq_left (Nat.le_of_lt ho)]
      rw [List.getElem?_append_right (by simp; omega)]
      simp only [List.length_singleton, List.getElem?_drop]
      congr 1
      omega
theorem row_there {W : World} {g o : Nat} {C : Array Value} {t : TypeId} (h : W.heap[g]? = some (.cells C t (0, 0))) (ho : o < C.size) : W.there g o 1 := fun j hj => by
  obtain rfl : j = 0 := by omega
  rw [Nat.add_zero, cell_of_row _ _ _ _ _ _ h, frozen_of_row _ _ _ _ _ h, Array.getElem?_eq_getElem ho]
  exact ⟨rfl, rfl⟩
end Go.Proofs.Ytpppffgchgcghaa
