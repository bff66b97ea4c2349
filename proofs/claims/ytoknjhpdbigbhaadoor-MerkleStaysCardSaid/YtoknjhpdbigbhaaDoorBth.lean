/-
  Two roots and what is left of a proof, in memory.
-/
import Derived.Test.YtoknjhpdbigbhaaDoorFnd
namespace Go.Proofs.YtoknjhpdbigbhaaDoor
open Go.RowKit
set_option linter.unusedVariables false
/-- the cells of two roots, what is left, and whether there was enough -/
def bothC (x y : List Nat) (v : Value) (b : Bool) : Array Value := (cellsOf x ++ (cellsOf y ++ [v, .bool b])).toArray
def noC : Array Value := bothC zs32 zs32 (.slice none 0 0) false
theorem bothC_size {x y : List Nat} (hx : D32 x) (hy : D32 y) (v : Value) (b : Bool) : (bothC x y v b).size = 66 := by
  unfold bothC
  rw [List.size_toArray, List.length_append, List.length_append, cellsOf_length, cellsOf_length, hx.1, hy.1]
  rfl
theorem info_both : (Tryd.prog.info? 70).map (·.size) = some 66 := by kernel_rfl
theorem info_bothC {x y : List Nat} (hx : D32 x) (hy : D32 y) (v : Value) (b : Bool) : (Tryd.prog.info? 70).map (·.size) = some (bothC x y v b).size := by rw [bothC_size hx hy]; exact info_both
theorem bothC_one (x y : List Nat) (a : Option Addr) (l c : Nat) (b : Bool) : (bothC x y (.slice a l c) b).all (·.oneCell') = true := by
  refine all_oneCell_toArray fun v hv => ?_
  simp only [List.mem_append, List.mem_cons, List.not_mem_nil, or_false] at hv
  rcases hv with h | h | rfl | rfl
  · exact cellsOf_one _ v h
  · exact cellsOf_one _ v h
  · rfl
  · rfl
theorem list32 {x : List Nat} (h : x.length = 32) : ∃ f : Nat → Nat, x = (List.range 32).map f := by
  refine ⟨fun i => x.getD i 0, ?_⟩
  apply List.ext_getElem?
  intro i
  by_cases hi : i < 32
  · rw [List.getElem?_map, List.getElem?_range hi, Option.map_some, List.getD_eq_getElem?_getD, List.getElem?_eq_getElem (by omega)]
    rfl
  · rw [List.getElem?_eq_none (by omega), List.getElem?_eq_none (by simp; omega)]
set_option maxRecDepth 100000 in
theorem built_both {x y : List Nat} (hx : D32 x) (hy : D32 y) (a : Option Addr) (l c : Nat) (b : Bool) : Tryd.prog.built 70 [(0, .agg (cellsOf x).toArray), (1, .agg (cellsOf y).toArray), (2, .slice a l c), (3, .bool b)] = some (bothC x y (.slice a l c) b) := by
  obtain ⟨f, rfl⟩ := list32 hx.1
  obtain ⟨g, rfl⟩ := list32 hy.1
  clear hx hy
  kernel_rfl
theorem built_none : Tryd.prog.built 70 [] = some noC := by kernel_rfl
/-- such a value lies at g -/
def BR (W : World) (g : Nat) (C : Array Value) : Prop := W.heap[g]? = some (.cells C 70 (0, 0))
theorem BR.lt {W : World} {g : Nat} {C : Array Value} (h : BR W g C) : g < W.heap.size := (Array.getElem?_eq_some_iff.1 h).1
theorem BR.below {B g : Nat} {W W' : World} {C : Array Value} (h : BR W g C) (hb : Below B W W') (hg : g < B) : BR W' g C := (hb.block g hg).trans h
theorem BR.only {g' g : Nat} {W W' : World} {C : Array Value} (h : BR W g C) (hb : Only g' W W') (hg : g ≠ g') : BR W' g C := (hb.block g h.lt hg).trans h
theorem BR.drew {g : Nat} {W : World} {C : Array Value} (h : BR W g C) : BR W.drew g C := h
theorem BR.setRow {g : Nat} {W : World} {C D : Array Value} (h : BR W g C) : BR (W.setRow g D) g D := setRow_heap _ _ _ _ _ _ h
theorem BR.there {g : Nat} {W : World} {C : Array Value} (h : BR W g C) (m : Nat) (hm : m = C.size) : W.there g 0 m := fun j hj => by
  rw [Nat.zero_add, cell_of_row _ _ _ _ _ _ h, frozen_of_row _ _ _ _ _ h, Array.getElem?_eq_getElem (by omega)]
  exact ⟨rfl, rfl⟩
theorem BR.setAll {g : Nat} {W : World} {C D : Array Value} (h : BR W g C) (hs : D.size = C.size) : BR (W.setCells g 0 D.toList) g D := by
  have := setCells_row g 70 D.toList 0 C.toList W (by rw [Array.toArray_toList]; exact h) (by simp; omega)
  unfold BR
  rw [this]
  congr 2
  unfold splice
  rw [List.take_zero, List.nil_append, List.drop_eq_nil_of_le (by simp; omega), List.append_nil, Array.toArray_toList]
theorem BR.cellq {g : Nat} {W : World} {C : Array Value} (h : BR W g C) (j : Nat) : W.cell? ⟨g, j, none⟩ = C[j]? := cell_of_row _ _ _ _ _ _ h
theorem BR.first {g : Nat} {W : World} {x y : List Nat} {v : Value} {b : Bool} (h : BR W g (bothC x y v b)) : W.rangeAt g 0 (cellsOf x) := fun j u hu => by
  rw [Nat.zero_add, h.cellq]
  unfold bothC
  rw [List.getElem?_toArray, List.getElem?_append_left (List.getElem?_eq_some_iff.1 hu).1, hu]
theorem BR.second {g : Nat} {W : World} {x y : List Nat} {v : Value} {b : Bool} (h : BR W g (bothC x y v b)) (hx : D32 x) : W.rangeAt g 32 (cellsOf y) := fun j u hu => by
  rw [h.cellq]
  unfold bothC
  rw [List.getElem?_toArray, List.getElem?_append_right (by rw [cellsOf_length, hx.1]; omega), cellsOf_length, hx.1, Nat.add_sub_cancel_left, List.getElem?_append_left (List.getElem?_eq_some_iff.1 hu).1, hu]
theorem BR.restc {g : Nat} {W : World} {x y : List Nat} {v : Value} {b : Bool} (h : BR W g (bothC x y v b)) (hx : D32 x) (hy : D32 y) : W.cell? ⟨g, 64, none⟩ = some v := by
  rw [h.cellq]
  unfold bothC
  rw [List.getElem?_toArray, List.getElem?_append_right (by rw [cellsOf_length, hx.1]; omega), cellsOf_length, hx.1, List.getElem?_append_right (by rw [cellsOf_length, hy.1]; omega), cellsOf_length, hy.1]
  rfl
theorem BR.okc {g : Nat} {W : World} {x y : List Nat} {v : Value} {b : Bool} (h : BR W g (bothC x y v b)) (hx : D32 x) (hy : D32 y) : W.cell? ⟨g, 65, none⟩ = some (.bool b) := by
  rw [h.cellq]
  unfold bothC
  rw [List.getElem?_toArray, List.getElem?_append_right (by rw [cellsOf_length, hx.1]; omega), cellsOf_length, hx.1, List.getElem?_append_right (by rw [cellsOf_length, hy.1]; omega), cellsOf_length, hy.1]
  rfl
theorem BR.lrest {g : Nat} {W : World} {x y : List Nat} {v : Value} {b : Bool} (h : BR W g (bothC x y v b)) (hx : D32 x) (hy : D32 y) : (Instr.loadAt 22 (.pointer (some ⟨g, 64, none⟩))).run Tryd.prog W = .ok v W := by
  have hc := h.restc hx hy
  go_simp
theorem BR.lok {g : Nat} {W : World} {x y : List Nat} {v : Value} {b : Bool} (h : BR W g (bothC x y v b)) (hx : D32 x) (hy : D32 y) : (Instr.loadAt 4 (.pointer (some ⟨g, 65, none⟩))).run Tryd.prog W = .ok (.bool b) W := by
  have hc := h.okc hx hy
  go_simp
theorem BR.lfirst {g : Nat} {W : World} {x y : List Nat} {v : Value} {b : Bool} (h : BR W g (bothC x y v b)) (hx : D32 x) : (Instr.loadAt 31 (.pointer (some ⟨g, 0, none⟩))).run Tryd.prog W = .ok (.agg (cellsOf x).toArray) W := run_dload dtR W g 0 x hx h.first
theorem BR.lsecond {g : Nat} {W : World} {x y : List Nat} {v : Value} {b : Bool} (h : BR W g (bothC x y v b)) (hx : D32 x) (hy : D32 y) : (Instr.loadAt 31 (.pointer (some ⟨g, 32, none⟩))).run Tryd.prog W = .ok (.agg (cellsOf y).toArray) W := run_dload dtR W g 32 y hy (h.second hx)
theorem exec_both {x y : List Nat} (hx : D32 x) (hy : D32 y) (a : Option Addr) (l c : Nat) (b : Bool) {p q r : Operand} (act : Act) (hp : act.eval p = .agg (cellsOf x).toArray) (hq : act.eval q = .agg (cellsOf y).toArray) (hr : act.eval r = .slice a l c) (o : Oper)
    (ho : o.op = .build 70 #[(0, p), (1, q), (2, r), (3, .const (.bool b))]) (W : World) : (execOp act.eval o).run Tryd.prog W = .ok (.value (.agg (bothC x y (.slice a l c) b))) W := by
  have hb : Tryd.prog.built 70 ((#[(0, p), (1, q), (2, r), (3, .const (.bool b))] : Array (Nat × Operand)).map fun (i, z) => (i, act.eval z)).toList = some (bothC x y (.slice a l c) b) := by
    simp only [List.map_toArray, List.map_cons, List.map_nil, hp, hq, hr]
    exact built_both hx hy a l c b
  unfold execOp
  simp only [ho, Sem.run_bind, run_build W 70 _ _ hb, Result.andThen_ok, Sem.run_pure]
theorem wpList_storeB {ops : Array Oper} {rest : List Oper} {o : Oper} {a : Act} {w : World} {Q : Exit → Act → World → Prop} (g : Nat) (C D : Array Value) (x y : Operand) (hgd : o.guard = none) (ho : o.op = .store 70 x y)
    (hx : a.eval x = .pointer (some ⟨g, 0, none⟩)) (hy : a.eval y = .agg C) (hg : BR w g D) (hi : (Tryd.prog.info? 70).map (·.size) = some C.size) (hs : D.size = C.size) (h1 : C.all (·.oneCell') = true)
    (h : wpList Tryd.prog ops Q rest (a.put o.dst undef) (w.setRow g C)) : wpList Tryd.prog ops Q (o :: rest) a w :=
  wpList_store_row hgd 70 x y ho g C hx hy 70 D hg hi hs h1 h
theorem heap_newB (W : World) (O : Obj) (hO : O = .cells noC 70 (0, 0)) : BR (W.alloc O) W.heap.size noC := by subst hO; exact heap_new _ _
end Go.Proofs.YtoknjhpdbigbhaaDoor
