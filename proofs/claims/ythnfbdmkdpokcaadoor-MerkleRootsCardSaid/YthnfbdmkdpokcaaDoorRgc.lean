/-
  Steps of a region that draws its order: a copy into a row.
-/
import Derived.Test.YthnfbdmkdpokcaaDoorSlc
import Derived.Test.YthnfbdmkdpokcaaDoorReg
namespace Go.Proofs.YthnfbdmkdpokcaaDoor
open Go.RowKit
set_option linter.unusedVariables false
section
variable {P : Program} {ops : Array Oper} {Q : Exit → Act → World → Prop} {md : Region.Mode}
/-- a copy alone may come up -/
theorem any_copy (i : Nat) {dst : Option Tmp} {d s : Operand} {dT sT : TypeId} {fuel : Nat} {listed : Array Bool} {a : Act} {w : World}
    (h0 : Region.ready md ops listed = [i]) (hi : (ops[i]?.map fun o => (o.dst, o.op, o.guard)) = some (dst, Op.call { callee := .builtin .copy, args := #[d, s], argTypes := #[dT, sT] }, none))
    (elem : TypeId) (hu : P.underlying dT = some (.slice elem)) (hsz : (P.info? elem).map (·.size) = some 1)
    (dp sp : Option Addr) (dLen dCap sLen sCap : Nat) (hd : a.eval d = .slice dp dLen dCap) (hs : a.eval s = .slice sp sLen sCap)
    (g off : Nat) (cur : List Value) (t : TypeId) (hg : w.heap[g]? = some (.cells cur.toArray t (0, 0))) (cs : List Value) (hn : cs.length = Nat.min sLen dLen)
    (hpos : 0 < cs.length → dp = some ⟨g, off, none⟩ ∧ ∃ ad, sp = some ad ∧ ∀ j v, cs[j]? = some v → w.cell? (ad.add j) = some v)
    (hfit : off + cs.length ≤ cur.length) (h1 : ∀ v ∈ cs, v.oneCell' = true)
    (h : ∀ w', Hid (w'.heap[g]? = some (.cells (splice cur off cs).toArray t (0, 0))) → Only g w w' → wpAny P md ops Q fuel (listed.setIfInBounds i true) (a.put dst (.int .i64 (cs.length : Int))) w') :
    wpAny P md ops Q (fuel + 1) listed a w := by
  refine wpAny_all h0 (by simp) ?_
  intro k hk
  simp only [List.mem_cons, List.not_mem_nil, or_false] at hk
  subst hk
  cases ho : ops[k]? with
  | none => simp [ho] at hi
  | some o =>
    simp only [ho, Option.map_some, Option.some.injEq, Prod.mk.injEq] at hi
    obtain ⟨g1, g2, g3⟩ := hi
    unfold wpOp
    simp only [ho, wanted_plain g3, if_true]
    refine .inl ?_
    by_cases h0 : cs.length = 0
    · obtain rfl : cs = [] := List.eq_nil_of_length_eq_zero h0
      have hrun := run_copy_none (P := P) w dT sT o.type elem dp sp dLen dCap sLen sCap hu hsz (by simpa using hn.symm)
      have := h w (show _ = _ by simpa [splice] using hg) (Only.refl _ _)
      unfold Oper.wp
      simp [execOp, g2, resolve, invoke, builtin, hd, hs, hrun, Result.andThen]
      show wpAny P md ops Q fuel _ (a.put o.dst (goInt 0)) w
      rw [g1]
      exact this
    · obtain ⟨rfl, ad, rfl, hsrc⟩ := hpos (by omega)
      have hrun := run_copy_row (P := P) w dT sT o.type elem g off dLen dCap ad sLen sCap cur.toArray t cs hu hsz hg hn hsrc (by simpa using hfit) h1
      have := h _ (show _ = _ by simpa [splice] using setRow_heap w g _ _ t _ hg) ((Only.refl g w).setRow _)
      unfold Oper.wp
      simp [execOp, g2, resolve, invoke, builtin, hd, hs, hrun, Result.andThen]
      show wpAny P md ops Q fuel _ (a.put o.dst (goInt cs.length)) _
      rw [g1]
      simpa [splice, goInt] using this
/-- one operation alone may come up, that yields here -/
theorem any_one (i : Nat) {d : Nat} {op : Op} (v : Value) {fuel : Nat} {listed : Array Bool} {a : Act} {w : World}
    (h0 : Region.ready md ops listed = [i]) (hi : (ops[i]?.map fun o => (o.dst, o.op, o.guard)) = some (some d, op, none)) (hy : ∀ o : Oper, o.op = op → (execOp a.eval o).run P w = .ok (.value v) w)
    (h : wpAny P md ops Q fuel (listed.setIfInBounds i true) (a.put (some d) v) w) : wpAny P md ops Q (fuel + 1) listed a w := by
  refine wpAny_all h0 (by simp) ?_
  intro k hk
  simp only [List.mem_cons, List.not_mem_nil, or_false] at hk
  subst hk
  cases ho : ops[k]? with
  | none => simp [ho] at hi
  | some o =>
    simp only [ho, Option.map_some, Option.some.injEq, Prod.mk.injEq] at hi
    obtain ⟨g1, g2, g3⟩ := hi
    unfold wpOp
    simp only [ho, wanted_plain g3, if_true]
    refine .inl ?_
    unfold Oper.wp
    rw [hy o g2, Oper.upon_value, g1]
    exact h
end
/-- a row of bytes, written -/
theorem Brow.set {w : World} {g : Nat} {t : TypeId} {zs : List Nat} (h : Brow w g t zs) (j z : Nat) : Brow (w.setCell ⟨g, j, none⟩ (.int .u8 (z : Int))) g t (zs.set j z) := by
  unfold Brow
  rw [heap_setCell_same w g j _ t _ h]
  congr 2
  simp [cellsOf, List.map_set]
theorem Brow.only {g' g : Nat} {w w' : World} {t : TypeId} {zs : List Nat} (h : Brow w g t zs) (hb : Only g' w w') (hg : g ≠ g') : Brow w' g t zs := (hb.block g (Array.getElem?_eq_some_iff.1 h).1 hg).trans h
theorem Wrow.only {g' g : Nat} {w w' : World} {t : TypeId} {zs : List Nat} (h : Wrow w g t zs) (hb : Only g' w w') (hg : g ≠ g') : Wrow w' g t zs := (hb.block g (Array.getElem?_eq_some_iff.1 h).1 hg).trans h
theorem Brow.drew {w : World} {g : Nat} {t : TypeId} {zs : List Nat} (h : Brow w g t zs) : Brow w.drew g t zs := h
theorem Wrow.drew {w : World} {g : Nat} {t : TypeId} {zs : List Nat} (h : Wrow w g t zs) : Wrow w.drew g t zs := h
theorem Brow.lt {w : World} {g : Nat} {t : TypeId} {zs : List Nat} (h : Brow w g t zs) : g < w.heap.size := (Array.getElem?_eq_some_iff.1 h).1
theorem Wrow.lt {w : World} {g : Nat} {t : TypeId} {zs : List Nat} (h : Wrow w g t zs) : g < w.heap.size := (Array.getElem?_eq_some_iff.1 h).1
theorem Brow.copied {w' : World} {g : Nat} {t : TypeId} {zs xs : List Nat} {k : Nat} (h : Hid (w'.heap[g]? = some (.cells (splice (cellsOf zs) k (cellsOf xs)).toArray t (0, 0)))) : Brow w' g t (splice zs k xs) := by
  have h1 := h.out
  rw [← cellsOf_splice] at h1
  exact h1
theorem Brow.new (w : World) (t : TypeId) (zs : List Nat) : Brow (w.alloc (.cells (cellsOf zs).toArray t)) w.heap.size t zs := heap_new _ _
theorem Wrow.new (w : World) (t : TypeId) (zs : List Nat) : Wrow (w.alloc (.cells (wordsOf zs).toArray t)) w.heap.size t zs := heap_new _ _
theorem Brow.setRow {w : World} {g : Nat} {t : TypeId} {zs ys : List Nat} (h : Brow w g t zs) : Brow (w.setRow g (cellsOf ys).toArray) g t ys := setRow_heap _ _ _ _ _ _ h
theorem Wrow.setRow {w : World} {g : Nat} {t : TypeId} {zs ys : List Nat} (h : Wrow w g t zs) : Wrow (w.setRow g (wordsOf ys).toArray) g t ys := setRow_heap _ _ _ _ _ _ h
theorem Only.belowAlloc {B : Nat} {w : World} (o : Obj) : Below w.heap.size w (w.alloc o) := (Below.refl _ _).alloc (Nat.le_refl _) o
theorem cellsOf_all (zs : List Nat) : (cellsOf zs).toArray.all (·.oneCell') = true := all_oneCell_toArray (cellsOf_one zs)
theorem info_dig : (Tryd.prog.info? 27).map (·.size) = some 32 := by kernel_rfl
end Go.Proofs.YthnfbdmkdpokcaaDoor
