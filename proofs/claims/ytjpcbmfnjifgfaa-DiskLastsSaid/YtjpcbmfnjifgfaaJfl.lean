/-
  Copying into a row that is owned; an operation of a region by its run.
-/
import Derived.Test.YtjpcbmfnjifgfaaJfr
import Derived.Test.YtjpcbmfnjifgfaaPkb
namespace Go.Proofs.Ytjpcbmfnjifgfaa
open Go.RowKit
set_option linter.unusedVariables false
section
variable {P : Program} {ops : Array Oper} {Q : Exit → Act → World → Prop} {md : Region.Mode} {S : World → Prop}
/-- an operation that has no other beside it, by its run -/
theorem anyH_runG (i : Nat) {d : Option Tmp} {op : Op} {v : Value} {w' : World} {fuel : Nat} {listed : Array Bool} {a : Act} {w : World} (h0 : Region.ready md ops listed = [i])
    (hi : (ops[i]?.map fun o => (o.dst, o.op, o.guard)) = some (d, op, none)) (hr : ∀ o : Oper, o.op = op → (execOp a.eval o).run P w = .ok (.value v) w') (hS : S w')
    (h : wpAnyH P md ops Q S fuel (listed.setIfInBounds i true) (a.put d v) w') : wpAnyH P md ops Q S (fuel + 1) listed a w := by
  refine wpAnyH_all h0 (by simp) ?_
  intro k hk
  simp only [List.mem_cons, List.not_mem_nil, or_false] at hk
  subst hk
  cases ho : ops[k]? with
  | none => simp [ho] at hi
  | some o =>
    simp only [ho, Option.map_some, Option.some.injEq, Prod.mk.injEq] at hi
    obtain ⟨g1, g2, g3⟩ := hi
    unfold wpOp
    simp only [ho, wanted_plain g3, if_true]
    refine .inl ?_
    unfold Oper.wp
    rw [hr o g2]
    rw [← g1] at h
    exact ⟨hS, h⟩
end
theorem exec_copy {P : Program} {a : Act} {o : Oper} {w w' : World} {x y : Operand} {t s : TypeId} {v u r : Value} (ho : o.op = .call { callee := .builtin .copy, args := #[x, y], argTypes := #[t, s] }) (hx : a.eval x = v) (hy : a.eval y = u)
    (hr : (Builtin.copy_ #[t, s] o.type #[v, u]).run P w = .ok r w') : (execOp a.eval o).run P w = .ok (.value r) w' := by
  unfold execOp
  simp only [ho]
  rw [Sem.run_bind]
  unfold resolve
  simp only [Sem.run_pure, Result.andThen_ok, invoke, builtin, List.map_toArray, List.map_cons, List.map_nil, hx, hy]
  rw [Sem.run_bind, hr]
  rfl
theorem exec_cut4 {L c : Nat} (hL : 4 ≤ L) (hc : 4 < c) (g : Nat) (a : Act) {x : Operand} (hx : a.eval x = .slice (some ⟨g, 0, none⟩) L c) (o : Oper) (ho : o.op = .slice 30 x (some (.const (.int .i64 4))) none none) (W : World) :
    (execOp a.eval o).run Try.prog W = .ok (.value (.slice (some ⟨g, 4, none⟩) (L - 4) (c - 4))) W := by
  unfold execOp
  simp only [ho, hx, Option.map_none, Option.map_some, show a.eval (.const (.int .i64 4)) = .int .i64 ((4 : Nat) : Int) from rfl, run_cutAt W _ L c 4 hL, Sem.run_bind, Result.andThen_ok, Sem.run_pure]
  rw [show sla (some ⟨g, 0, none⟩) c 4 = some ⟨g, 4, none⟩ by unfold sla; rw [if_neg (by omega)]; rfl]
/-- a frame that is being made: its bytes, and what was there -/
structure FrmW (w : World) (g L c : Nat) (Z : List Nat) (W : World) : Prop where
  own : Own W w.heap.size (.slice (some ⟨g, 0, none⟩) L c) Z
  len : Z.length = L
  byte : ∀ z ∈ Z, z < 256
  below : Below w.heap.size w W
def FrmS (w : World) (g L c : Nat) (W : World) : Prop := ∃ Z, FrmW w g L c Z W
theorem FrmW.held {w W : World} {g L c : Nat} {Z : List Nat} (h : FrmW w g L c Z W) : FrmS w g L c W := ⟨Z, h⟩
theorem FrmW.step {w W W' : World} {g L c : Nat} {Z : List Nat} (h : FrmW w g L c Z W) (hb : Below W.heap.size W W') : FrmW w g L c Z W' := ⟨h.own.keep hb, h.len, h.byte, h.below.trans (hb.mono h.below.size)⟩
theorem FrmW.drew {w W : World} {g L c : Nat} {Z : List Nat} (h : FrmW w g L c Z W) : FrmW w g L c Z W.drew := h.step (below_drewN' _ W 1)
theorem own_open {W : World} {B g L c : Nat} {Z : List Nat} (h : Own W B (.slice (some ⟨g, 0, none⟩) L c) Z) (hl : Z.length = L) : ∃ cur : Array Value, B ≤ g ∧ W.heap[g]? = some (.cells cur 5 (0, 0)) ∧ L ≤ c ∧ c ≤ 9223372036854775807 ∧ cur.size = c ∧ cur.toList.take L = cellsOf Z := by
  rcases h.2 with ⟨h0, _⟩ | ⟨g', cap, cur, hv, hb, hh, hn, hm, hs, ht⟩
  · cases h0
  · cases hv
    rw [hl] at hn
    rw [hl, Nat.mul_one] at ht
    exact ⟨cur, hb, hh, hn, hm, by rw [hs, Nat.mul_one], ht⟩
theorem own_shut {W : World} {B g L c : Nat} {Z : List Nat} {cur : Array Value} (hl : Z.length = L) (hb : B ≤ g) (hh : W.heap[g]? = some (.cells cur 5 (0, 0))) (hn : L ≤ c) (hm : c ≤ 9223372036854775807) (hs : cur.size = c) (ht : cur.toList.take L = cellsOf Z) : Own W B (.slice (some ⟨g, 0, none⟩) L c) Z := by
  subst hl
  exact ⟨by rw [cellsOf_length, Nat.mul_one], .inr ⟨g, c, cur, rfl, hb, hh, hn, hm, by rw [hs, Nat.mul_one], by rw [Nat.mul_one]; exact ht⟩⟩
theorem frm_copy {w W : World} {g L c : Nat} {Z P : List Nat} {a2 : Option Addr} (h : FrmW w g L c Z W) (hr : Rd W a2 4 P) (h8 : 8 ≤ L) (c2 : Nat) :
    ∃ W3, (∀ ty, (Builtin.copy_ #[30, 30] ty #[.slice (some ⟨g, 4, none⟩) (L - 4) (c - 4), .slice a2 4 c2]).run Try.prog W = .ok (.int .i64 4) W3) ∧ FrmW w g L c (Z.take 4 ++ (P ++ Z.drop 8)) W3 := by
  obtain ⟨i0, hi, hz0, hz1, hz2⟩ := info_parts byteInfo
  obtain ⟨cur, hbg, hh, hn, hm, hs, ht⟩ := own_open h.own h.len
  obtain ⟨hp, hpb, hcell⟩ := hr
  obtain ⟨b, off, rfl, hb, hcell⟩ := hcell.resolve_left (by omega)
  have hct : cur.toList.length = c := by rw [Array.length_toList, hs]
  have hzl := h.len
  have hcs : (cellsOf P).length = 4 := by rw [cellsOf_length, hp]
  refine ⟨W.setRow g (cur.toList.take 4 ++ cellsOf P ++ cur.toList.drop (4 + 4)).toArray, fun ty => ?_, ?_⟩
  · have hrun := run_copy_row (P := Try.prog) W 30 30 ty 5 g 4 (L - 4) (c - 4) ⟨b, off, none⟩ 4 c2 cur 5 (cellsOf P) Try.underlying30 (by rw [hi]; simp [hz1]) hh (by rw [hcs]; show 4 = min 4 (L - 4); omega)
      (fun j v hj => by
        have hjl : j < 4 := by rw [← hcs]; exact (List.getElem?_eq_some_iff.1 hj).1
        rw [cellsOf_get P j (by omega)] at hj
        cases hj
        rw [Addr.add_mid]
        exact hcell j hjl) (by rw [hcs]; omega) (cellsOf_one P)
    rw [hcs] at hrun
    exact hrun
  · refine ⟨own_shut ?_ hbg (setRow_heap W g cur _ 5 (0, 0) hh) hn hm ?_ ?_, ?_, ?_, h.below.setRow hbg _⟩
    · simp only [List.length_append, List.length_take, List.length_drop, hp]; omega
    · simp only [List.size_toArray, List.length_append, List.length_take, List.length_drop, hcs, hct]; omega
    · rw [List.toList_toArray, cellsOf_append, cellsOf_append]
      have e1 : cellsOf (Z.take 4) = cur.toList.take 4 := by
        have := congrArg (List.take 4) ht
        rw [List.take_take, Nat.min_eq_left (by omega)] at this
        rw [this]; simp [cellsOf, List.map_take]
      have e2 : cellsOf (Z.drop 8) = (cur.toList.drop 8).take (L - 8) := by
        have := congrArg (List.drop 8) ht
        rw [List.drop_take] at this
        rw [this]; simp [cellsOf, List.map_drop]
      rw [e1, e2, ← List.append_assoc]
      have hl8 : (cur.toList.take 4 ++ cellsOf P).length = 8 := by rw [List.length_append, List.length_take, hcs, hct]; omega
      obtain ⟨X, hX⟩ : ∃ X, X = cur.toList.take 4 ++ cellsOf P := ⟨_, rfl⟩
      rw [← hX] at hl8 ⊢
      rw [List.take_append, List.take_of_length_le (by omega), hl8]
    · simp only [List.length_append, List.length_take, List.length_drop, hp]; omega
    · intro z hz
      simp only [List.mem_append] at hz
      rcases hz with hz | hz | hz
      · exact h.byte z (List.mem_of_mem_take hz)
      · exact hpb z hz
      · exact h.byte z (List.mem_of_mem_drop hz)
theorem own_base {W : World} {B B' : Nat} {v : Value} {Z : List Nat} (h : Own W B v Z) (hb : B' ≤ B) : Own W B' v Z := by
  refine ⟨h.1, ?_⟩
  rcases h.2 with h0 | ⟨g, cap, cur, h1, h2, h3, h4⟩
  · exact .inl h0
  · exact .inr ⟨g, cap, cur, h1, by omega, h3, h4⟩
end Go.Proofs.Ytjpcbmfnjifgfaa
