/-
  The table's isSound and encoded: a change as it stands in a record.
-/
import Derived.Test.YtjjkfbebaoikbaaDoorTxt
import Derived.Test.YtjjkfbebaoikbaaDoorPkb
import Derived.Laws.IdiomStrings
import Derived.Deep.CutBlock
import Derived.Deep.CutRange
import Derived.BigQuiet
import Derived.Great.BuildSlice
namespace Go.Proofs.YtjjkfbebaoikbaaDoor
open Go.RowKit
set_option linter.unusedVariables false
/-- the bytes of a text -/
def strL (s : ByteArray) : List Nat := s.data.toList.map (·.toNat)
theorem strL_len (s : ByteArray) : (strL s).length = s.size := by unfold strL; rw [List.length_map, Array.length_toList]; rfl
theorem strL_byte (s : ByteArray) : ∀ z ∈ strL s, z < 256 := fun z hz => by
  obtain ⟨b, _, rfl⟩ := List.mem_map.1 hz
  exact b.toNat_lt
theorem wpList_toBytes {w : World} {ops : Array Oper} {rest : List Oper} {o : Oper} {a : Act} {Q : Exit → Act → World → Prop} (hgd : o.guard = none) (x : Operand)
    (ho : o.op = .convert 9 25 x) (s : ByteArray) (hx : a.eval x = .string s) (hs : s.size ≤ maxLen)
    (h : ∀ b c w', Rd w' (some ⟨b, 0, none⟩) s.size (strL s) → s.size ≤ c → w.heap.size ≤ b → Below w.heap.size w w' → wpList Tryd.prog ops Q rest (a.put o.dst (.slice (some ⟨b, 0, none⟩) s.size c)) w') : wpList Tryd.prog ops Q (o :: rest) a w := by
  refine wpList_plain hgd fun K hK => ?_
  have hr := run_bytes_of_string (P := Tryd.prog) w 9 25 5 s Tryd.underlying9 Tryd.underlying25 Tryd.underlying5
  unfold Oper.wp execOp
  simp only [ho, hx, Sem.run_bind, Result.andThen_ok, Sem.run_pure, hr]
  obtain ⟨w1, hw1⟩ : ∃ w1, w1 = w.drew := ⟨_, rfl⟩
  have hz : w.heap.size = w1.heap.size := by rw [hw1]; rfl
  have hbd : Below w.heap.size w w1 := by rw [hw1]; exact below_drewN' _ w 1
  rw [← hw1]
  refine hK _ _ (h _ _ _ ?_ (grownCap_ge _ _ _ _) (Nat.le_refl _) ?_)
  · refine ⟨strL_len s, strL_byte s, ?_⟩
    by_cases h0 : s.size = 0
    · exact .inl h0
    · refine .inr ⟨_, _, rfl, by rw [hz]; simp, fun i hi => ?_⟩
      rw [Nat.zero_add, hz, cell_of_row _ _ i _ _ _ (heap_alloc_new w1 _)]
      unfold bytesRow strL
      have hi' : i < s.data.size := hi
      rw [Array.getElem?_append_left (by simpa using hi'), Array.getElem?_map, Array.getElem?_eq_getElem hi']
      simp [List.getD, List.getElem?_map, Array.getElem?_toList, Array.getElem?_eq_getElem hi']
  · rw [hz] at hbd ⊢
    exact hbd.trans ((Below.refl _ _).alloc (Nat.le_refl _) _)
def soundC (key : ByteArray) (vn : Nat) : Bool := decide (1 ≤ key.size) && decide (key.size ≤ 320) && decide (vn ≤ 262144)
theorem own_some {w : World} {B : Nat} {v : Value} {zs : List Nat} (h : Own w B v zs) (hz : ∀ z ∈ zs, z < 256) (h0 : 0 < zs.length) : ∃ g c, v = .slice (some ⟨g, 0, none⟩) zs.length c ∧ B ≤ g ∧ g < w.heap.size ∧ Rd w (some ⟨g, 0, none⟩) zs.length zs ∧ zs.length ≤ c ∧ c ≤ 9223372036854775807 := by
  rcases h.2 with ⟨_, h1⟩ | ⟨g, cap, cur, rfl, hb, hg, hn, hm, _⟩
  · omega
  · obtain ⟨a, c, e, e1, e2, e3⟩ := h.rd hz
    obtain ⟨rfl, _, rfl⟩ := Value.slice.inj e
    exact ⟨g, _, rfl, hb, (Array.getElem?_eq_some_iff.1 hg).1, e3, e1, e2⟩
theorem own_rd {w : World} {B g n c : Nat} {zs : List Nat} (h : Own w B (.slice (some ⟨g, 0, none⟩) n c) zs) (hz : ∀ z ∈ zs, z < 256) : Rd w (some ⟨g, 0, none⟩) n zs := by
  obtain ⟨a, c', e, e1, e2, e3⟩ := h.rd hz
  obtain ⟨rfl, rfl, rfl⟩ := Value.slice.inj e
  exact e3
theorem own_lay (w : World) (n : Nat) : Own (w.alloc (.cells #[.int .u8 (n : Int)] 5)) w.heap.size (.slice (some ⟨w.heap.size, 0, none⟩) 1 1) [n] := World.ownsRow_lit w #[.int .u8 (n : Int)] 1 (Nat.le_refl _) (by unfold maxLen; omega) rfl
theorem own_mono {w : World} {B C : Nat} {v : Value} {zs : List Nat} (h : Own w B v zs) (hC : C ≤ B) : Own w C v zs := ⟨h.1, h.2.imp id fun ⟨g, cap, cur, e1, e2, e3⟩ => ⟨g, cap, cur, e1, Nat.le_trans hC e2, e3⟩⟩
section
variable {P : Program} {ops : Array Oper} {Q : Exit → Act → World → Prop} {md : Region.Mode} {S : World → Prop}
theorem anyH_twoT (i j : Nat) {d1 d2 : Option Tmp} {op1 op2 : Op} {fuel : Nat} {listed : Array Bool} {a : Act} {w : World}
    (h0 : Region.ready md ops listed = [i, j]) (hi : (ops[i]?.map fun o => (o.dst, o.op, o.guard)) = some (d1, op1, none)) (hj : (ops[j]?.map fun o => (o.dst, o.op, o.guard)) = some (d2, op2, none))
    (h1 : ∀ o : Oper, o.dst = d1 → o.op = op1 → o.wp P a w (fun a w => S w ∧ wpAnyH P md ops Q S fuel (listed.setIfInBounds i true) a w) Q)
    (h2 : ∀ o : Oper, o.dst = d2 → o.op = op2 → o.wp P a w (fun a w => S w ∧ wpAnyH P md ops Q S fuel (listed.setIfInBounds j true) a w) Q) : wpAnyH P md ops Q S (fuel + 1) listed a w := by
  refine wpAnyH_all h0 (by simp) ?_
  intro k hk
  simp only [List.mem_cons, List.not_mem_nil, or_false] at hk
  rcases hk with rfl | rfl
  · cases ho : ops[k]? with
    | none => simp [ho] at hi
    | some o =>
      simp only [ho, Option.map_some, Option.some.injEq, Prod.mk.injEq] at hi
      obtain ⟨g1, g2, g3⟩ := hi
      unfold wpOp
      simp only [ho, wanted_plain g3, if_true]
      exact .inl (h1 o g1 g2)
  · cases ho : ops[k]? with
    | none => simp [ho] at hj
    | some o =>
      simp only [ho, Option.map_some, Option.some.injEq, Prod.mk.injEq] at hj
      obtain ⟨g1, g2, g3⟩ := hj
      unfold wpOp
      simp only [ho, wanted_plain g3, if_true]
      exact .inl (h2 o g1 g2)
theorem anyH_oneT (i : Nat) {d1 : Option Tmp} {op1 : Op} {fuel : Nat} {listed : Array Bool} {a : Act} {w : World}
    (h0 : Region.ready md ops listed = [i]) (hi : (ops[i]?.map fun o => (o.dst, o.op, o.guard)) = some (d1, op1, none))
    (h1 : ∀ o : Oper, o.dst = d1 → o.op = op1 → o.wp P a w (fun a w => S w ∧ wpAnyH P md ops Q S fuel (listed.setIfInBounds i true) a w) Q) : wpAnyH P md ops Q S (fuel + 1) listed a w := by
  refine wpAnyH_all h0 (by simp) ?_
  intro k hk
  simp only [List.mem_cons, List.not_mem_nil, or_false] at hk
  subst hk
  cases ho : ops[k]? with
  | none => simp [ho] at hi
  | some o =>
    simp only [ho, Option.map_some, Option.some.injEq, Prod.mk.injEq] at hi
    obtain ⟨g1, g2, g3⟩ := hi
    unfold wpOp
    simp only [ho, wanted_plain g3, if_true]
    exact .inl (h1 o g1 g2)
/-- a call, at its operation -/
theorem wp_callT {f : FuncId} {xs : Array Operand} {ts : Array TypeId} {vs : Array Value} {o : Oper} {a : Act} {w : World} {K : Act → World → Prop} {R : Ending → World → Prop}
    (ho : o.op = .call { callee := .value (.func f), args := xs, argTypes := ts }) (hx : xs.map a.eval = vs) (hf : (callFunc f vs).run P w = .ok (.enter f vs) w) (hc : Calls P f vs w R)
    (h : ∀ e w', R e w' → ∃ v, e = .returned v ∧ K (a.put o.dst v) w') : o.wp P a w K Q := by
  have hr : (execOp a.eval o).run P w = .ok (.enter f vs) w := by
    unfold execOp
    rw [ho]
    simp [resolve, invoke, hx, Act.eval, go_sem, hf]
  unfold Oper.wp
  rw [hr]
  refine hc.mono fun e w' hR => ?_
  obtain ⟨v, rfl, hv⟩ := h e w' hR
  exact hv
end
theorem wp_layT {w : World} {o : Oper} {a : Act} {K : Act → World → Prop} {Q : Exit → Act → World → Prop} (x : Operand) (ho : o.op = .buildSlice 25 1 #[(0, x)])
    (n : Nat) (hx : a.eval x = .int .u8 (n : Int))
    (h : K (a.put o.dst (.slice (some ⟨w.heap.size, 0, none⟩) 1 1)) (w.alloc (.cells #[.int .u8 (n : Int)] 5))) : o.wp Tryd.prog a w K Q := by
  obtain ⟨i0, hi, hz0, hz1, hz2⟩ := info_parts byteInfo
  exact wp_buildSlice 25 5 1 _ ho #[.int .u8 (n : Int)] i0 (.int .u8 0) Tryd.underlying25 hi hz0 (by rw [hz1]; omega) (by rw [hz1]; omega) (by rw [hz1]; simp only [List.map_toArray, List.map_cons, List.map_nil, hx]; simp [Instr.fill, Value.cells]; first | rfl | exact Array.ext (by simp) (fun i h1 h2 => by (have h3 : i = 0 := by (simp at h2; omega)); subst h3; simp)) h
theorem wp_catT {w : World} {o : Oper} {a : Act} {K : Act → World → Prop} {Q : Exit → Act → World → Prop} (s x : Operand)
    (ho : o.op = .call { callee := .builtin .append, args := #[s, x], argTypes := #[25, 25] })
    (B : Nat) (v : Value) (zs ys : List Nat) (hs : a.eval s = v) (hown : Own w B v zs) (hB : B ≤ w.heap.size) (ad : Addr) (len cap : Nat) (hx : a.eval x = .slice (some ad) len cap)
    (hrd : Rd w (some ad) len ys) (hlen : zs.length + ys.length ≤ 140737488355328)
    (h : ∀ v' w', Own w' B v' (zs ++ ys) → w.grownBy w' v.ownBlock → Below B w w' → K (a.put o.dst v') w') : o.wp Tryd.prog a w K Q := by
  obtain ⟨i0, hi, hz0, hz1, hz2⟩ := info_parts byteInfo
  obtain ⟨hl, hz, hc⟩ := hrd
  refine wp_append_own _ s x 25 ho B 5 i0 (.int .u8 0) 1 1 Tryd.underlying25 hi hz0 hz1 hz2 rfl (by decide) v zs.length (cellsOf zs) hs hown ad len cap (cellsOf ys) hx (by rw [cellsOf_length, hl, Nat.mul_one]) ?_ (cellsOf_one _) (by unfold maxLen; omega) (by omega) hB ?_
  · intro j u hj
    have hjl : j < ys.length := by
      have := (List.getElem?_eq_some_iff.1 hj).1
      rwa [cellsOf_length] at this
    rw [cellsOf_get ys j hjl] at hj
    cases hj
    rcases hc with h0 | ⟨b, off, hb, _, hcell⟩
    · omega
    · cases hb
      have hcj := hcell j (by omega)
      rw [show Addr.add ⟨b, off, none⟩ j = ⟨b, off + j, none⟩ by simp [Addr.add]]
      exact hcj
  · intro v' w' h1 h2 _
    refine h v' w' ?_ h2 ?_
    · unfold Own
      rw [List.length_append, cellsOf_append, hl]
      exact h1
    · exact (Below.refl B w).grown h2 hB fun k hk => (hown.lt k hk).1
/-- a change as it stands in a record -/
def chgB (key : ByteArray) (gone : Bool) (val : List Nat) : List Nat := if gone then 0 :: (Cntm.cnt key.size ++ strL key) else 1 :: (Cntm.cnt key.size ++ strL key) ++ (Cntm.cnt val.length ++ val)
end Go.Proofs.YtjjkfbebaoikbaaDoor
