/-
  The walk over the state's Save; a nil state's Write, Sum and Save.
-/
import Derived.Test.YthnfbdmkdpokcaaDoorRgh
import Derived.Test.YthnfbdmkdpokcaaDoorDsm
namespace Go.Proofs.YthnfbdmkdpokcaaDoor
open Go.RowKit
set_option linter.unusedVariables false
section
variable {ops : Array Oper} {Q : Exit → Act → World → Prop} {md : Region.Mode} {S : World → Prop}
/-- append(s, p...) as one operation -/
theorem op_cat {i : Nat} {dst : Option Tmp} {s x : Operand} {a : Act} {w : World} {K : Act → World → Prop}
    (hi : (ops[i]?.map fun o => (o.dst, o.op, o.guard)) = some (dst, Op.call { callee := .builtin .append, args := #[s, x], argTypes := #[23, 23] }, none))
    (B : Nat) (v : Value) (zs ys : List Nat) (hs : a.eval s = v) (hown : Own w B v zs) (hB : B ≤ w.heap.size) (ad : Addr) (len cap : Nat) (hx : a.eval x = .slice (some ad) len cap) (hrd : Rd w (some ad) len ys)
    (hlen : zs.length + ys.length ≤ 140737488355328) (h : ∀ v' w', Own w' B v' (zs ++ ys) → Below B w w' → K (a.put dst v') w') : wpOp Tryd.prog ops Q i K a w := by
  obtain ⟨i0, hi0, hz0, hz1, hz2⟩ := info_parts byteInfo
  obtain ⟨hl, hz, hc⟩ := hrd
  cases ho : ops[i]? with
  | none => simp [ho] at hi
  | some o =>
    simp only [ho, Option.map_some, Option.some.injEq, Prod.mk.injEq] at hi
    obtain ⟨g1, g2, g3⟩ := hi
    unfold wpOp
    simp only [ho, wanted_plain g3, if_true]
    refine .inl ?_
    refine wp_append_own w s x 23 g2 B 5 i0 (.int .u8 0) 1 1 Tryd.underlying23 hi0 hz0 hz1 hz2 rfl (by decide) v zs.length (cellsOf zs) hs hown ad len cap (cellsOf ys) hx (by rw [cellsOf_length, hl, Nat.mul_one]) ?_ (cellsOf_one _) (by unfold maxLen; omega) (by omega) hB ?_
    · intro j u hj
      have hjl : j < ys.length := by
        have := (List.getElem?_eq_some_iff.1 hj).1
        rwa [cellsOf_length] at this
      rw [cellsOf_get ys j hjl] at hj
      cases hj
      rcases hc with h0 | ⟨b, off, hb, _, hcell⟩
      · omega
      · cases hb
        rw [Addr.add_mid]
        exact hcell j (by omega)
    · intro v' w' h1 h2 _
      rw [g1]
      refine h v' w' ?_ ?_
      · unfold Own
        rw [List.length_append, cellsOf_append, hl]
        exact h1
      · exact (Below.refl B w).grown h2 hB fun k hk => (hown.lt k hk).1
theorem anyH_cat (i : Nat) {dst : Option Tmp} {s x : Operand} {fuel : Nat} {listed : Array Bool} {a : Act} {w : World}
    (h0 : Region.ready md ops listed = [i])
    (hi : (ops[i]?.map fun o => (o.dst, o.op, o.guard)) = some (dst, Op.call { callee := .builtin .append, args := #[s, x], argTypes := #[23, 23] }, none))
    (B : Nat) (v : Value) (zs ys : List Nat) (hs : a.eval s = v) (hown : Own w B v zs) (hB : B ≤ w.heap.size) (ad : Addr) (len cap : Nat) (hx : a.eval x = .slice (some ad) len cap) (hrd : Rd w (some ad) len ys)
    (hlen : zs.length + ys.length ≤ 140737488355328) (h : ∀ v' w', Own w' B v' (zs ++ ys) → Below B w w' → S w' ∧ (S w' → wpAnyH Tryd.prog md ops Q S fuel (listed.setIfInBounds i true) (a.put dst v') w')) :
    wpAnyH Tryd.prog md ops Q S (fuel + 1) listed a w := by
  refine wpAnyH_all h0 (by simp) ?_
  intro k hk
  simp only [List.mem_cons, List.not_mem_nil, or_false] at hk
  subst hk
  refine op_cat hi B v zs ys hs hown hB ad len cap hx hrd hlen fun v' w' h1 h2 => ?_
  obtain ⟨h3, h4⟩ := h v' w' h1 h2
  exact ⟨h3, h4 h3⟩
end
def SV (w : World) (g : Nat) (hs bs : List Nat) (n : Nat) (W : World) : Prop := St W g hs bs n ∧ Below w.heap.size w W
theorem SV.step {w : World} {g : Nat} {hs bs : List Nat} {n : Nat} {W W' : World} (h : SV w g hs bs n W) {B : Nat} (hb : Below B W W') (hB : w.heap.size ≤ B) (hg : g < w.heap.size) : SV w g hs bs n W' :=
  ⟨h.1.below hb (by omega), h.2.trans (hb.mono hB)⟩
/-- the bytes of a state -/
def saved (hs tail : List Nat) (n : Nat) : List Nat := (Sha.bytesOf hs ++ Numm.put n 8) ++ tail
set_option maxRecDepth 100000 in
theorem write_nil (w : World) (v : Value) : Calls Tryd.prog 45 #[.pointer none, v] w fun e w' => e = .returned (.int .i64 2) ∧ w = w' := by
  go_enter Tryd.func45, Tryd.ntmps45
  go_wp2
  go_ret
  exact ⟨rfl, rfl⟩
set_option maxRecDepth 100000 in
set_option maxHeartbeats 1000000 in
theorem ssum_nil (w : World) : Calls Tryd.prog 46 #[.pointer none] w (DigRet zs32 w) := by
  have HI32 := Lib.hid (show (Tryd.prog.info? 27).map (·.size) = some (cellsOf zs32).toArray.size from by rw [cellsOf_size, zs32_len]; exact info_dig)
  have HN := Lib.hid (show ∀ X : Obj, (w.alloc X).heap[w.heap.size]? = some X from fun X => heap_new w X)
  go_enter Tryd.func46, Tryd.ntmps46
  go_wp2_with (first | (refine wpList_store_row (by rfl) 27 _ _ (by rfl) w.heap.size (cellsOf zs32).toArray (by rfl) (by rfl) 27 (cellsOf zs32).toArray (by exact HN.out _) HI32.out rfl (cellsOf_all _) ?_))
  refine bodyPost_ret (results_cell_row (by rfl) _ _ w.heap.size _ (cellsOf zs32).toArray (0, 0) _ (by rfl) (setRow_heap _ _ _ _ _ _ (HN.out _)) Tryd.underlying27 (by rfl) HI32.out) ?_ ?_
  · rfl
  · exact ⟨rfl, ((Below.refl _ _).alloc (Nat.le_refl _) _).setRow (Nat.le_refl _) _⟩
end Go.Proofs.YthnfbdmkdpokcaaDoor
