/-
  Rows of byte slices: what they hold, appending to them; records in blocks of their own.
-/
import Derived.Test.YtjpcbmfnjifgfaaJft
namespace Go.Proofs.Ytjpcbmfnjifgfaa
open Go.RowKit
set_option linter.unusedVariables false
theorem info_slv : (Try.prog.info? 30).map (fun i => (i.zero, i.size, i.bytes)) = some (some (.slice none 0 0), 1, 24) := by kernel_rfl
/-- a row of values that the call owns -/
abbrev OwnV (w : World) (B : Nat) (v : Value) (vs : List Value) : Prop := w.ownsRow B 30 1 v vs.length vs
theorem OwnV.nil (w : World) (B : Nat) : OwnV w B (.slice none 0 0) [] := World.ownsRow_nil _ _ _ _
theorem OwnV.keep {w w' : World} {B : Nat} {v : Value} {vs : List Value} (h : OwnV w B v vs) (hb : Below w.heap.size w w') : OwnV w' B v vs := by
  refine ⟨h.1, ?_⟩
  rcases h.2 with h0 | ⟨g, cap, cur, h1, h2, h3, h4⟩
  · exact .inl h0
  · exact .inr ⟨g, cap, cur, h1, h2, (hb.block g (Array.getElem?_eq_some_iff.1 h3).1).trans h3, h4⟩
theorem OwnV.form {w : World} {B : Nat} {v : Value} {vs : List Value} (h : OwnV w B v vs) : ∃ a n c, v = .slice a n c ∧ vs.length = n ∧ n ≤ c ∧ c ≤ 9223372036854775807 ∧ (n = 0 ∨ ∃ g, a = some ⟨g, 0, none⟩ ∧ B ≤ g ∧ g < w.heap.size ∧ ∀ i u, vs[i]? = some u → w.cell? ⟨g, i, none⟩ = some u) := by
  have h' := h
  rcases h.2 with ⟨rfl, h0⟩ | ⟨g, c, cur, rfl, hb, hh, hn, hm, hs, ht⟩
  · exact ⟨none, 0, 0, rfl, h0, Nat.le_refl _, by omega, .inl rfl⟩
  · refine ⟨_, _, c, rfl, rfl, hn, hm, .inr ⟨g, rfl, hb, (Array.getElem?_eq_some_iff.1 hh).1, fun i u hu => ?_⟩⟩
    have hi := (List.getElem?_eq_some_iff.1 hu).1
    rw [cell_of_row w g i cur _ _ hh, ← Array.getElem?_toList]
    rw [← ht, List.getElem?_take, if_pos (by omega)] at hu
    exact hu
/-- the block of a row of slices holds no bytes -/
theorem OwnV.other {w : World} {B : Nat} {v : Value} {vs : List Value} (h : OwnV w B v vs) {g : Nat} {cur : Array Value} {fr : Nat × Nat} (hg : w.heap[g]? = some (.cells cur 5 fr)) : some g ≠ v.ownBlock := by
  intro he
  rcases h.2 with ⟨rfl, _⟩ | ⟨g', cap, cur', rfl, _, hh, _⟩
  · cases he
  · have e : g = g' := by simpa [Value.ownBlock] using he
    subst e
    rw [hh] at hg
    simp only [Option.some.injEq, Obj.cells.injEq] at hg
    exact absurd hg.2.1 (by decide)
theorem wpList_pushV {w : World} {ops : Array Oper} {rest : List Oper} {o : Oper} {a : Act} {Q : Exit → Act → World → Prop} (hgd : o.guard = none) (s x : Operand)
    (ho : o.op = .call { callee := .builtin .append, args := #[s, x], argTypes := #[52, 52] })
    (B : Nat) (v : Value) (vs : List Value) (y : Value) (hy : y.oneCell' = true) (hs : a.eval s = v) (hown : OwnV w B v vs) (hB : B ≤ w.heap.size) (hx : a.eval x = .slice (some ⟨w.heap.size, 0, none⟩) 1 1)
    (hlen : vs.length + 1 ≤ 1000000000)
    (h : ∀ v' w', OwnV w' B v' (vs ++ [y]) → (∀ (g : Nat) (cur : Array Value) (fr : Nat × Nat), w.heap[g]? = some (.cells cur 5 fr) → w'.heap[g]? = some (.cells cur 5 fr)) → Below B w w' → wpList Try.prog ops Q rest (a.put o.dst v') w') :
    wpList Try.prog ops Q (o :: rest) a (w.alloc (.cells #[y] 30)) := by
  obtain ⟨i0, hi, hz0, hz1, hz2⟩ := info_parts info_slv
  have hal : OwnV (w.alloc (.cells #[y] 30)) B v vs := World.ownsRow.alloc hown _
  refine wpList_append_own _ hgd s x 52 ho B 30 i0 (.slice none 0 0) 1 24 Try.underlying52 hi hz0 hz1 hz2 rfl (by decide) v vs.length vs hs hal ⟨w.heap.size, 0, none⟩ 1 1 [y] hx rfl ?_ ?_ (by unfold maxLen; omega) (by omega) (by simp; omega) ?_
  · intro j u hj
    rw [Addr.add_mid, Nat.zero_add, cell_of_row _ _ _ _ _ _ (heap_new _ _)]
    simpa using hj
  · intro u hu
    simp only [List.mem_singleton] at hu
    subst hu; exact hy
  · intro v' w' h1 h2 _
    refine h v' w' ?_ ?_ ?_
    · have e : (vs ++ [y]).length = vs.length + 1 := by simp
      unfold OwnV
      rw [e]
      exact h1
    · intro g cur fr hg
      have hg2 : (w.alloc (.cells #[y] 30)).heap[g]? = some (.cells cur 5 fr) := by
        rw [← hg]
        exact ((Below.refl w.heap.size w).alloc (Nat.le_refl _) _).block g (Array.getElem?_eq_some_iff.1 hg).1
      rw [h2.block g (Array.getElem?_eq_some_iff.1 hg2).1 (hal.other hg2)]
      exact hg2
    · exact ((Below.refl B w).alloc hB _).grown h2 (by simp only [World.alloc, Array.size_push]; omega) fun k hk => (World.ownsRow.lt hown k hk).1
/-- a record in block g, eight bytes behind its beginning -/
def Rc (W : World) (g : Nat) (v : Value) (p : List Nat) : Prop :=
  ∃ c cur, v = .slice (sla (some ⟨g, 0, none⟩) c 8) p.length (c - 8) ∧ W.heap[g]? = some (.cells cur 5 (0, 0)) ∧ 8 + p.length ≤ c ∧ c ≤ 9223372036854775807 ∧ cur.size = c ∧ (cur.toList.drop 8).take p.length = cellsOf p ∧ ∀ z ∈ p, z < 256
structure Rcs (B : Nat) (W : World) (vs : List Value) (gs : List Nat) (ps : List (List Nat)) : Prop where
  lv : vs.length = ps.length
  lg : gs.length = ps.length
  nodup : gs.Nodup
  rc : ∀ (i : Nat) (v : Value) (g : Nat) (p : List Nat), vs[i]? = some v → gs[i]? = some g → ps[i]? = some p → B ≤ g ∧ Rc W g v p
theorem Rc.lt {W : World} {g : Nat} {v : Value} {p : List Nat} (h : Rc W g v p) : g < W.heap.size := by
  obtain ⟨c, cur, _, hh, _⟩ := h
  exact (Array.getElem?_eq_some_iff.1 hh).1
theorem Rcs.lt {B : Nat} {W : World} {vs : List Value} {gs : List Nat} {ps : List (List Nat)} (h : Rcs B W vs gs ps) : ∀ g ∈ gs, B ≤ g ∧ g < W.heap.size := by
  intro g hg
  obtain ⟨i, hi⟩ := List.mem_iff_getElem?.1 hg
  have hl := (List.getElem?_eq_some_iff.1 hi).1
  have h1 := h.lv
  have h2 := h.lg
  obtain ⟨h3, h4⟩ := h.rc i vs[i] g ps[i] (List.getElem?_eq_getElem (by omega)) hi (List.getElem?_eq_getElem (by omega))
  exact ⟨h3, h4.lt⟩
theorem Rcs.nil (B : Nat) (W : World) : Rcs B W [] [] [] := ⟨rfl, rfl, List.nodup_nil, fun i v g p h => by simp at h⟩
/-- blocks of bytes that stand -/
def KeepsB (W W' : World) : Prop := ∀ (g : Nat) (cur : Array Value) (fr : Nat × Nat), W.heap[g]? = some (.cells cur 5 fr) → W'.heap[g]? = some (.cells cur 5 fr)
theorem KeepsB.of {W W' : World} (hb : Below W.heap.size W W') : KeepsB W W' := fun g cur fr h => (hb.block g (Array.getElem?_eq_some_iff.1 h).1).trans h
theorem Rc.keep {W W' : World} {g : Nat} {v : Value} {p : List Nat} (h : Rc W g v p) (hk : KeepsB W W') : Rc W' g v p := by
  obtain ⟨c, cur, h1, h2, h3⟩ := h
  exact ⟨c, cur, h1, hk g cur _ h2, h3⟩
theorem Rcs.keep {B : Nat} {W W' : World} {vs : List Value} {gs : List Nat} {ps : List (List Nat)} (h : Rcs B W vs gs ps) (hk : KeepsB W W') : Rcs B W' vs gs ps :=
  ⟨h.lv, h.lg, h.nodup, fun i v g p a b c => ⟨(h.rc i v g p a b c).1, (h.rc i v g p a b c).2.keep hk⟩⟩
theorem Rcs.push {B : Nat} {W : World} {vs : List Value} {gs : List Nat} {ps : List (List Nat)} (h : Rcs B W vs gs ps) {g : Nat} {v : Value} {p : List Nat} (hg : g ∉ gs) (hB : B ≤ g) (hr : Rc W g v p) : Rcs B W (vs ++ [v]) (gs ++ [g]) (ps ++ [p]) where
  lv := by simp [h.lv]
  lg := by simp [h.lg]
  nodup := by
    rw [List.nodup_append]
    refine ⟨h.nodup, by simp, ?_⟩
    intro x hx y hy e
    simp only [List.mem_singleton] at hy
    rw [e, hy] at hx
    exact hg hx
  rc := fun i u k q hu hk hq => by
    have h1 := h.lv
    have h2 := h.lg
    by_cases hi : i < ps.length
    · rw [List.getElem?_append_left (by omega)] at hu hk hq
      exact h.rc i u k q hu hk hq
    · rw [List.getElem?_append_right (by omega)] at hu hk hq
      have hz : i - ps.length = 0 := by
        have := (List.getElem?_eq_some_iff.1 hq).1
        simp at this
        omega
      rw [h1, hz] at hu
      rw [h2, hz] at hk
      rw [hz] at hq
      simp at hu hk hq
      subst hu hk hq
      exact ⟨hB, hr⟩
theorem rc_of {W : World} {B g c : Nat} {p : List Nat} (h : Own W B (.slice (some ⟨g, 0, none⟩) (8 + p.length) c) (Frm.frameL p)) (hp : ∀ z ∈ p, z < 256) : B ≤ g ∧ Rc W g (.slice (sla (some ⟨g, 0, none⟩) c 8) p.length (c - 8)) p := by
  obtain ⟨cur, hb, hh, hn, hm, hs, ht⟩ := own_open h (Frm.frame_len p)
  refine ⟨hb, c, cur, rfl, hh, hn, hm, hs, ?_, hp⟩
  have := congrArg (List.drop 8) ht
  rw [List.drop_take, show 8 + p.length - 8 = p.length by omega] at this
  rw [this]
  have hd := Frm.frame_drop p
  unfold cellsOf
  rw [← List.map_drop, hd]
/-- a record's bytes can be read -/
theorem Rc.rd {W : World} {g : Nat} {v : Value} {p : List Nat} (h : Rc W g v p) : ∃ a c, v = .slice a p.length c ∧ p.length ≤ c ∧ c ≤ 9223372036854775807 ∧ (a = none → c = 0) ∧ Rd W a p.length p ∧ (0 < p.length → a = some ⟨g, 8, none⟩) := by
  obtain ⟨c, cur, rfl, hh, hn, hm, hs, ht, hb⟩ := h
  have ha : 0 < p.length → sla (some ⟨g, 0, none⟩) c 8 = some ⟨g, 8, none⟩ := fun h0 => by unfold sla; rw [if_neg (by omega)]; rfl
  refine ⟨_, _, rfl, by omega, by omega, fun e => ?_, ⟨rfl, hb, ?_⟩, ha⟩
  · unfold sla at e
    split at e <;> simp at e
  · by_cases h0 : p.length = 0
    · exact .inl h0
    · refine .inr ⟨g, 8, ha (by omega), (Array.getElem?_eq_some_iff.1 hh).1, fun i hi => ?_⟩
      rw [cell_of_row W g (8 + i) cur _ _ hh, ← Array.getElem?_toList]
      have e := congrArg (fun l => l[i]?) ht
      simp only [List.getElem?_take, if_pos hi, List.getElem?_drop] at e
      rw [e]
      exact cellsOf_get p i hi
end Go.Proofs.Ytjpcbmfnjifgfaa
