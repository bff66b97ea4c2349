/-
  A disk in memory: a change is laid behind the others; Create, Remove, Sync; what is told of it.
-/
import Derived.Test.YtihbgigledmliaaDkc
import Derived.Test.YtihbgigledmliaaShf
import Derived.Maps.AppendAt
namespace Go.Proofs.Ytihbgigledmliaa
open Go.RowKit Go.Maps
set_option linter.unusedVariables false
theorem info_chg : (Try.prog.info? 126).map (fun i => (i.zero, i.size, i.bytes)) = some (some (.agg #[.int .i64 0, .pointer none, .int .i64 0, .string ⟨#[]⟩, .pointer none]), 5, 48) := by kernel_rfl
theorem Chg.one (c : Chg) : ∀ u ∈ c.cells, u.oneCell' = true := by
  intro u hu
  simp only [Chg.cells, List.mem_cons, List.not_mem_nil, or_false] at hu
  rcases hu with rfl | rfl | rfl | rfl | rfl <;> first | rfl | (cases c.repl <;> rfl)
theorem Mov.own0 {S S' : Dsk} {d k : Nat} {w w' : World} (h : Mov S d S' w w') (hk : k < w.heap.size) (hn : ¬ S.own d k) : ¬ S'.own d k := fun ho => by
  rcases h.own k ho with h1 | h1
  · exact hn h1
  · omega
/-- a file more -/
def Dsk.file (S : Dsk) (b : Nat) (f : Fil) : Dsk := { S with fl := fun k => if k = b then some f else S.fl k }
theorem DK.newFile {B d : Nat} {S : Dsk} {w : World} (h : DK B d S w) (s : ByteArray) : DK B d (S.file w.heap.size ⟨s, .slice none 0 0, []⟩) (w.alloc (.cells #[.string s, .slice none 0 0] 122)) ∧ Mov S d (S.file w.heap.size ⟨s, .slice none 0 0, []⟩) w (w.alloc (.cells #[.string s, .slice none 0 0] 122)) := by
  have ha := h.alloc (.cells #[.string s, .slice none 0 0] 122)
  have hfr : S.fl w.heap.size = none := by
    cases e : S.fl w.heap.size with
    | none => rfl
    | some f =>
      have := (h.rest.kind (.inr (.inl ⟨f, e⟩))).2.1
      omega
  have lift : ∀ k f, S.fl k = some f → (S.file w.heap.size ⟨s, .slice none 0 0, []⟩).fl k = some f := fun k f hk => by
    show (if k = w.heap.size then _ else S.fl k) = _
    rw [if_neg (fun e => by rw [e, hfr] at hk; cases hk)]
    exact hk
  have back : ∀ k f, (S.file w.heap.size ⟨s, .slice none 0 0, []⟩).fl k = some f → (k = w.heap.size ∧ f = ⟨s, .slice none 0 0, []⟩) ∨ S.fl k = some f := fun k f hk => by
    have hk' : (if k = w.heap.size then some (⟨s, .slice none 0 0, []⟩ : Fil) else S.fl k) = some f := hk
    split at hk'
    · rename_i e; cases hk'; exact .inl ⟨e, rfl⟩
    · exact .inr hk'
  refine ⟨⟨h.base, ha.hd, ⟨ha.rest.hm, fun b f hb => ?_, fun b c f g k hb hc hf hg => ?_, fun x => ?_, ha.rest.hl, fun c hc => ?_⟩⟩, rfl, rfl, rfl, by simp, fun k hk _ => Below.heap_alloc _ _ _ hk, fun k hk => ?_⟩
  · rcases back b f hb with ⟨rfl, rfl⟩ | hb
    · exact ⟨Nat.le_trans h.base (Nat.le_of_lt h.lt), heap_alloc_new w _, World.ownsRow_nil _ _ _ _, by simp⟩
    · exact ha.rest.hf b f hb
  · rcases back b f hb with ⟨rfl, rfl⟩ | hb
    · cases hf
    · rcases back c g hc with ⟨rfl, rfl⟩ | hc
      · cases hg
      · exact h.rest.ha b c f g k hb hc hf hg
  · rcases h.rest.hr x with h0 | ⟨b, f, h1, h2, h3⟩
    · exact .inl h0
    · exact .inr ⟨b, f, h1, lift b f h2, h3⟩
  · obtain ⟨⟨f, hf⟩, h2⟩ := h.rest.hc c hc
    refine ⟨⟨f, lift _ _ hf⟩, fun b hb => ?_⟩
    obtain ⟨g, hg⟩ := h2 b hb
    exact ⟨g, lift _ _ hg⟩
  · rcases hk with hk | hk | ⟨f, hk⟩ | ⟨b, f, hb, hk⟩ | hk
    · exact .inl (.inl hk)
    · exact .inl (.inr (.inl hk))
    · rcases back k f hk with ⟨rfl, rfl⟩ | hk
      · exact .inr (Nat.le_refl _)
      · exact .inl (.inr (.inr (.inl ⟨f, hk⟩)))
    · rcases back b f hb with ⟨rfl, rfl⟩ | hb
      · cases hk
      · exact .inl (.inr (.inr (.inr (.inl ⟨b, f, hb, hk⟩))))
    · exact .inl (.inr (.inr (.inr (.inr hk))))
/-- the struct gets another row of changes -/
def Dsk.more (S : Dsk) (v : Value) (c : Chg) : Dsk := { S with lv := v, loose := S.loose ++ [c] }
theorem DK.push {B d : Nat} {S : Dsk} {c : Chg} {v : Value} {w w' : World} (h : DK B d S w) (hrow : w'.ownsRow B 126 5 v (S.loose.length + 1) (S.loose.flatMap Chg.cells ++ c.cells)) (hg : w.grownBy w' S.lv.ownBlock) (hv : v.ownBlock = S.lv.ownBlock ∨ ∃ k, v.ownBlock = some k ∧ w.heap.size ≤ k)
    (hc : (∃ f, S.fl c.file = some f) ∧ ∀ b, c.repl = some b → ∃ f, S.fl b = some f) :
    (w'.cell? ⟨d, 3, none⟩ = some S.lv ∧ w'.frozen? ⟨d, 3, none⟩ = false) ∧ DK B d (S.more v c) (w'.setCell ⟨d, 3, none⟩ v) ∧ Mov S d (S.more v c) w (w'.setCell ⟨d, 3, none⟩ v) := by
  have keep : ∀ k, k < w.heap.size → some k ≠ S.lv.ownBlock → w'.heap[k]? = w.heap[k]? := fun k hk hne => hg.block k hk hne
  have nl : ∀ k C t fr, w.heap[k]? = some (.cells C t fr) → t ≠ 126 → some k ≠ S.lv.ownBlock := fun k C t fr hh ht e => by
    obtain ⟨_, cur, h2⟩ := row_block h.rest.hl e.symm
    rw [h2] at hh
    simp only [Option.some.injEq, Obj.cells.injEq] at hh
    exact ht hh.2.1.symm
  have hd' : w'.heap[d]? = some (.cells (dskCells S) 53 (0, 0)) := (keep d h.lt (nl _ _ _ _ h.hd (by decide))).trans h.hd
  have ho : ∀ k, k ≠ d → (w'.setCell ⟨d, 3, none⟩ v).heap[k]? = w'.heap[k]? := fun k hk => Below.heap_setCell w' ⟨d, 3, none⟩ v k hk
  have hne : ∀ k C t fr, w.heap[k]? = some (.cells C t fr) → t ≠ 126 → k ≠ d → (w'.setCell ⟨d, 3, none⟩ v).heap[k]? = w.heap[k]? := fun k C t fr hh ht hk => (ho k hk).trans (keep k (Array.getElem?_eq_some_iff.1 hh).1 (nl k C t fr hh ht))
  refine ⟨⟨(cell_of_row w' d 3 _ _ _ hd').trans rfl, frozen_of_row w' d 3 _ _ hd'⟩, ⟨h.base, ?_, ⟨?_, fun b f hb => ?_, h.rest.ha, h.rest.hr, ?_, fun x hx => ?_⟩⟩, hg.os, hg.tape, hg.output, ?_, fun k hk hn => ?_, fun k hk => ?_⟩
  · exact row_set hd' v (o := 3) (by show 3 < 6; omega)
  · rcases h.rest.hm with h0 | ⟨b, h1, h2, h3⟩
    · exact .inl h0
    · refine .inr ⟨b, h1, h2, map_keep h3 ?_⟩
      obtain ⟨es, cl, hh⟩ := map_block h3
      refine (ho b (h.ne (.inl h1))).trans (keep b (Array.getElem?_eq_some_iff.1 hh).1 fun e => ?_)
      obtain ⟨_, cur, h5⟩ := row_block h.rest.hl e.symm
      rw [hh] at h5
      cases h5
  · obtain ⟨h1, h2, h3, h4⟩ := h.rest.hf b f hb
    refine ⟨h1, (hne b _ _ _ h2 (by decide) (h.ne (.inr (.inl ⟨f, hb⟩)))).trans h2, row_keep h3 fun k hk => ?_, h4⟩
    obtain ⟨_, cur, hh⟩ := row_block h3 hk
    exact hne k _ _ _ hh (by decide) (h.ne (.inr (.inr (.inl ⟨b, f, hb, hk⟩))))
  · have e : (S.loose ++ [c]).flatMap Chg.cells = S.loose.flatMap Chg.cells ++ c.cells := by simp
    show (w'.setCell ⟨d, 3, none⟩ v).ownsRow B 126 5 v (S.loose ++ [c]).length ((S.loose ++ [c]).flatMap Chg.cells)
    rw [e, List.length_append, List.length_singleton]
    refine row_keep hrow fun k hk => ho k fun e => ?_
    obtain ⟨_, cur, hh⟩ := row_block hrow hk
    rw [e, hd'] at hh
    simp only [Option.some.injEq, Obj.cells.injEq] at hh
    exact absurd hh.2.1 (by decide)
  · rcases List.mem_append.1 hx with hx | hx
    · exact h.rest.hc x hx
    · rw [List.mem_singleton] at hx
      subst hx
      exact hc
  · show w.heap.size ≤ (w'.setCell ⟨d, 3, none⟩ v).heap.size
    simp only [World.setCell, Array.size_modify]
    exact hg.size
  · refine (ho k fun e => hn (.inl e)).trans (keep k hk fun e => hn (.inr (.inr (.inr (.inr e.symm)))))
  · rcases hk with hk | hk | hk | hk | hk
    · exact .inl (.inl hk)
    · exact .inl (.inr (.inl hk))
    · exact .inl (.inr (.inr (.inl hk)))
    · exact .inl (.inr (.inr (.inr (.inl hk))))
    · rcases hv with hv | ⟨j, hv, hj⟩
      · exact .inl (.inr (.inr (.inr (.inr (hv.symm.trans hk)))))
      · have : j = k := by
          have h1 : v.ownBlock = some k := hk
          rw [hv] at h1
          simpa using h1
        exact .inr (by omega)
theorem wpList_pushC {w : World} {ops : Array Oper} {rest : List Oper} {o : Oper} {a : Act} {Q : Exit → Act → World → Prop} (hgd : o.guard = none) (s x : Operand)
    (ho : o.op = .call { callee := .builtin .append, args := #[s, x], argTypes := #[51, 51] })
    (B d : Nat) (S : Dsk) (c : Chg) (h : DK B d S w) (hs : a.eval s = S.lv) (hx : a.eval x = .slice (some ⟨w.heap.size, 0, none⟩) 1 1) (hlen : S.loose.length + 1 ≤ 1000000000)
    (hc : (∃ f, S.fl c.file = some f) ∧ ∀ b, c.repl = some b → ∃ f, S.fl b = some f)
    (k : ∀ va vn vc w', w'.cell? ⟨d, 3, none⟩ = some S.lv → w'.frozen? ⟨d, 3, none⟩ = false → DK B d (S.more (.slice va vn vc) c) (w'.setCell ⟨d, 3, none⟩ (.slice va vn vc)) → Mov S d (S.more (.slice va vn vc) c) w (w'.setCell ⟨d, 3, none⟩ (.slice va vn vc)) → wpList Try.prog ops Q rest (a.put o.dst (.slice va vn vc)) w') :
    wpList Try.prog ops Q (o :: rest) a (w.alloc (.cells c.cells.toArray 126)) := by
  obtain ⟨i0, hi, hz0, hz1, hz2⟩ := info_parts info_chg
  have ha := h.alloc (.cells c.cells.toArray 126)
  refine wpList_append_own_at _ hgd s x 51 ho B 126 i0 _ 5 48 Try.underlying51 hi hz0 hz1 hz2 rfl (by decide) S.lv S.loose.length _ hs ha.rest.hl ⟨w.heap.size, 0, none⟩ 1 1 c.cells hx rfl ?_ c.one (by unfold maxLen; omega) (by omega) (by have h1 := h.base; have h2 := h.lt; simp; omega) ?_
  · intro j u hj
    rw [Addr.add_mid, Nat.zero_add, cell_of_row _ _ _ _ _ _ (heap_alloc_new w _)]
    simpa using hj
  · intro v' w' h1 h2 _ h4
    obtain ⟨g1, g2, g3⟩ := ha.push h1 h2 (by
      rcases h4 with h4 | h4
      · exact .inl h4
      · exact .inr ⟨_, h4, Nat.le_refl _⟩) hc
    have hm : Mov S d (S.more v' c) w (w'.setCell ⟨d, 3, none⟩ v') := (Mov.ofBelow ((Below.refl _ _).alloc (Nat.le_refl _) _)).trans g3
    rcases h1.2 with ⟨rfl, h0⟩ | ⟨g, cap, cur, rfl, _⟩
    · omega
    · exact k _ _ _ w' g1.1 g1.2 g2 hm
end Go.Proofs.Ytihbgigledmliaa
