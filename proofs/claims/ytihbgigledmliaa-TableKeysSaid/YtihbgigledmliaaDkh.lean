/-
  A disk in memory: Append.
-/
import Derived.Test.YtihbgigledmliaaDkfg
namespace Go.Proofs.Ytihbgigledmliaa
open Go.RowKit Go.Maps
set_option linter.unusedVariables false
/-- bytes that come in, in memory that is not the disk's -/
structure RdN (S : Dsk) (d : Nat) (w : World) (pa : Option Addr) (n c : Nat) (ps : List Nat) : Prop where
  rd : Rd w pa n ps
  no : ∀ b o s, pa = some ⟨b, o, s⟩ → n ≠ 0 → ¬ S.own d b
  nil : pa = none → c = 0
theorem RdN.mov {S S' : Dsk} {d : Nat} {w w' : World} {pa : Option Addr} {n c : Nat} {ps : List Nat} (h : RdN S d w pa n c ps) (hm : Mov S d S' w w') : RdN S' d w' pa n c ps := by
  obtain ⟨⟨h1, h2, h3⟩, h4, h5⟩ := h
  by_cases h0 : n = 0
  · exact ⟨⟨h1, h2, .inl h0⟩, fun _ _ _ _ hn => absurd h0 hn, h5⟩
  · rcases h3 with h3 | ⟨b, o, rfl, hb, hc⟩
    · exact absurd h3 h0
    · have hno := h4 b o none rfl h0
      refine ⟨⟨h1, h2, .inr ⟨b, o, rfl, Nat.lt_of_lt_of_le hb hm.size, fun i hi => ?_⟩⟩, fun b' o' s' e hn => ?_, h5⟩
      · rw [World.cell?_of_block (hm.block b hb hno)]
        exact hc i hi
      · cases e
        exact hm.own0 hb hno
/-- a file with more bytes -/
def Dsk.grow (S : Dsk) (b : Nat) (f : Fil) (v : Value) (ps : List Nat) : Dsk := S.file b ⟨f.nm, v, f.zs ++ ps⟩
theorem DK.rowSet {B d b : Nat} {S : Dsk} {f : Fil} {v : Value} {zs' : List Nat} {w w' : World} (h : DK B d S w) (hf : S.fl b = some f) (hps : ∀ z ∈ zs', z < 256) (hrow : Own w' B v zs') (hg : w.grownBy w' f.row.ownBlock) (hv : v.ownBlock = f.row.ownBlock ∨ v.ownBlock = some w.heap.size) :
    (w'.cell? ⟨b, 1, none⟩ = some f.row ∧ w'.frozen? ⟨b, 1, none⟩ = false) ∧ DK B d (S.file b ⟨f.nm, v, zs'⟩) (w'.setCell ⟨b, 1, none⟩ v) ∧ Mov S d (S.file b ⟨f.nm, v, zs'⟩) w (w'.setCell ⟨b, 1, none⟩ v) := by
  obtain ⟨hfB, hfh, hfr, hfz⟩ := h.rest.hf b f hf
  have keep : ∀ k, k < w.heap.size → some k ≠ f.row.ownBlock → w'.heap[k]? = w.heap[k]? := fun k hk hne => hg.block k hk hne
  have nl : ∀ k o, w.heap[k]? = some o → (∀ C fr, o ≠ .cells C 5 fr) → some k ≠ f.row.ownBlock := fun k o hh ht e => by
    obtain ⟨_, cur, h2⟩ := row_block hfr e.symm
    rw [h2] at hh
    exact ht _ _ (Option.some.inj hh).symm
  have ct : ∀ (C : Array Value) (t : TypeId) (fr : Nat × Nat), t ≠ 5 → ∀ C' fr', (Obj.cells C t fr) ≠ .cells C' 5 fr' := fun C t fr ht C' fr' e => ht (by cases e; rfl)
  have hb' : w'.heap[b]? = some (.cells (filCells f) 122 (0, 0)) := (keep b (Array.getElem?_eq_some_iff.1 hfh).1 (nl _ _ hfh (ct _ _ _ (by decide)))).trans hfh
  have ho : ∀ k, k ≠ b → (w'.setCell ⟨b, 1, none⟩ v).heap[k]? = w'.heap[k]? := fun k hk => Below.heap_setCell w' ⟨b, 1, none⟩ v k hk
  have nb : ∀ k o, w.heap[k]? = some o → (∀ C fr, o ≠ .cells C 122 fr) → k ≠ b := fun k o hh ht e => by
    subst e
    rw [hfh] at hh
    exact ht _ _ (Option.some.inj hh).symm
  have fct : ∀ (C : Array Value) (t : TypeId) (fr : Nat × Nat), t ≠ 122 → ∀ C' fr', (Obj.cells C t fr) ≠ .cells C' 122 fr' := fun C t fr ht C' fr' e => ht (by cases e; rfl)
  have all : ∀ k o, w.heap[k]? = some o → (∀ C fr, o ≠ .cells C 122 fr) → some k ≠ f.row.ownBlock → (w'.setCell ⟨b, 1, none⟩ v).heap[k]? = w.heap[k]? := fun k o hh h1 h2 => (ho k (nb k o hh h1)).trans (keep k (Array.getElem?_eq_some_iff.1 hh).1 h2)
  have fl : ∀ c g, (S.file b ⟨f.nm, v, zs'⟩).fl c = some g → (c = b ∧ g = ⟨f.nm, v, zs'⟩) ∨ (c ≠ b ∧ S.fl c = some g) := fun c g hc => by
    have hc' : (if c = b then some (⟨f.nm, v, zs'⟩ : Fil) else S.fl c) = some g := hc
    split at hc'
    · rename_i e; cases hc'; exact .inl ⟨e, rfl⟩
    · rename_i e; exact .inr ⟨e, hc'⟩
  have up : ∀ c g, S.fl c = some g → ∃ g', (S.file b ⟨f.nm, v, zs'⟩).fl c = some g' ∧ g'.nm = g.nm := fun c g hc => by
    by_cases e : c = b
    · subst e
      rw [hf] at hc
      cases hc
      exact ⟨⟨f.nm, v, zs'⟩, by show (if _ then _ else _) = _; rw [if_pos rfl], rfl⟩
    · exact ⟨g, by show (if _ then _ else _) = _; rw [if_neg e]; exact hc, rfl⟩
  have vb : ∀ k, v.ownBlock = some k → f.row.ownBlock = some k ∨ w.heap.size ≤ k := fun k hk => by
    rcases hv with hv | hv
    · exact .inl (hv.symm.trans hk)
    · rw [hv] at hk
      exact .inr (by have := Option.some.inj hk; omega)
  refine ⟨⟨(cell_of_row w' b 1 _ _ _ hb').trans rfl, frozen_of_row w' b 1 _ _ hb'⟩, ⟨h.base, ?_, ⟨?_, fun c g hc => ?_, fun c c' g g' k hc hc' hk hk' => ?_, fun x => ?_, ?_, fun c hc => ?_⟩⟩, hg.os, hg.tape, hg.output, ?_, fun k hk hn => ?_, fun k hk => ?_⟩
  · exact (all d _ h.hd (fct _ _ _ (by decide)) (nl _ _ h.hd (ct _ _ _ (by decide)))).trans h.hd
  · rcases h.rest.hm with h0 | ⟨m, h1, h2, h3⟩
    · exact .inl h0
    · obtain ⟨es, cl, hh⟩ := map_block h3
      exact .inr ⟨m, h1, h2, map_keep h3 (all m _ hh (fun C fr e => by cases e) (nl _ _ hh (fun C fr e => by cases e)))⟩
  · rcases fl c g hc with ⟨rfl, rfl⟩ | ⟨hne, hc⟩
    · refine ⟨hfB, row_set hb' v (o := 1) (by show 1 < 2; omega), row_keep hrow fun k hk => ho k fun e => ?_, hps⟩
      · obtain ⟨_, cur, hh⟩ := row_block hrow hk
        rw [e, hb'] at hh
        simp only [Option.some.injEq, Obj.cells.injEq] at hh
        exact absurd hh.2.1 (by decide)
    · obtain ⟨h1, h2, h3, h4⟩ := h.rest.hf c g hc
      refine ⟨h1, ?_, row_keep h3 fun k hk => ?_, h4⟩
      · exact (ho c hne).trans ((keep c (Array.getElem?_eq_some_iff.1 h2).1 (nl _ _ h2 (ct _ _ _ (by decide)))).trans h2)
      · obtain ⟨_, cur, hh⟩ := row_block h3 hk
        exact all k _ hh (fct _ _ _ (by decide)) fun e => hne (h.rest.ha c b g f k hc hf hk e.symm)
  · rcases fl c g hc with ⟨e1, e2⟩ | ⟨hne, hcS⟩
    · rcases fl c' g' hc' with ⟨e3, e4⟩ | ⟨hne', hcS'⟩
      · rw [e1, e3]
      · subst e2
        rcases vb k hk with h1 | h1
        · exact e1.trans (h.rest.ha b c' f g' k hf hcS' h1 hk')
        · have := ((h.rest.hf c' g' hcS').2.2.1.lt k hk').2
          omega
    · rcases fl c' g' hc' with ⟨e3, e4⟩ | ⟨hne', hcS'⟩
      · subst e4
        rcases vb k hk' with h1 | h1
        · exact (h.rest.ha c b g f k hcS hf hk h1).trans e3.symm
        · have := ((h.rest.hf c g hcS).2.2.1.lt k hk).2
          omega
      · exact h.rest.ha c c' g g' k hcS hcS' hk hk'
  · rcases h.rest.hr x with h0 | ⟨c, g, h1, h2, h3⟩
    · exact .inl h0
    · obtain ⟨g', h4, h5⟩ := up c g h2
      exact .inr ⟨c, g', h1, h4, h5.trans h3⟩
  · refine row_keep h.rest.hl fun k hk => ?_
    obtain ⟨_, cur, hh⟩ := row_block h.rest.hl hk
    exact all k _ hh (fct _ _ _ (by decide)) (nl _ _ hh (ct _ _ _ (by decide)))
  · obtain ⟨⟨g, h1⟩, h2⟩ := h.rest.hc c hc
    refine ⟨?_, fun b' hb' => ?_⟩
    · obtain ⟨g', h3, _⟩ := up _ g h1
      exact ⟨g', h3⟩
    · obtain ⟨g2, h3⟩ := h2 b' hb'
      obtain ⟨g', h4, _⟩ := up _ g2 h3
      exact ⟨g', h4⟩
  · show w.heap.size ≤ (w'.setCell ⟨b, 1, none⟩ v).heap.size
    simp only [World.setCell, Array.size_modify]
    exact hg.size
  · exact (ho k fun e => hn (.inr (.inr (.inl ⟨f, by rw [e]; exact hf⟩)))).trans (keep k hk fun e => hn (.inr (.inr (.inr (.inl ⟨b, f, hf, e.symm⟩)))))
  · rcases hk with hk | hk | ⟨g, hk⟩ | ⟨c, g, hc, hk⟩ | hk
    · exact .inl (.inl hk)
    · exact .inl (.inr (.inl hk))
    · rcases fl k g hk with ⟨rfl, rfl⟩ | ⟨_, hk⟩
      · exact .inl (.inr (.inr (.inl ⟨f, hf⟩)))
      · exact .inl (.inr (.inr (.inl ⟨g, hk⟩)))
    · rcases fl c g hc with ⟨rfl, rfl⟩ | ⟨_, hc⟩
      · rcases vb k hk with h1 | h1
        · exact .inl (.inr (.inr (.inr (.inl ⟨c, f, hf, h1⟩))))
        · exact .inr h1
      · exact .inl (.inr (.inr (.inr (.inl ⟨c, g, hc, hk⟩))))
    · exact .inl (.inr (.inr (.inr (.inr hk))))
theorem DK.grow {B d b : Nat} {S : Dsk} {f : Fil} {v : Value} {ps : List Nat} {w w' : World} (h : DK B d S w) (hf : S.fl b = some f) (hps : ∀ z ∈ ps, z < 256) (hrow : Own w' B v (f.zs ++ ps)) (hg : w.grownBy w' f.row.ownBlock) (hv : v.ownBlock = f.row.ownBlock ∨ v.ownBlock = some w.heap.size) :
    (w'.cell? ⟨b, 1, none⟩ = some f.row ∧ w'.frozen? ⟨b, 1, none⟩ = false) ∧ DK B d (S.grow b f v ps) (w'.setCell ⟨b, 1, none⟩ v) ∧ Mov S d (S.grow b f v ps) w (w'.setCell ⟨b, 1, none⟩ v) :=
  h.rowSet hf (fun z hz => by
    rcases List.mem_append.1 hz with hz | hz
    · exact (h.rest.hf b f hf).2.2.2 z hz
    · exact hps z hz) hrow hg hv
theorem wpList_growF {w : World} {ops : Array Oper} {rest : List Oper} {o : Oper} {a : Act} {Q : Exit → Act → World → Prop} (hgd : o.guard = none) (s x : Operand)
    (ho : o.op = .call { callee := .builtin .append, args := #[s, x], argTypes := #[41, 41] })
    (B d b : Nat) (S : Dsk) (f : Fil) (h : DK B d S w) (hf : S.fl b = some f) (hs : a.eval s = f.row) (pa : Option Addr) (n c : Nat) (ps : List Nat) (hx : a.eval x = .slice pa n c) (hr : RdN S d w pa n c ps) (hlen : f.zs.length + n ≤ 1000000000000)
    (k : ∀ va vn vc w', w'.cell? ⟨b, 1, none⟩ = some f.row → w'.frozen? ⟨b, 1, none⟩ = false → DK B d (S.grow b f (.slice va vn vc) ps) (w'.setCell ⟨b, 1, none⟩ (.slice va vn vc)) → Mov S d (S.grow b f (.slice va vn vc) ps) w (w'.setCell ⟨b, 1, none⟩ (.slice va vn vc)) → wpList Try.prog ops Q rest (a.put o.dst (.slice va vn vc)) w') :
    wpList Try.prog ops Q (o :: rest) a w := by
  obtain ⟨i0, hi, hz0, hz1, hz2⟩ := info_parts byteInfo
  obtain ⟨hfB, hfh, hfr, hfz⟩ := h.rest.hf b f hf
  obtain ⟨⟨hl, hz, hc⟩, hno, hnil⟩ := hr
  have fin : ∀ v' w', Own w' B v' (f.zs ++ ps) → w.grownBy w' f.row.ownBlock → (v'.ownBlock = f.row.ownBlock ∨ v'.ownBlock = some w.heap.size) → wpList Try.prog ops Q rest (a.put o.dst v') w' := fun v' w' h1 h2 h4 => by
    obtain ⟨g1, g2, g3⟩ := h.grow hf hz h1 h2 h4
    rcases h1.2 with ⟨rfl, _⟩ | ⟨g, cap, cur, rfl, _⟩
    · exact k _ _ _ w' g1.1 g1.2 g2 g3
    · exact k _ _ _ w' g1.1 g1.2 g2 g3
  cases pa with
  | none =>
    obtain rfl := hnil rfl
    have h0 : n = 0 := by
      rcases hc with h0 | ⟨b, off, hb, _⟩
      · exact h0
      · cases hb
    subst h0
    obtain rfl : ps = [] := List.eq_nil_of_length_eq_zero hl
    refine wpList_append_own_none hgd s x 41 ho B 5 i0 1 Try.underlying41 hi f.row f.zs.length (cellsOf f.zs) hs hfr hx ?_
    exact fin f.row w (by rw [List.append_nil]; exact hfr) ⟨rfl, rfl, rfl, Nat.le_refl _, fun _ _ _ => rfl⟩ (.inl rfl)
  | some ad =>
    refine wpList_append_own_at _ hgd s x 41 ho B 5 i0 (.int .u8 0) 1 1 Try.underlying41 hi hz0 hz1 hz2 rfl (by decide) f.row f.zs.length (cellsOf f.zs) hs hfr ad n c (cellsOf ps) hx (by rw [cellsOf_length, hl, Nat.mul_one]) ?_ (cellsOf_one _) (by unfold maxLen; omega) (by omega) (by have h1 := h.base; have h2 := h.lt; omega) ?_
    · intro j u hj
      have hjl : j < ps.length := by
        have := (List.getElem?_eq_some_iff.1 hj).1
        rwa [cellsOf_length] at this
      rw [cellsOf_get ps j hjl] at hj
      cases hj
      rcases hc with h0 | ⟨b, off, hb, _, hcell⟩
      · omega
      · cases hb
        have hcj := hcell j (by omega)
        rw [show Addr.add ⟨b, off, none⟩ j = ⟨b, off + j, none⟩ by simp [Addr.add]]
        exact hcj
    · intro v' w' h1 h2 _ h4
      refine fin v' w' ?_ h2 h4
      unfold Own
      rw [List.length_append, cellsOf_append, hl]
      exact h1
set_option maxRecDepth 100000 in
set_option maxHeartbeats 8000000 in
theorem dappend_no {B d : Nat} {S : Dsk} {w : World} (h : DK B d S w) (s : ByteArray) (hs : s.size ≤ maxLen) (pa : Option Addr) (n c : Nat) (hn : (S.find s).2 ≠ 0) : Calls Try.prog 57 #[.pointer (some ⟨d, 0, none⟩), .string s, .slice pa n c] w fun e w' => e = .returned (.int .i64 (S.find s).2) ∧ w' = w := by
  have HF := Lib.hid (dfind_c h s hs)
  have hn' : ((S.find s).2 == 0) = false := beq_eq_false_iff_ne.2 hn
  clear h
  obtain ⟨x, hx⟩ : ∃ x, x = (S.find s).2 := ⟨_, rfl⟩
  obtain ⟨y, hy⟩ : ∃ y, y = ptrOf (S.find s).1 := ⟨_, rfl⟩
  rw [← hx] at HF hn hn' ⊢
  rw [← hy] at HF
  clear hx
  have hy' : ∃ z, y = .pointer z := ⟨_, hy⟩
  obtain ⟨z, rfl⟩ := hy'
  clear hy
  go_enter Try.func57, Try.ntmps57
  go_wp2_with fail
  refine HF.out.mono ?_
  rintro e1 w1 ⟨rfl, rfl⟩
  go_wp2_with fail
  go_ret
  exact ⟨rfl, rfl⟩
set_option maxRecDepth 100000 in
set_option maxHeartbeats 8000000 in
theorem dappend_long {B d : Nat} {S : Dsk} {w : World} (h : DK B d S w) (s : ByteArray) (hs : s.size ≤ maxLen) (pa : Option Addr) (n c : Nat) (hd : S.down = false) {b : Nat} (ha : S.at s = some b) (hl : 1048576 < n) : Calls Try.prog 57 #[.pointer (some ⟨d, 0, none⟩), .string s, .slice pa n c] w fun e w' => e = .returned (.int .i64 8) ∧ w' = w := by
  have HF := Lib.hid (dfind_c h s hs)
  rw [show S.find s = (some b, 0) from by unfold Dsk.find; rw [hd, ha]; rfl] at HF
  simp only [ptrOf, Option.map_some] at HF
  have i1 : (1048576 : Int) < (n : Int) := by omega
  clear h
  go_enter Try.func57, Try.ntmps57
  go_wp2_with fail
  refine HF.out.mono ?_
  rintro e1 w1 ⟨rfl, rfl⟩
  go_wp2_with fail
  go_ret
  exact ⟨rfl, rfl⟩
set_option maxRecDepth 100000 in
set_option maxHeartbeats 8000000 in
theorem dappend_full {B d : Nat} {S : Dsk} {w : World} (h : DK B d S w) (s : ByteArray) (hs : s.size ≤ maxLen) (pa : Option Addr) (n c : Nat) (hd : S.down = false) {b : Nat} (ha : S.at s = some b) (hl : n ≤ 1048576) (hc : wrap64 (S.room - S.used) < (n : Int)) : Calls Try.prog 57 #[.pointer (some ⟨d, 0, none⟩), .string s, .slice pa n c] w fun e w' => e = .returned (.int .i64 4) ∧ Below w.heap.size w w' := by
  have HF := Lib.hid (dfind_c h s hs)
  rw [show S.find s = (some b, 0) from by unfold Dsk.find; rw [hd, ha]; rfl] at HF
  simp only [ptrOf, Option.map_some] at HF
  have i1 : ¬ (1048576 : Int) < (n : Int) := by omega
  have hfit : decide (wrap64 (S.room - S.used) < (n : Int)) = true := decide_eq_true hc
  clear hc
  go_enter Try.func57, Try.ntmps57
  go_wp2_with fail
  refine HF.out.mono ?_
  rintro e1 w1 ⟨rfl, rfl⟩
  go_wp2_with fail
  (try dsimp only [Act.put, List.setIfInBounds_toArray, List.set_cons_zero, List.set_cons_succ])
  have HS := Lib.hid (show World.cell? _ ⟨d, 0, none⟩ = some (.int .i64 S.room) ∧ World.cell? _ ⟨d, 2, none⟩ = some (.int .i64 S.used) from ⟨(h.below (Below.refl _ _).drew).cells.1, (h.below (Below.refl _ _).drew).cells.2.2.1⟩)
  have HL0 := Lib.hid (fun W (hW : World.cell? W ⟨d, 0, none⟩ = some (.int .i64 S.room) ∧ World.cell? W ⟨d, 2, none⟩ = some (.int .i64 S.used)) => run_cell_i W ⟨d, 0, none⟩ _ hW.1)
  have HL2 := Lib.hid (fun W (hW : World.cell? W ⟨d, 0, none⟩ = some (.int .i64 S.room) ∧ World.cell? W ⟨d, 2, none⟩ = some (.int .i64 S.used)) => run_cell_i W ⟨d, 2, none⟩ _ hW.2)
  refine anyH_begin (S := fun W => W.cell? ⟨d, 0, none⟩ = some (.int .i64 S.room) ∧ W.cell? ⟨d, 2, none⟩ = some (.int .i64 S.used)) (by kernel_rfl) ?_
  refine anyH_pureG 0 (d := 25) (op := .move (.tmp 2)) (gd := none) (.slice pa n c) (by rfl) (fun o ho => wanted_plain ho _) (by kernel_rfl) (by kernel_rfl) (by kernel_rfl) (fun _ _ _ h => h) (fun o ho W hW => by unfold execOp; simp only [ho]; go_simp) HS.out ?_
  simp only [Act.put, List.setIfInBounds_toArray, List.set_cons_zero, List.set_cons_succ]
  refine anyH_pureG 1 (d := 26) (op := .call { callee := .builtin .len, args := #[(.tmp 25)], argTypes := #[41] }) (gd := none) (.int .i64 (n : Int)) (by rfl) (fun o ho => wanted_plain ho _) (by kernel_rfl) (by kernel_rfl) (by kernel_rfl) (fun _ _ _ h => h) (fun o ho W hW => by unfold execOp; simp only [ho]; go_simp) HS.out ?_
  simp only [Act.put, List.setIfInBounds_toArray, List.set_cons_zero, List.set_cons_succ]
  refine anyH_pureG 2 (d := 27) (op := .move (.tmp 0)) (gd := none) (.pointer (some ⟨d, 0, none⟩)) (by rfl) (fun o ho => wanted_plain ho _) (by kernel_rfl) (by kernel_rfl) (by kernel_rfl) (fun _ _ _ h => h) (fun o ho W hW => by unfold execOp; simp only [ho]; go_simp) HS.out ?_
  simp only [Act.put, List.setIfInBounds_toArray, List.set_cons_zero, List.set_cons_succ]
  refine anyH_pureG 3 (d := 28) (op := .nilCheck (.tmp 27)) (gd := none) (.pointer (some ⟨d, 0, none⟩)) (by rfl) (fun o ho => wanted_plain ho _) (by kernel_rfl) (by kernel_rfl) (by kernel_rfl) (fun _ _ _ h => h) (fun o ho W hW => by unfold execOp; simp only [ho]; go_simp) HS.out ?_
  simp only [Act.put, List.setIfInBounds_toArray, List.set_cons_zero, List.set_cons_succ]
  refine anyH_pureG 4 (d := 29) (op := .fieldAddr 53 (.tmp 28) 0) (gd := none) (.pointer (some ⟨d, 0, none⟩)) (by rfl) (fun o ho => wanted_plain ho _) (by kernel_rfl) (by kernel_rfl) (by kernel_rfl) (fun _ _ _ h => h) (fun o ho W hW => by unfold execOp; simp only [ho]; go_simp) HS.out ?_
  simp only [Act.put, List.setIfInBounds_toArray, List.set_cons_zero, List.set_cons_succ]
  refine anyH_loadG 5 (d := 30) (ty := 3) (x := (.tmp 29)) (gd := none) (p := .pointer (some ⟨d, 0, none⟩)) (.int .i64 S.room) (by rfl) (fun o ho => wanted_plain ho _) (by kernel_rfl) (by kernel_rfl) (by kernel_rfl) (fun _ _ _ h => h) (by rfl) HL0.out HS.out ?_
  simp only [Act.put, List.setIfInBounds_toArray, List.set_cons_zero, List.set_cons_succ]
  refine anyH_pureG 6 (d := 31) (op := .move (.tmp 0)) (gd := none) (.pointer (some ⟨d, 0, none⟩)) (by rfl) (fun o ho => wanted_plain ho _) (by kernel_rfl) (by kernel_rfl) (by kernel_rfl) (fun _ _ _ h => h) (fun o ho W hW => by unfold execOp; simp only [ho]; go_simp) HS.out ?_
  simp only [Act.put, List.setIfInBounds_toArray, List.set_cons_zero, List.set_cons_succ]
  refine anyH_pureG 7 (d := 32) (op := .nilCheck (.tmp 31)) (gd := none) (.pointer (some ⟨d, 0, none⟩)) (by rfl) (fun o ho => wanted_plain ho _) (by kernel_rfl) (by kernel_rfl) (by kernel_rfl) (fun _ _ _ h => h) (fun o ho W hW => by unfold execOp; simp only [ho]; go_simp) HS.out ?_
  simp only [Act.put, List.setIfInBounds_toArray, List.set_cons_zero, List.set_cons_succ]
  refine anyH_pureG 8 (d := 33) (op := .fieldAddr 53 (.tmp 32) 2) (gd := none) (.pointer (some ⟨d, 2, none⟩)) (by rfl) (fun o ho => wanted_plain ho _) (by kernel_rfl) (by kernel_rfl) (by kernel_rfl) (fun _ _ _ h => h) (fun o ho W hW => by unfold execOp; simp only [ho]; go_simp) HS.out ?_
  simp only [Act.put, List.setIfInBounds_toArray, List.set_cons_zero, List.set_cons_succ]
  refine anyH_loadG 9 (d := 34) (ty := 3) (x := (.tmp 33)) (gd := none) (p := .pointer (some ⟨d, 2, none⟩)) (.int .i64 S.used) (by rfl) (fun o ho => wanted_plain ho _) (by kernel_rfl) (by kernel_rfl) (by kernel_rfl) (fun _ _ _ h => h) (by rfl) HL2.out HS.out ?_
  simp only [Act.put, List.setIfInBounds_toArray, List.set_cons_zero, List.set_cons_succ]
  refine anyH_pureG 10 (d := 35) (op := .binOp .sub 3 (.tmp 30) (.tmp 34) 3) (gd := none) (.int .i64 (wrap64 (S.room - S.used))) (by rfl) (fun o ho => wanted_plain ho _) (by kernel_rfl) (by kernel_rfl) (by kernel_rfl) (fun _ _ _ h => h) (fun o ho W hW => by unfold execOp; simp only [ho]; go_simp; rw [IntKind.wrap_i64]; unfold wrap64; rfl) HS.out ?_
  simp only [Act.put, List.setIfInBounds_toArray, List.set_cons_zero, List.set_cons_succ]
  refine anyH_pureG 11 (d := 36) (op := .binOp .gtr 3 (.tmp 26) (.tmp 35) 3) (gd := none) (.bool true) (by rfl) (fun o ho => wanted_plain ho _) (by kernel_rfl) (by kernel_rfl) (by kernel_rfl) (fun _ _ _ h => h) (fun o ho W hW => by unfold execOp; simp only [ho]; go_simp; try exact hfit) HS.out ?_
  simp only [Act.put, List.setIfInBounds_toArray, List.set_cons_zero, List.set_cons_succ]
  refine anyH_pureG 12 (d := 24) (op := .assign (.tmp 36)) (gd := none) (.bool true) (by rfl) (fun o ho => wanted_plain ho _) (by kernel_rfl) (by kernel_rfl) (by kernel_rfl) (fun _ _ _ h => h) (fun o ho W hW => by unfold execOp; simp only [ho]; go_simp) HS.out ?_
  simp only [Act.put, List.setIfInBounds_toArray, List.set_cons_zero, List.set_cons_succ]
  refine wpAnyH_done (by kernel_rfl) ?_ _
  clear HS HL0 HL2 hfit
  go_wp2_with fail
  go_ret
  exact ⟨rfl, (Below.refl _ _).drew⟩
theorem wp_pushC {w : World} {op : Oper} {a : Act} {K : Act → World → Prop} {Q : Exit → Act → World → Prop} (s x : Operand)
    (ho : op.op = .call { callee := .builtin .append, args := #[s, x], argTypes := #[51, 51] })
    (B d : Nat) (S : Dsk) (c : Chg) (h : DK B d S w) (hs : a.eval s = S.lv) (hx : a.eval x = .slice (some ⟨w.heap.size, 0, none⟩) 1 1) (hlen : S.loose.length + 1 ≤ 1000000000)
    (hc : (∃ f, S.fl c.file = some f) ∧ ∀ b, c.repl = some b → ∃ f, S.fl b = some f)
    (k : ∀ va vn vc w', w'.cell? ⟨d, 3, none⟩ = some S.lv → w'.frozen? ⟨d, 3, none⟩ = false → DK B d (S.more (.slice va vn vc) c) (w'.setCell ⟨d, 3, none⟩ (.slice va vn vc)) → Mov S d (S.more (.slice va vn vc) c) w (w'.setCell ⟨d, 3, none⟩ (.slice va vn vc)) → K (a.put op.dst (.slice va vn vc)) w') :
    op.wp Try.prog a (w.alloc (.cells c.cells.toArray 126)) K Q := by
  obtain ⟨i0, hi, hz0, hz1, hz2⟩ := info_parts info_chg
  have ha := h.alloc (.cells c.cells.toArray 126)
  obtain ⟨v', w', hr, h1, h2, _, h4⟩ := run_append_own_at (P := Try.prog) (w.alloc (.cells c.cells.toArray 126)) B 51 op.type 126 i0 _ 5 48 Try.underlying51 hi hz0 hz1 hz2 rfl (by decide) S.lv S.loose.length _ ha.rest.hl ⟨w.heap.size, 0, none⟩ 1 1 c.cells rfl (fun j u hj => by
      rw [Addr.add_mid, Nat.zero_add, cell_of_row _ _ _ _ _ _ (heap_alloc_new w _)]
      simpa using hj) c.one (by unfold maxLen; omega) (by omega) (by have h1 := h.base; have h2 := h.lt; simp; omega)
  obtain ⟨g1, g2, g3⟩ := ha.push h1 h2 (by
    rcases h4 with h4 | h4
    · exact .inl h4
    · exact .inr ⟨_, h4, Nat.le_refl _⟩) hc
  have hm : Mov S d (S.more v' c) w (w'.setCell ⟨d, 3, none⟩ v') := (Mov.ofBelow ((Below.refl _ _).alloc (Nat.le_refl _) _)).trans g3
  rcases h1.2 with ⟨rfl, h0⟩ | ⟨g, cap, cur, rfl, _⟩
  · omega
  · unfold Oper.wp execOp
    simp only [ho, resolve, invoke, builtin, Sem.run_bind, Sem.run_pure, Result.andThen_ok, List.map_toArray, List.map_cons, List.map_nil, hs, hx, hr]
    exact k _ _ _ w' g1.1 g1.2 g2 hm
theorem wp_bsC {w : World} {op : Oper} {a : Act} {K : Act → World → Prop} {Q : Exit → Act → World → Prop} (x : Operand) (ho : op.op = .buildSlice 51 1 #[(0, x)]) (k1 : Int) (b : Nat) (n : Int) (hx : a.eval x = .agg #[.int .i64 k1, .pointer (some ⟨b, 0, none⟩), .int .i64 n, .string ⟨#[]⟩, .pointer none])
    (k : K (a.put op.dst (.slice (some ⟨w.heap.size, 0, none⟩) 1 1)) (w.alloc (.cells #[.int .i64 k1, .pointer (some ⟨b, 0, none⟩), .int .i64 n, .string ⟨#[]⟩, .pointer none] 126))) : op.wp Try.prog a w K Q := by
  unfold Oper.wp execOp
  simp only [ho, List.map_toArray, List.map_cons, List.map_nil, hx]
  go_simp
  exact k
/-- what Append leaves where nothing refuses it -/
def Dsk.laid (S : Dsk) (b : Nat) (f : Fil) (v v' : Value) (ps : List Nat) : Dsk := { ((S.more v ⟨1, b, (f.zs.length : Int), ⟨#[]⟩, none⟩).grow b f v' ps) with used := wrap64 (S.used + (ps.length : Int)) }
set_option maxRecDepth 100000 in
set_option maxHeartbeats 8000000 in
theorem dappend_ok {B d : Nat} {S : Dsk} {w : World} (h : DK B d S w) (s : ByteArray) (hs : s.size ≤ maxLen) (pa : Option Addr) (n c : Nat) (ps : List Nat) (hd : S.down = false) {b : Nat} {f : Fil} (ha : S.at s = some b) (hfl : S.fl b = some f) (hl : n ≤ 1048576) (hc : ¬ wrap64 (S.room - S.used) < (n : Int)) (hf : S.fuse ≠ 0) (hlo : S.loose.length < 1000000000) (hfz : f.zs.length ≤ 100000000000) (hr : RdN S d w pa n c ps) :
    Calls Try.prog 57 #[.pointer (some ⟨d, 0, none⟩), .string s, .slice pa n c] w fun e w' => e = .returned (.int .i64 0) ∧ ∃ v v', DK B d (S.step.1.laid b f v v' ps) w' ∧ Mov S d (S.step.1.laid b f v v' ps) w w' := by
  have HF := Lib.hid (dfind_c h s hs)
  rw [show S.find s = (some b, 0) from by unfold Dsk.find; rw [hd, ha]; rfl] at HF
  simp only [ptrOf, Option.map_some] at HF
  have i1 : ¬ (1048576 : Int) < (n : Int) := by omega
  have hfit : decide (wrap64 (S.room - S.used) < (n : Int)) = false := decide_eq_false hc
  clear hc
  obtain ⟨ra, rc, hrow, -, -, -⟩ := ((h.rest.hf b f hfl).2.2.1).rd (h.rest.hf b f hfl).2.2.2
  have HROW := Lib.hid hrow
  have hne : b ≠ d := h.ne (.inr (.inl ⟨f, hfl⟩))
  have hst : S.step.2 = 0 ∧ S.step.1.fl = S.fl ∧ S.step.1.loose = S.loose ∧ S.step.1.lv = S.lv ∧ S.step.1.used = S.used := by
    unfold Dsk.step
    rw [if_neg hf]
    split <;> exact ⟨rfl, rfl, rfl, rfl, rfl⟩
  have HST := Lib.hid (dstep_c (h.below (Below.refl _ _).drew))
  rw [hst.1] at HST
  obtain ⟨la, ln, lc, hlv⟩ : ∃ la ln lc, S.lv = .slice la ln lc := by
    rcases h.rest.hl.2 with ⟨h1, _⟩ | ⟨g, cap, cur, h1, _⟩
    · exact ⟨_, _, _, h1⟩
    · exact ⟨_, _, _, h1⟩
  have HE := Lib.hid hst.2
  have HNE := Lib.hid hne
  have hk0 := h
  have HRD := Lib.hid hr
  have hlen : (ps.length : Int) = (n : Int) := by rw [hr.rd.1]
  have HPL := Lib.hid hlen
  have HFZ := Lib.hid hfz
  clear hrow hst hne hr hlen hk0 hfz
  go_enter Try.func57, Try.ntmps57
  go_wp2_with fail
  refine HF.out.mono ?_
  rintro e1 w1 ⟨rfl, rfl⟩
  go_wp2_with fail
  (try dsimp only [Act.put, List.setIfInBounds_toArray, List.set_cons_zero, List.set_cons_succ])
  have HS := Lib.hid (show World.cell? _ ⟨d, 0, none⟩ = some (.int .i64 S.room) ∧ World.cell? _ ⟨d, 2, none⟩ = some (.int .i64 S.used) from ⟨(h.below (Below.refl _ _).drew).cells.1, (h.below (Below.refl _ _).drew).cells.2.2.1⟩)
  have HL0 := Lib.hid (fun W (hW : World.cell? W ⟨d, 0, none⟩ = some (.int .i64 S.room) ∧ World.cell? W ⟨d, 2, none⟩ = some (.int .i64 S.used)) => run_cell_i W ⟨d, 0, none⟩ _ hW.1)
  have HL2 := Lib.hid (fun W (hW : World.cell? W ⟨d, 0, none⟩ = some (.int .i64 S.room) ∧ World.cell? W ⟨d, 2, none⟩ = some (.int .i64 S.used)) => run_cell_i W ⟨d, 2, none⟩ _ hW.2)
  refine anyH_begin (S := fun W => W.cell? ⟨d, 0, none⟩ = some (.int .i64 S.room) ∧ W.cell? ⟨d, 2, none⟩ = some (.int .i64 S.used)) (by kernel_rfl) ?_
  refine anyH_pureG 0 (d := 25) (op := .move (.tmp 2)) (gd := none) (.slice pa n c) (by rfl) (fun o ho => wanted_plain ho _) (by kernel_rfl) (by kernel_rfl) (by kernel_rfl) (fun _ _ _ h => h) (fun o ho W hW => by unfold execOp; simp only [ho]; go_simp) HS.out ?_
  simp only [Act.put, List.setIfInBounds_toArray, List.set_cons_zero, List.set_cons_succ]
  refine anyH_pureG 1 (d := 26) (op := .call { callee := .builtin .len, args := #[(.tmp 25)], argTypes := #[41] }) (gd := none) (.int .i64 (n : Int)) (by rfl) (fun o ho => wanted_plain ho _) (by kernel_rfl) (by kernel_rfl) (by kernel_rfl) (fun _ _ _ h => h) (fun o ho W hW => by unfold execOp; simp only [ho]; go_simp) HS.out ?_
  simp only [Act.put, List.setIfInBounds_toArray, List.set_cons_zero, List.set_cons_succ]
  refine anyH_pureG 2 (d := 27) (op := .move (.tmp 0)) (gd := none) (.pointer (some ⟨d, 0, none⟩)) (by rfl) (fun o ho => wanted_plain ho _) (by kernel_rfl) (by kernel_rfl) (by kernel_rfl) (fun _ _ _ h => h) (fun o ho W hW => by unfold execOp; simp only [ho]; go_simp) HS.out ?_
  simp only [Act.put, List.setIfInBounds_toArray, List.set_cons_zero, List.set_cons_succ]
  refine anyH_pureG 3 (d := 28) (op := .nilCheck (.tmp 27)) (gd := none) (.pointer (some ⟨d, 0, none⟩)) (by rfl) (fun o ho => wanted_plain ho _) (by kernel_rfl) (by kernel_rfl) (by kernel_rfl) (fun _ _ _ h => h) (fun o ho W hW => by unfold execOp; simp only [ho]; go_simp) HS.out ?_
  simp only [Act.put, List.setIfInBounds_toArray, List.set_cons_zero, List.set_cons_succ]
  refine anyH_pureG 4 (d := 29) (op := .fieldAddr 53 (.tmp 28) 0) (gd := none) (.pointer (some ⟨d, 0, none⟩)) (by rfl) (fun o ho => wanted_plain ho _) (by kernel_rfl) (by kernel_rfl) (by kernel_rfl) (fun _ _ _ h => h) (fun o ho W hW => by unfold execOp; simp only [ho]; go_simp) HS.out ?_
  simp only [Act.put, List.setIfInBounds_toArray, List.set_cons_zero, List.set_cons_succ]
  refine anyH_loadG 5 (d := 30) (ty := 3) (x := (.tmp 29)) (gd := none) (p := .pointer (some ⟨d, 0, none⟩)) (.int .i64 S.room) (by rfl) (fun o ho => wanted_plain ho _) (by kernel_rfl) (by kernel_rfl) (by kernel_rfl) (fun _ _ _ h => h) (by rfl) HL0.out HS.out ?_
  simp only [Act.put, List.setIfInBounds_toArray, List.set_cons_zero, List.set_cons_succ]
  refine anyH_pureG 6 (d := 31) (op := .move (.tmp 0)) (gd := none) (.pointer (some ⟨d, 0, none⟩)) (by rfl) (fun o ho => wanted_plain ho _) (by kernel_rfl) (by kernel_rfl) (by kernel_rfl) (fun _ _ _ h => h) (fun o ho W hW => by unfold execOp; simp only [ho]; go_simp) HS.out ?_
  simp only [Act.put, List.setIfInBounds_toArray, List.set_cons_zero, List.set_cons_succ]
  refine anyH_pureG 7 (d := 32) (op := .nilCheck (.tmp 31)) (gd := none) (.pointer (some ⟨d, 0, none⟩)) (by rfl) (fun o ho => wanted_plain ho _) (by kernel_rfl) (by kernel_rfl) (by kernel_rfl) (fun _ _ _ h => h) (fun o ho W hW => by unfold execOp; simp only [ho]; go_simp) HS.out ?_
  simp only [Act.put, List.setIfInBounds_toArray, List.set_cons_zero, List.set_cons_succ]
  refine anyH_pureG 8 (d := 33) (op := .fieldAddr 53 (.tmp 32) 2) (gd := none) (.pointer (some ⟨d, 2, none⟩)) (by rfl) (fun o ho => wanted_plain ho _) (by kernel_rfl) (by kernel_rfl) (by kernel_rfl) (fun _ _ _ h => h) (fun o ho W hW => by unfold execOp; simp only [ho]; go_simp) HS.out ?_
  simp only [Act.put, List.setIfInBounds_toArray, List.set_cons_zero, List.set_cons_succ]
  refine anyH_loadG 9 (d := 34) (ty := 3) (x := (.tmp 33)) (gd := none) (p := .pointer (some ⟨d, 2, none⟩)) (.int .i64 S.used) (by rfl) (fun o ho => wanted_plain ho _) (by kernel_rfl) (by kernel_rfl) (by kernel_rfl) (fun _ _ _ h => h) (by rfl) HL2.out HS.out ?_
  simp only [Act.put, List.setIfInBounds_toArray, List.set_cons_zero, List.set_cons_succ]
  refine anyH_pureG 10 (d := 35) (op := .binOp .sub 3 (.tmp 30) (.tmp 34) 3) (gd := none) (.int .i64 (wrap64 (S.room - S.used))) (by rfl) (fun o ho => wanted_plain ho _) (by kernel_rfl) (by kernel_rfl) (by kernel_rfl) (fun _ _ _ h => h) (fun o ho W hW => by unfold execOp; simp only [ho]; go_simp; rw [IntKind.wrap_i64]; unfold wrap64; rfl) HS.out ?_
  simp only [Act.put, List.setIfInBounds_toArray, List.set_cons_zero, List.set_cons_succ]
  refine anyH_pureG 11 (d := 36) (op := .binOp .gtr 3 (.tmp 26) (.tmp 35) 3) (gd := none) (.bool false) (by rfl) (fun o ho => wanted_plain ho _) (by kernel_rfl) (by kernel_rfl) (by kernel_rfl) (fun _ _ _ h => h) (fun o ho W hW => by unfold execOp; simp only [ho]; go_simp; try exact hfit) HS.out ?_
  simp only [Act.put, List.setIfInBounds_toArray, List.set_cons_zero, List.set_cons_succ]
  refine anyH_pureG 12 (d := 24) (op := .assign (.tmp 36)) (gd := none) (.bool false) (by rfl) (fun o ho => wanted_plain ho _) (by kernel_rfl) (by kernel_rfl) (by kernel_rfl) (fun _ _ _ h => h) (fun o ho W hW => by unfold execOp; simp only [ho]; go_simp) HS.out ?_
  simp only [Act.put, List.setIfInBounds_toArray, List.set_cons_zero, List.set_cons_succ]
  refine wpAnyH_done (by kernel_rfl) ?_ _
  clear HS HL0 HL2 hfit
  go_wp2_with fail
  refine HST.out.mono ?_
  rintro e3 w3 ⟨rfl, hk3, hm3⟩
  have HM3 := Lib.hid ((Mov.ofBelow (Below.refl _ _).drew).trans hm3)
  have HRN := Lib.hid HRD.out
  have HRN3 := Lib.hid (HRD.out.mov HM3.out)
  have HK3 := Lib.hid hk3
  clear h hk3 hm3 HST HF HRD
  go_wp2_with fail
  obtain ⟨S1, hS1⟩ : ∃ S1, S1 = S.step.1 := ⟨_, rfl⟩
  rw [← hS1] at HK3 HM3 HRN3 HE
  have HS1 := Lib.hid hS1
  have HLV := Lib.hid (show S1.lv = .slice la ln lc from HE.out.2.2.1.trans hlv)
  have HFL := Lib.hid (show S1.fl b = some f from by rw [HE.out.1]; exact hfl)
  have HLL := Lib.hid (show S1.loose.length + 1 ≤ 1000000000 from by rw [HE.out.2.1]; omega)
  have HC := Lib.hid (show (∃ g, S1.fl b = some g) ∧ ∀ b', (none : Option Nat) = some b' → ∃ g, S1.fl b' = some g from ⟨⟨f, HFL.out⟩, fun b' hb => by cases hb⟩)
  clear hS1 hlv hfl ha hlo HE
  (try dsimp only [Act.put, List.setIfInBounds_toArray, List.set_cons_zero, List.set_cons_succ])
  have HK3 := Lib.hid (HK3.out.below (Below.refl _ _).drew)
  have HM3 := Lib.hid (HM3.out.trans (Mov.ofBelow (S := S1) (d := d) (Below.refl _ _).drew))
  obtain ⟨w4, hw4⟩ : ∃ w4, w4 = w3.drew := ⟨_, rfl⟩
  have HS := Lib.hid (show World.cell? w4 ⟨b, 1, none⟩ = some (.slice ra f.zs.length rc) from by rw [hw4]; exact (HK3.out.rest.fcells HFL.out).2.trans (congrArg some HROW.out))
  have HL1 := Lib.hid (fun W (hW : World.cell? W ⟨b, 1, none⟩ = some (.slice ra f.zs.length rc)) => run_cell_b W ⟨b, 1, none⟩ ra f.zs.length rc hW)
  refine anyH_begin (S := fun W => World.cell? W ⟨b, 1, none⟩ = some (.slice ra f.zs.length rc)) (by kernel_rfl) ?_
  rw [← hw4] at HK3 HM3 ⊢
  clear hw4 HRN3
  refine anyH_pureG 0 (d := 42) (op := .move (.tmp 0)) (gd := none) (.pointer (some ⟨d, 0, none⟩)) (by rfl) (fun o ho => wanted_plain ho _) (by kernel_rfl) (by kernel_rfl) (by kernel_rfl) (fun _ _ _ h => h) (fun o ho W hW => by unfold execOp; simp only [ho]; go_simp) HS.out ?_
  simp only [Act.put, List.setIfInBounds_toArray, List.set_cons_zero, List.set_cons_succ]
  refine anyH_pureG 1 (d := 43) (op := .move (.tmp 0)) (gd := none) (.pointer (some ⟨d, 0, none⟩)) (by rfl) (fun o ho => wanted_plain ho _) (by kernel_rfl) (by kernel_rfl) (by kernel_rfl) (fun _ _ _ h => h) (fun o ho W hW => by unfold execOp; simp only [ho]; go_simp) HS.out ?_
  simp only [Act.put, List.setIfInBounds_toArray, List.set_cons_zero, List.set_cons_succ]
  refine anyH_pureG 2 (d := 44) (op := .nilCheck (.tmp 43)) (gd := none) (.pointer (some ⟨d, 0, none⟩)) (by rfl) (fun o ho => wanted_plain ho _) (by kernel_rfl) (by kernel_rfl) (by kernel_rfl) (fun _ _ _ h => h) (fun o ho W hW => by unfold execOp; simp only [ho]; go_simp) HS.out ?_
  simp only [Act.put, List.setIfInBounds_toArray, List.set_cons_zero, List.set_cons_succ]
  refine anyH_pureG 3 (d := 45) (op := .fieldAddr 53 (.tmp 44) 3) (gd := none) (.pointer (some ⟨d, 3, none⟩)) (by rfl) (fun o ho => wanted_plain ho _) (by kernel_rfl) (by kernel_rfl) (by kernel_rfl) (fun _ _ _ h => h) (fun o ho W hW => by unfold execOp; simp only [ho]; go_simp) HS.out ?_
  simp only [Act.put, List.setIfInBounds_toArray, List.set_cons_zero, List.set_cons_succ]
  refine anyH_pureG 5 (d := 47) (op := .move (.tmp 7)) (gd := none) (.pointer (some ⟨b, 0, none⟩)) (by rfl) (fun o ho => wanted_plain ho _) (by kernel_rfl) (by kernel_rfl) (by kernel_rfl) (fun _ _ _ h => h) (fun o ho W hW => by unfold execOp; simp only [ho]; go_simp) HS.out ?_
  simp only [Act.put, List.setIfInBounds_toArray, List.set_cons_zero, List.set_cons_succ]
  refine anyH_pureG 6 (d := 48) (op := .move (.tmp 7)) (gd := none) (.pointer (some ⟨b, 0, none⟩)) (by rfl) (fun o ho => wanted_plain ho _) (by kernel_rfl) (by kernel_rfl) (by kernel_rfl) (fun _ _ _ h => h) (fun o ho W hW => by unfold execOp; simp only [ho]; go_simp) HS.out ?_
  simp only [Act.put, List.setIfInBounds_toArray, List.set_cons_zero, List.set_cons_succ]
  refine anyH_pureG 7 (d := 49) (op := .nilCheck (.tmp 48)) (gd := none) (.pointer (some ⟨b, 0, none⟩)) (by rfl) (fun o ho => wanted_plain ho _) (by kernel_rfl) (by kernel_rfl) (by kernel_rfl) (fun _ _ _ h => h) (fun o ho W hW => by unfold execOp; simp only [ho]; go_simp) HS.out ?_
  simp only [Act.put, List.setIfInBounds_toArray, List.set_cons_zero, List.set_cons_succ]
  refine anyH_pureG 8 (d := 50) (op := .fieldAddr 122 (.tmp 49) 1) (gd := none) (.pointer (some ⟨b, 1, none⟩)) (by rfl) (fun o ho => wanted_plain ho _) (by kernel_rfl) (by kernel_rfl) (by kernel_rfl) (fun _ _ _ h => h) (fun o ho W hW => by unfold execOp; simp only [ho]; go_simp) HS.out ?_
  simp only [Act.put, List.setIfInBounds_toArray, List.set_cons_zero, List.set_cons_succ]
  refine anyH_loadG 9 (d := 51) (ty := 41) (x := (.tmp 50)) (gd := none) (p := .pointer (some ⟨b, 1, none⟩)) (.slice ra f.zs.length rc) (by rfl) (fun o ho => wanted_plain ho _) (by kernel_rfl) (by kernel_rfl) (by kernel_rfl) (fun _ _ _ h => h) (by rfl) HL1.out HS.out ?_
  simp only [Act.put, List.setIfInBounds_toArray, List.set_cons_zero, List.set_cons_succ]
  refine anyH_pureG 10 (d := 52) (op := .call { callee := .builtin .len, args := #[(.tmp 51)], argTypes := #[41] }) (gd := none) (.int .i64 (f.zs.length : Int)) (by rfl) (fun o ho => wanted_plain ho _) (by kernel_rfl) (by kernel_rfl) (by kernel_rfl) (fun _ _ _ h => h) (fun o ho W hW => by unfold execOp; simp only [ho]; go_simp) HS.out ?_
  simp only [Act.put, List.setIfInBounds_toArray, List.set_cons_zero, List.set_cons_succ]
  refine anyH_pureG 11 (d := 53) (op := .build 126 #[(0, (.const (.int .i64 1))), (1, (.tmp 47)), (2, (.tmp 52))]) (gd := none) (.agg #[.int .i64 1, .pointer (some ⟨b, 0, none⟩), .int .i64 (f.zs.length : Int), .string ⟨#[]⟩, .pointer none]) (by rfl) (fun o ho => wanted_plain ho _) (by kernel_rfl) (by kernel_rfl) (by kernel_rfl) (fun _ _ _ h => h) (fun o ho W hW => by unfold execOp; simp only [ho]; go_simp) HS.out ?_
  simp only [Act.put, List.setIfInBounds_toArray, List.set_cons_zero, List.set_cons_succ]
  refine wpAnyH_all (rs := [4, 12]) (by kernel_rfl) (by simp) ?_
  intro k hk
  simp only [List.mem_cons, List.not_mem_nil, or_false] at hk
  rcases hk with rfl | rfl
  · refine op_atJ 4 (d := some 46) (op := .load 51 (.tmp 45)) (by rfl) ?_
    intro o4 hod4 hoo4
    refine wp_load_g 51 (.tmp 45) hoo4 (.pointer (some ⟨d, 3, none⟩)) (.slice la ln lc) (by rfl) (run_cell_chgs _ ⟨d, 3, none⟩ _ _ _ (HK3.out.cells.2.2.2.1.trans (congrArg some HLV.out))) ?_
    rw [hod4]
    clear hod4 hoo4
    simp only [Act.put, List.setIfInBounds_toArray, List.set_cons_zero, List.set_cons_succ]
    refine ⟨HS.out, ?_⟩
    refine wpAnyH_all (rs := [12]) (by kernel_rfl) (by simp) ?_
    intro k hk; simp only [List.mem_cons, List.not_mem_nil, or_false] at hk; subst hk
    refine op_atJ 12 (d := some 54) (op := .buildSlice 51 1 #[(0, (.tmp 53))]) (by rfl) ?_
    intro o5 hod5 hoo5
    refine wp_bsC (.tmp 53) hoo5 1 b (f.zs.length : Int) (by rfl) ?_
    rw [hod5]
    clear hod5 hoo5
    simp only [Act.put, List.setIfInBounds_toArray, List.set_cons_zero, List.set_cons_succ]
    refine ⟨(((HK3.out.alloc (.cells #[.int .i64 1, .pointer (some ⟨b, 0, none⟩), .int .i64 (f.zs.length : Int), .string ⟨#[]⟩, .pointer none] 126)).rest.fcells HFL.out).2.trans (congrArg some HROW.out)), ?_⟩
    clear HS
    refine wpAnyH_all (rs := [13]) (by kernel_rfl) (by simp) ?_
    intro k hk; simp only [List.mem_cons, List.not_mem_nil, or_false] at hk; subst hk
    refine op_atJ 13 (d := some 55) (op := .call { callee := .builtin .append, args := #[(.tmp 46), (.tmp 54)], argTypes := #[51, 51] }) (by rfl) ?_
    intro o6 hod6 hoo6
    refine wp_pushC (.tmp 46) (.tmp 54) hoo6 B d S1 ⟨1, b, (f.zs.length : Int), ⟨#[]⟩, none⟩ HK3.out HLV.out.symm (by rfl) HLL.out HC.out ?_
    intro va vn vc w7 c7 f7 hk7 hm7
    have HK7 := Lib.hid hk7
    have HM7 := Lib.hid (HM3.out.trans hm7)
    have HT7 := Lib.hid (show w7.there d 3 1 from fun j hj => by
      obtain rfl : j = 0 := by omega
      exact ⟨by rw [Nat.add_zero, c7]; rfl, f7⟩)
    have HS := Lib.hid (show World.cell? w7 ⟨b, 1, none⟩ = some (.slice ra f.zs.length rc) from by
      have h1 := (HK7.out.rest.fcells (b := b) (f := f) HFL.out).2.trans (congrArg some HROW.out)
      rw [World.cell?_setCell_other _ _ _ _ (by intro e; cases e)] at h1
      exact h1)
    rw [hod6]
    clear hod6 hoo6 hk7 hm7 c7 f7
    simp only [Act.put, List.setIfInBounds_toArray, List.set_cons_zero, List.set_cons_succ]
    refine ⟨HS.out, ?_⟩
    refine anyH_pureG 14 (d := 56) (op := .nilCheck (.tmp 42)) (gd := none) (.pointer (some ⟨d, 0, none⟩)) (by rfl) (fun o ho => wanted_plain ho _) (by kernel_rfl) (by kernel_rfl) (by kernel_rfl) (fun _ _ _ h => h) (fun o ho W hW => by unfold execOp; simp only [ho]; go_simp) HS.out ?_
    simp only [Act.put, List.setIfInBounds_toArray, List.set_cons_zero, List.set_cons_succ]
    refine anyH_pureG 15 (d := 57) (op := .fieldAddr 53 (.tmp 56) 3) (gd := none) (.pointer (some ⟨d, 3, none⟩)) (by rfl) (fun o ho => wanted_plain ho _) (by kernel_rfl) (by kernel_rfl) (by kernel_rfl) (fun _ _ _ h => h) (fun o ho W hW => by unfold execOp; simp only [ho]; go_simp) HS.out ?_
    simp only [Act.put, List.setIfInBounds_toArray, List.set_cons_zero, List.set_cons_succ]
    refine wpAnyH_all (rs := [16]) (by kernel_rfl) (by simp) ?_
    intro k hk; simp only [List.mem_cons, List.not_mem_nil, or_false] at hk; subst hk
    refine op_atJ 16 (d := none) (op := .store 51 (.tmp 57) (.tmp 55)) (by rfl) ?_
    intro o7 hod7 hoo7
    refine wp_store_one 51 (.tmp 57) (.tmp 55) hoo7 d 3 (.slice va vn vc) (by rfl) (by rfl) HT7.out (by kernel_rfl) (by rfl) (by rfl) ?_
    rw [hod7]
    clear hod7 hoo7
    simp only [Act.put, List.setIfInBounds_toArray, List.set_cons_zero, List.set_cons_succ]
    refine ⟨(HK7.out.rest.fcells (b := b) (f := f) HFL.out).2.trans (congrArg some HROW.out), ?_⟩
    refine wpAnyH_done (by kernel_rfl) ?_ _
    clear HS HT7 HL1
    obtain ⟨S7, hS7⟩ : ∃ S7, S7 = S1.more (.slice va vn vc) ⟨1, b, (f.zs.length : Int), ⟨#[]⟩, none⟩ := ⟨_, rfl⟩
    have HF7 := Lib.hid (show S7.fl b = some f from by rw [hS7]; exact HFL.out)
    have HN7 := Lib.hid (HRN.out.mov HM7.out)
    rw [← hS7] at HK7 HM7 HN7
    have HE7 := Lib.hid hS7
    obtain ⟨w8, hw8⟩ : ∃ w8, w8 = w7.setCells d 3 [.slice va vn vc] := ⟨_, rfl⟩
    have HK8 := Lib.hid (show DK B d S7 w8 from by rw [hw8]; exact HK7.out)
    have HM8 := Lib.hid (show Mov S d S7 _ w8 from by rw [hw8]; exact HM7.out)
    have HN8 := Lib.hid (show RdN S7 d w8 pa n c ps from by rw [hw8]; exact HN7.out)
    rw [← hw8]
    have c1 := (HK8.out.rest.fcells HF7.out).2.trans (congrArg some HROW.out)
    clear hw8 hS7 HK7 HM7 HN7 HC
    go_wp2_with (at_builtin; refine wpList_growF rfl (.tmp 62) (.tmp 63) rfl B d b S7 f HK8.out HF7.out HROW.out.symm pa n c ps (by rfl) HN8.out (by have := HFZ.out; omega) ?_; intro va2 vn2 vc2 w9 c9 f9 hk9 hm9; have HK9 := Lib.hid hk9; have HM9 := Lib.hid (HM8.out.trans hm9); have c2 := hk9.cells.2.2.1; have f2 := frozen_of_row _ d 2 _ _ hk9.hd; clear hk9 hm9 c1)
    go_ret
    obtain ⟨h8, h9, _⟩ := HK9.out.cellSet 2 (.int .i64 (wrap64 (S7.used + (n : Int)))) { (S7.grow b f (.slice va2 vn2 vc2) ps) with used := wrap64 (S7.used + (n : Int)) } rfl (by omega) rfl ⟨rfl, rfl, rfl⟩
    have he : { (S7.grow b f (.slice va2 vn2 vc2) ps) with used := wrap64 (S7.used + (n : Int)) } = S.step.1.laid b f (.slice va vn vc) (.slice va2 vn2 vc2) ps := by
      rw [HE7.out, ← HPL.out, HS1.out]
      rfl
    rw [he] at h8 h9
    exact ⟨rfl, _, _, h8, HM9.out.trans h9⟩
  · refine op_atJ 12 (d := some 54) (op := .buildSlice 51 1 #[(0, (.tmp 53))]) (by rfl) ?_
    intro o5 hod5 hoo5
    refine wp_bsC (.tmp 53) hoo5 1 b (f.zs.length : Int) (by rfl) ?_
    rw [hod5]
    clear hod5 hoo5
    simp only [Act.put, List.setIfInBounds_toArray, List.set_cons_zero, List.set_cons_succ]
    refine ⟨(((HK3.out.alloc (.cells #[.int .i64 1, .pointer (some ⟨b, 0, none⟩), .int .i64 (f.zs.length : Int), .string ⟨#[]⟩, .pointer none] 126)).rest.fcells HFL.out).2.trans (congrArg some HROW.out)), ?_⟩
    refine wpAnyH_all (rs := [4]) (by kernel_rfl) (by simp) ?_
    intro k hk; simp only [List.mem_cons, List.not_mem_nil, or_false] at hk; subst hk
    refine op_atJ 4 (d := some 46) (op := .load 51 (.tmp 45)) (by rfl) ?_
    intro o4 hod4 hoo4
    refine wp_load_g 51 (.tmp 45) hoo4 (.pointer (some ⟨d, 3, none⟩)) (.slice la ln lc) (by rfl) (run_cell_chgs _ ⟨d, 3, none⟩ _ _ _ ((HK3.out.alloc (.cells #[.int .i64 1, .pointer (some ⟨b, 0, none⟩), .int .i64 (f.zs.length : Int), .string ⟨#[]⟩, .pointer none] 126)).cells.2.2.2.1.trans (congrArg some HLV.out))) ?_
    rw [hod4]
    clear hod4 hoo4
    simp only [Act.put, List.setIfInBounds_toArray, List.set_cons_zero, List.set_cons_succ]
    refine ⟨(((HK3.out.alloc (.cells #[.int .i64 1, .pointer (some ⟨b, 0, none⟩), .int .i64 (f.zs.length : Int), .string ⟨#[]⟩, .pointer none] 126)).rest.fcells HFL.out).2.trans (congrArg some HROW.out)), ?_⟩
    clear HS
    refine wpAnyH_all (rs := [13]) (by kernel_rfl) (by simp) ?_
    intro k hk; simp only [List.mem_cons, List.not_mem_nil, or_false] at hk; subst hk
    refine op_atJ 13 (d := some 55) (op := .call { callee := .builtin .append, args := #[(.tmp 46), (.tmp 54)], argTypes := #[51, 51] }) (by rfl) ?_
    intro o6 hod6 hoo6
    refine wp_pushC (.tmp 46) (.tmp 54) hoo6 B d S1 ⟨1, b, (f.zs.length : Int), ⟨#[]⟩, none⟩ HK3.out HLV.out.symm (by rfl) HLL.out HC.out ?_
    intro va vn vc w7 c7 f7 hk7 hm7
    have HK7 := Lib.hid hk7
    have HM7 := Lib.hid (HM3.out.trans hm7)
    have HT7 := Lib.hid (show w7.there d 3 1 from fun j hj => by
      obtain rfl : j = 0 := by omega
      exact ⟨by rw [Nat.add_zero, c7]; rfl, f7⟩)
    have HS := Lib.hid (show World.cell? w7 ⟨b, 1, none⟩ = some (.slice ra f.zs.length rc) from by
      have h1 := (HK7.out.rest.fcells (b := b) (f := f) HFL.out).2.trans (congrArg some HROW.out)
      rw [World.cell?_setCell_other _ _ _ _ (by intro e; cases e)] at h1
      exact h1)
    rw [hod6]
    clear hod6 hoo6 hk7 hm7 c7 f7
    simp only [Act.put, List.setIfInBounds_toArray, List.set_cons_zero, List.set_cons_succ]
    refine ⟨HS.out, ?_⟩
    refine anyH_pureG 14 (d := 56) (op := .nilCheck (.tmp 42)) (gd := none) (.pointer (some ⟨d, 0, none⟩)) (by rfl) (fun o ho => wanted_plain ho _) (by kernel_rfl) (by kernel_rfl) (by kernel_rfl) (fun _ _ _ h => h) (fun o ho W hW => by unfold execOp; simp only [ho]; go_simp) HS.out ?_
    simp only [Act.put, List.setIfInBounds_toArray, List.set_cons_zero, List.set_cons_succ]
    refine anyH_pureG 15 (d := 57) (op := .fieldAddr 53 (.tmp 56) 3) (gd := none) (.pointer (some ⟨d, 3, none⟩)) (by rfl) (fun o ho => wanted_plain ho _) (by kernel_rfl) (by kernel_rfl) (by kernel_rfl) (fun _ _ _ h => h) (fun o ho W hW => by unfold execOp; simp only [ho]; go_simp) HS.out ?_
    simp only [Act.put, List.setIfInBounds_toArray, List.set_cons_zero, List.set_cons_succ]
    refine wpAnyH_all (rs := [16]) (by kernel_rfl) (by simp) ?_
    intro k hk; simp only [List.mem_cons, List.not_mem_nil, or_false] at hk; subst hk
    refine op_atJ 16 (d := none) (op := .store 51 (.tmp 57) (.tmp 55)) (by rfl) ?_
    intro o7 hod7 hoo7
    refine wp_store_one 51 (.tmp 57) (.tmp 55) hoo7 d 3 (.slice va vn vc) (by rfl) (by rfl) HT7.out (by kernel_rfl) (by rfl) (by rfl) ?_
    rw [hod7]
    clear hod7 hoo7
    simp only [Act.put, List.setIfInBounds_toArray, List.set_cons_zero, List.set_cons_succ]
    refine ⟨(HK7.out.rest.fcells (b := b) (f := f) HFL.out).2.trans (congrArg some HROW.out), ?_⟩
    refine wpAnyH_done (by kernel_rfl) ?_ _
    clear HS HT7 HL1
    obtain ⟨S7, hS7⟩ : ∃ S7, S7 = S1.more (.slice va vn vc) ⟨1, b, (f.zs.length : Int), ⟨#[]⟩, none⟩ := ⟨_, rfl⟩
    have HF7 := Lib.hid (show S7.fl b = some f from by rw [hS7]; exact HFL.out)
    have HN7 := Lib.hid (HRN.out.mov HM7.out)
    rw [← hS7] at HK7 HM7 HN7
    have HE7 := Lib.hid hS7
    obtain ⟨w8, hw8⟩ : ∃ w8, w8 = w7.setCells d 3 [.slice va vn vc] := ⟨_, rfl⟩
    have HK8 := Lib.hid (show DK B d S7 w8 from by rw [hw8]; exact HK7.out)
    have HM8 := Lib.hid (show Mov S d S7 _ w8 from by rw [hw8]; exact HM7.out)
    have HN8 := Lib.hid (show RdN S7 d w8 pa n c ps from by rw [hw8]; exact HN7.out)
    rw [← hw8]
    have c1 := (HK8.out.rest.fcells HF7.out).2.trans (congrArg some HROW.out)
    clear hw8 hS7 HK7 HM7 HN7 HC
    go_wp2_with (at_builtin; refine wpList_growF rfl (.tmp 62) (.tmp 63) rfl B d b S7 f HK8.out HF7.out HROW.out.symm pa n c ps (by rfl) HN8.out (by have := HFZ.out; omega) ?_; intro va2 vn2 vc2 w9 c9 f9 hk9 hm9; have HK9 := Lib.hid hk9; have HM9 := Lib.hid (HM8.out.trans hm9); have c2 := hk9.cells.2.2.1; have f2 := frozen_of_row _ d 2 _ _ hk9.hd; clear hk9 hm9 c1)
    go_ret
    obtain ⟨h8, h9, _⟩ := HK9.out.cellSet 2 (.int .i64 (wrap64 (S7.used + (n : Int)))) { (S7.grow b f (.slice va2 vn2 vc2) ps) with used := wrap64 (S7.used + (n : Int)) } rfl (by omega) rfl ⟨rfl, rfl, rfl⟩
    have he : { (S7.grow b f (.slice va2 vn2 vc2) ps) with used := wrap64 (S7.used + (n : Int)) } = S.step.1.laid b f (.slice va vn vc) (.slice va2 vn2 vc2) ps := by
      rw [HE7.out, ← HPL.out, HS1.out]
      rfl
    rw [he] at h8 h9
    exact ⟨rfl, _, _, h8, HM9.out.trans h9⟩
end Go.Proofs.Ytihbgigledmliaa
