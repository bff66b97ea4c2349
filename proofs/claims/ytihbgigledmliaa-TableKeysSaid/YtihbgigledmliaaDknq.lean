/-
  A disk in memory: Rename. A disk in memory: undo of what was created, removed, renamed. A disk in memory and the document's files: what each kind of write does to them. A disk in memory is the document's: Create, Append, Remove, Rename, Sync.
-/
import Derived.Test.YtihbgigledmliaaDkrv
import Derived.Test.YtihbgigledmliaaDmab
namespace Go.Proofs.Ytihbgigledmliaa
open Go.RowKit Go.Maps
set_option linter.unusedVariables false
theorem DK.nameSet {B d b : Nat} {S : Dsk} {f : Fil} {w : World} (h : DK B d S w) (hf : S.fl b = some f) (hno : ∀ x, S.at x ≠ some b) (t : ByteArray) :
    (w.cell? ⟨b, 0, none⟩ = some (.string f.nm) ∧ w.frozen? ⟨b, 0, none⟩ = false) ∧ DK B d (S.file b ⟨t, f.row, f.zs⟩) (w.setCell ⟨b, 0, none⟩ (.string t)) ∧ Mov S d (S.file b ⟨t, f.row, f.zs⟩) w (w.setCell ⟨b, 0, none⟩ (.string t)) := by
  obtain ⟨hfB, hfh, hfr, hfz⟩ := h.rest.hf b f hf
  have ho : ∀ k, k ≠ b → (w.setCell ⟨b, 0, none⟩ (.string t)).heap[k]? = w.heap[k]? := fun k hk => Below.heap_setCell w ⟨b, 0, none⟩ _ k hk
  have nb : ∀ k o, w.heap[k]? = some o → (∀ C fr, o ≠ Obj.cells C 122 fr) → k ≠ b := fun k o hh ht e => by
    subst e
    rw [hfh] at hh
    exact ht _ _ (Option.some.inj hh).symm
  have fct : ∀ (C : Array Value) (t : TypeId) (fr : Nat × Nat), t ≠ 122 → ∀ C' fr', (Obj.cells C t fr) ≠ .cells C' 122 fr' := fun C t fr ht C' fr' e => ht (by cases e; rfl)
  have all : ∀ k o, w.heap[k]? = some o → (∀ C fr, o ≠ Obj.cells C 122 fr) → (w.setCell ⟨b, 0, none⟩ (.string t)).heap[k]? = w.heap[k]? := fun k o hh h1 => ho k (nb k o hh h1)
  have fl : ∀ c g, (S.file b ⟨t, f.row, f.zs⟩).fl c = some g → (c = b ∧ g = ⟨t, f.row, f.zs⟩) ∨ (c ≠ b ∧ S.fl c = some g) := fun c g hc => by
    have hc' : (if c = b then some (⟨t, f.row, f.zs⟩ : Fil) else S.fl c) = some g := hc
    split at hc'
    · rename_i e; cases hc'; exact .inl ⟨e, rfl⟩
    · rename_i e; exact .inr ⟨e, hc'⟩
  have up : ∀ c g, S.fl c = some g → ∃ g', (S.file b ⟨t, f.row, f.zs⟩).fl c = some g' := fun c g hc => by
    by_cases e : c = b
    · exact ⟨⟨t, f.row, f.zs⟩, by show (if _ then _ else _) = _; rw [if_pos e]⟩
    · exact ⟨g, by show (if _ then _ else _) = _; rw [if_neg e]; exact hc⟩
  refine ⟨⟨(cell_of_row w b 0 _ _ _ hfh).trans rfl, frozen_of_row w b 0 _ _ hfh⟩, ⟨h.base, ?_, ⟨?_, fun c g hc => ?_, fun c c' g g' k hc hc' hk hk' => ?_, fun x => ?_, ?_, fun c hc => ?_⟩⟩, rfl, rfl, rfl, ?_, fun k hk hn => ?_, fun k hk => ?_⟩
  · exact (all d _ h.hd (fct _ _ _ (by decide))).trans h.hd
  · rcases h.rest.hm with h0 | ⟨m, h1, h2, h3⟩
    · exact .inl h0
    · obtain ⟨es, cl, hh⟩ := map_block h3
      exact .inr ⟨m, h1, h2, map_keep h3 (all m _ hh (fun C fr e => by cases e))⟩
  · rcases fl c g hc with ⟨rfl, rfl⟩ | ⟨hne, hc⟩
    · refine ⟨hfB, row_set hfh (.string t) (o := 0) (by show 0 < 2; omega), row_keep hfr fun k hk => ?_, hfz⟩
      obtain ⟨_, cur, hh⟩ := row_block hfr hk
      exact all k _ hh (fct _ _ _ (by decide))
    · obtain ⟨h1, h2, h3, h4⟩ := h.rest.hf c g hc
      refine ⟨h1, (ho c hne).trans h2, row_keep h3 fun k hk => ?_, h4⟩
      obtain ⟨_, cur, hh⟩ := row_block h3 hk
      exact all k _ hh (fct _ _ _ (by decide))
  · have un : ∀ c g, (S.file b ⟨t, f.row, f.zs⟩).fl c = some g → ∃ g0, S.fl c = some g0 ∧ g0.row = g.row := fun c g hc => by
      rcases fl c g hc with ⟨e1, e2⟩ | ⟨_, hc⟩
      · rw [e1, e2]; exact ⟨f, hf, rfl⟩
      · exact ⟨g, hc, rfl⟩
    obtain ⟨g0, k0, k1⟩ := un c g hc
    obtain ⟨g1, k2, k3⟩ := un c' g' hc'
    exact h.rest.ha c c' g0 g1 k k0 k2 (by rw [k1]; exact hk) (by rw [k3]; exact hk')
  · rcases h.rest.hr x with h0 | ⟨c, g, h1, h2, h3⟩
    · exact .inl h0
    · have hx : S.at x = some c := by unfold Dsk.at; rw [h1]; simp
      have hcb : c ≠ b := fun e => hno x (by rw [hx, e])
      exact .inr ⟨c, g, h1, by show (if _ then _ else _) = _; rw [if_neg hcb]; exact h2, h3⟩
  · refine row_keep h.rest.hl fun k hk => ?_
    obtain ⟨_, cur, hh⟩ := row_block h.rest.hl hk
    exact all k _ hh (fct _ _ _ (by decide))
  · obtain ⟨⟨g, h1⟩, h2⟩ := h.rest.hc c hc
    exact ⟨up _ g h1, fun b' hb' => by obtain ⟨g2, h3⟩ := h2 b' hb'; exact up _ g2 h3⟩
  · show w.heap.size ≤ (w.setCell ⟨b, 0, none⟩ (.string t)).heap.size
    simp [World.setCell]
  · exact ho k fun e => hn (.inr (.inr (.inl ⟨f, by rw [e]; exact hf⟩)))
  · rcases hk with hk | hk | ⟨g, hk⟩ | ⟨c, g, hc, hk⟩ | hk
    · exact .inl (.inl hk)
    · exact .inl (.inr (.inl hk))
    · rcases fl k g hk with ⟨rfl, rfl⟩ | ⟨_, hk⟩
      · exact .inl (.inr (.inr (.inl ⟨f, hf⟩)))
      · exact .inl (.inr (.inr (.inl ⟨g, hk⟩)))
    · rcases fl c g hc with ⟨rfl, rfl⟩ | ⟨_, hc⟩
      · exact .inl (.inr (.inr (.inr (.inl ⟨c, f, hf, hk⟩))))
      · exact .inl (.inr (.inr (.inr (.inl ⟨c, g, hc, hk⟩))))
    · exact .inl (.inr (.inr (.inr (.inr hk))))
theorem run_cellsX (W : World) (X : Nat) (k1 : Int) (b : Nat) (n : Int) (nm : ByteArray) (p : Option Addr) (h : W.cell? ⟨X, 0, none⟩ = some (.int .i64 k1) ∧ W.cell? ⟨X, 1, none⟩ = some (.pointer (some ⟨b, 0, none⟩)) ∧ W.cell? ⟨X, 2, none⟩ = some (.int .i64 n) ∧ W.cell? ⟨X, 3, none⟩ = some (.string nm) ∧ W.cell? ⟨X, 4, none⟩ = some (.pointer p)) :
    (Instr.loadAt 126 (.pointer (some ⟨X, 0, none⟩))).run Try.prog W = .ok (.agg #[.int .i64 k1, .pointer (some ⟨b, 0, none⟩), .int .i64 n, .string nm, .pointer p]) W := by
  obtain ⟨h0, h1, h2, h3, h4⟩ := h
  go_simp
theorem wp_bsG {w : World} {op : Oper} {a : Act} {K : Act → World → Prop} {Q : Exit → Act → World → Prop} (x : Operand) (ho : op.op = .buildSlice 51 1 #[(0, x)]) (k1 : Int) (b : Nat) (n : Int) (nm : ByteArray) (p : Option Addr) (hx : a.eval x = .agg #[.int .i64 k1, .pointer (some ⟨b, 0, none⟩), .int .i64 n, .string nm, .pointer p])
    (k : K (a.put op.dst (.slice (some ⟨w.heap.size, 0, none⟩) 1 1)) (w.alloc (.cells #[.int .i64 k1, .pointer (some ⟨b, 0, none⟩), .int .i64 n, .string nm, .pointer p] 126))) : op.wp Try.prog a w K Q := by
  unfold Oper.wp execOp
  simp only [ho, List.map_toArray, List.map_cons, List.map_nil, hx]
  go_simp
  exact k
/-- what Rename leaves, S0 being what it is behind the drops -/
def Dsk.named (S0 : Dsk) (f : Fil) (b : Nat) (t : ByteArray) (m : Nat) (v : Value) (rp : Option Nat) : Dsk := ((S0.file b ⟨t, f.row, f.zs⟩).put m b ⟨t, f.row, f.zs⟩).more v ⟨3, b, 0, f.nm, rp⟩
theorem DK.keepX {B d X : Nat} {S : Dsk} {w w' : World} (h : DK B d S w) (hX : ¬ S.own d X) (ho : ∀ k, k ≠ X → w'.heap[k]? = w.heap[k]?) : DK B d S w' := h.keep fun k hk => ho k fun e => hX (by rw [← e]; exact hk)
theorem Mov.keepX {S : Dsk} {d X : Nat} {w : World} (o : Nat) (v : Value) (S0 : Dsk) (w0 : World) (hm : Mov S0 d S w0 w) (hX : w0.heap.size ≤ X) : Mov S0 d S w0 (w.setCell ⟨X, o, none⟩ v) :=
  ⟨hm.os, hm.tape, hm.output, by show w0.heap.size ≤ (w.setCell ⟨X, o, none⟩ v).heap.size; simp only [World.setCell, Array.size_modify]; exact hm.size, fun k hk hn => (Below.heap_setCell w ⟨X, o, none⟩ v k (by show k ≠ X; omega)).trans (hm.block k hk hn), hm.own⟩
set_option maxRecDepth 100000 in
set_option maxHeartbeats 8000000 in
theorem drename_ok {B d b : Nat} {S : Dsk} {f : Fil} {w : World} (h : DK B d S w) (s t : ByteArray) (hs : s.size ≤ maxLen) (ht : t.size ≤ maxLen) (hd : S.down = false) (ha : S.at s = some b) (hfl : S.fl b = some f) (hn : isNm t = true) (hf : S.fuse ≠ 0) (hn1 : S.n < 1000000000) (hl : S.loose.length < 1000000000) (hr : (S.drop f).at t = none) :
    Calls Try.prog 80 #[.pointer (some ⟨d, 0, none⟩), .string s, .string t] w fun e w' => e = .returned (.int .i64 0) ∧ ∃ m v, DK B d ((S.step.1.drop f).named f b t m v none) w' ∧ Mov S d ((S.step.1.drop f).named f b t m v none) w w' := by
  have hfs : f.nm = s := by
    obtain ⟨g, h1, h2⟩ := h.rest.at ha
    rw [hfl] at h1
    cases h1
    exact h2
  have ht2 : t.size ≤ 160 := by
    unfold isNm at hn
    simp only [Bool.and_eq_true, decide_eq_true_eq] at hn
    exact hn.2
  have hst : S.step.2 = 0 ∧ S.step.1.n = S.n ∧ S.step.1.fl = S.fl ∧ S.step.1.loose = S.loose ∧ S.step.1.D = S.D := by
    unfold Dsk.step
    rw [if_neg hf]
    split <;> exact ⟨rfl, rfl, rfl, rfl, rfl⟩
  have hat : ∀ x, S.step.1.at x = S.at x := fun x => by unfold Dsk.at; rw [hst.2.2.2.2]
  have hat2 : ∀ x, (S.step.1.drop f).at x = (S.drop f).at x := fun x => by rw [at_drop, at_drop, hat]
  have HST := Lib.hid (dstep_c h)
  rw [hst.1] at HST
  have HE := Lib.hid hst.2
  have HF := Lib.hid (dfind_c h s hs)
  rw [show S.find s = (some b, 0) from by unfold Dsk.find; rw [hd, ha]; rfl] at HF
  simp only [ptrOf, Option.map_some] at HF
  have HI := Lib.hid (isname_c t w ht)
  rw [show (decide (1 ≤ t.size) && decide (t.size ≤ 160)) = true from hn] at HI
  have HNS := Lib.hid (show f.nm.size ≤ maxLen by rw [hfs]; exact hs)
  have HFL := Lib.hid (show S.step.1.fl b = some f by rw [hst.2.2.1]; exact hfl)
  have HR := Lib.hid (show (S.step.1.drop f).at t = none by rw [hat2]; exact hr)
  have HNO := Lib.hid (show ∀ x, (S.step.1.drop f).at x ≠ some b from fun x hx => by
    rw [hat2, at_drop] at hx
    split at hx
    · cases hx
    · rename_i e
      obtain ⟨g', h1, h2⟩ := h.rest.at hx
      rw [hfl] at h1
      cases h1
      exact e h2.symm)
  clear h hst ha hfs hat hat2 hr  hfl hn hf
  go_enter Try.func80, Try.ntmps80
  go_wp2_with fail
  refine HF.out.mono ?_
  rintro e1 w1 ⟨rfl, rfl⟩
  go_wp2_with fail
  refine HI.out.mono ?_
  rintro e2 w2 ⟨rfl, rfl⟩
  go_wp2_with fail
  refine HST.out.mono ?_
  rintro e3 w3 ⟨rfl, hk3, hm3⟩
  have n3 := (hk3.rest.fcells HFL.out).1
  obtain ⟨X, hX⟩ : ∃ X, X = w3.heap.size := ⟨_, rfl⟩
  obtain ⟨w4, hw4⟩ : ∃ w4, w4 = w3.alloc (.cells #[.int .i64 3, .pointer (some ⟨b, 0, none⟩), .int .i64 0, .string f.nm, .pointer none] 126) := ⟨_, rfl⟩
  have hx4 : w4.heap[X]? = some (.cells #[.int .i64 3, .pointer (some ⟨b, 0, none⟩), .int .i64 0, .string f.nm, .pointer none] 126 (0, 0)) := by rw [hw4, hX]; exact heap_alloc_new w3 _
  have hk4 : DK B d S.step.1 w4 := by rw [hw4]; exact hk3.alloc _
  have hm4 : Mov S d S.step.1 w2 w4 := by rw [hw4]; exact hm3.trans (Mov.ofBelow ((Below.refl _ _).alloc (Nat.le_refl _) _))
  have hX1 : w2.heap.size ≤ X := by rw [hX]; exact hm3.size
  have hXn : ¬ S.step.1.own d X := fun ho => by have := (hk3.ownLt ho).2; omega
  have hXs : X < w4.heap.size := (Array.getElem?_eq_some_iff.1 hx4).1
  have HX1 := Lib.hid hX1
  have HD := Lib.hid (ddrop_c hk4 (b := b) (f := f) HFL.out HNS.out)
  have HX4 := Lib.hid hx4
  have HM4 := Lib.hid hm4
  have HXN := Lib.hid hXn
  have HXS := Lib.hid hXs
  clear HF HI HST hk3 hm3 hx4 hk4 hm4 hX1 hXn hXs
  go_wp2_with fail
  rw [← hX]
  rw [← hw4]
  refine HD.out.mono ?_
  rintro e5 w5 ⟨rfl, hk5, hm5⟩
  have hx5 := (hm5.block X HXS.out HXN.out).trans HX4.out
  have c1 := hk5.cells.2.1
  have hlk := hk5.rest.look ht
  rw [HR.out] at hlk
  simp only [ptrOf, Option.map_none] at hlk
  have x4 := (cell_of_row w5 X 4 _ _ _ hx5).trans rfl
  have z4 := frozen_of_row w5 X 4 _ _ hx5
  have hm5' := HM4.out.trans hm5
  have HXN5 := Lib.hid (hm5.own0 HXS.out HXN.out)
  have HXS5 := Lib.hid (show X < w5.heap.size from (Array.getElem?_eq_some_iff.1 hx5).1)
  obtain ⟨w6, hw6⟩ : ∃ w6, w6 = w5.setCell ⟨X, 4, none⟩ (.pointer none) := ⟨_, rfl⟩
  have hk6 : DK B d (S.step.1.drop f) w6 := by rw [hw6]; exact hk5.keepX HXN5.out fun k hk => Below.heap_setCell w5 ⟨X, 4, none⟩ _ k hk
  have hm6 : Mov S d (S.step.1.drop f) w2 w6 := by rw [hw6]; exact hm5'.keepX 4 _ _ _ HX1.out
  have hx6 : w6.heap[X]? = some (.cells #[.int .i64 3, .pointer (some ⟨b, 0, none⟩), .int .i64 0, .string f.nm, .pointer none] 126 (0, 0)) := by rw [hw6]; exact row_set hx5 _ (o := 4) (by show 4 < 5; omega)
  have HK6 := Lib.hid hk6
  have HM6 := Lib.hid hm6
  have HX6 := Lib.hid hx6
  clear hk5 hm5 hx5 hm5' hk6 hm6 hx6 HX4 HXN HM4 hX hw4 n3 HD HXS
  go_wp2_with fail
  rw [← hw6]
  clear hw6 hlk c1 x4 z4
  refine (clone_c t w6 ht ht2).mono ?_
  rintro e7 w7 ⟨rfl, hb7⟩
  have hk7 := HK6.out.below hb7
  obtain ⟨⟨nc, nz⟩, hk8, hm8⟩ := hk7.nameSet (b := b) (f := f) HFL.out HNO.out t
  have hx7 := (hb7.block X (Array.getElem?_eq_some_iff.1 HX6.out).1).trans HX6.out
  have hXb : X ≠ b := fun e => HXN5.out (.inr (.inr (.inl ⟨f, by rw [e]; exact HFL.out⟩)))
  have HX8 := Lib.hid ((Below.heap_setCell w7 ⟨b, 0, none⟩ (.string t) X hXb).trans hx7)
  have HM8 := Lib.hid ((HM6.out.trans (Mov.ofBelow hb7)).trans hm8)
  have HXN8 := Lib.hid (show ¬ ((S.step.1.drop f).file b ⟨t, f.row, f.zs⟩).own d X from fun ho => by
    rcases hm8.own X ho with h1 | h1
    · exact HXN5.out h1
    · have := (Array.getElem?_eq_some_iff.1 hx7).1
      omega)
  have hn8 : ((S.step.1.drop f).file b ⟨t, f.row, f.zs⟩).n < maxLen := by
    show S.step.1.n < maxLen
    rw [HE.out.1]
    unfold maxLen
    omega
  have HP := Lib.hid (dput_c hk8 (b := b) (f := ⟨t, f.row, f.zs⟩) (by show (if _ then _ else _) = _; rw [if_pos rfl]) ht hn8)
  obtain ⟨w8, hw8⟩ : ∃ w8, w8 = w7.setCell ⟨b, 0, none⟩ (.string t) := ⟨_, rfl⟩
  rw [← hw8] at HP HX8 HM8
  clear hk7 hk8 hm8 hx7 hb7 HK6 HM6 HX6 hn8 hXb
  go_wp2_with fail
  rw [← hw8]
  clear hw8 nc nz
  refine HP.out.mono ?_
  rintro e9 w9 ⟨rfl, m, hk9, hm9⟩
  have hx9 := (hm9.block X (Array.getElem?_eq_some_iff.1 HX8.out).1 HXN8.out).trans HX8.out
  have HK9 := Lib.hid hk9
  have HM9 := Lib.hid (HM8.out.trans hm9)
  have c3 := hk9.cells.2.2.2.1
  have HX9 := Lib.hid hx9
  obtain ⟨SX, hSX⟩ : ∃ SX, SX = ((S.step.1.drop f).file b ⟨t, f.row, f.zs⟩).put m b ⟨t, f.row, f.zs⟩ := ⟨_, rfl⟩
  have HLL := Lib.hid (show SX.loose.length + 1 ≤ 1000000000 by
    rw [hSX]
    show S.step.1.loose.length + 1 ≤ _
    rw [HE.out.2.2.1]
    omega)
  have HC := Lib.hid (show (∃ f, SX.fl b = some f) ∧ ∀ b', (none : Option Nat) = some b' → ∃ f, SX.fl b' = some f from by
    rw [hSX]
    refine ⟨⟨⟨t, f.row, f.zs⟩, by show (if _ then _ else _) = _; rw [if_pos rfl]⟩, fun b' hb => ?_⟩
    cases hb)
  rw [← hSX] at HK9 HM9 c3
  have HSX := Lib.hid hSX
  have HXN9 := Lib.hid (hm9.own0 (Array.getElem?_eq_some_iff.1 HX8.out).1 HXN8.out)
  clear hk9 hm9 hx9 HX8 HM8 HXN8 HP hSX
  go_wp2_with fail
  (try dsimp only [Act.put, List.setIfInBounds_toArray, List.set_cons_zero, List.set_cons_succ])
  obtain ⟨la, ln, lc, hlv⟩ : ∃ la ln lc, SX.lv = .slice la ln lc := by
    rcases HK9.out.rest.hl.2 with ⟨h1, _⟩ | ⟨g, cap, cur, h1, _⟩
    · exact ⟨_, _, _, h1⟩
    · exact ⟨_, _, _, h1⟩
  have HLV := Lib.hid hlv
  have HK9 := Lib.hid (HK9.out.below (Below.refl _ _).drew)
  have HM9 := Lib.hid (HM9.out.trans (Mov.ofBelow (S := SX) (d := d) (Below.refl _ _).drew))
  obtain ⟨w9d, hw9⟩ : ∃ w9d, w9d = w9.drew := ⟨_, rfl⟩
  have HX9 := Lib.hid (show w9d.heap[X]? = some (.cells #[.int .i64 3, .pointer (some ⟨b, 0, none⟩), .int .i64 0, .string f.nm, .pointer none] 126 (0, 0)) from by rw [hw9]; exact HX9.out)
  rw [← hw9] at HK9 HM9
  have HXS9 := Lib.hid (show X < w9d.heap.size from (Array.getElem?_eq_some_iff.1 HX9.out).1)
  have HXN9 := Lib.hid (show ¬ SX.own d X from by rw [HSX.out]; exact HXN9.out)
  have HS := Lib.hid (show World.cell? w9d ⟨X, 0, none⟩ = some (.int .i64 3) ∧ World.cell? w9d ⟨X, 1, none⟩ = some (.pointer (some ⟨b, 0, none⟩)) ∧ World.cell? w9d ⟨X, 2, none⟩ = some (.int .i64 0) ∧ World.cell? w9d ⟨X, 3, none⟩ = some (.string f.nm) ∧ World.cell? w9d ⟨X, 4, none⟩ = some (.pointer none) from ⟨(cell_of_row w9d X 0 _ _ _ HX9.out).trans rfl, (cell_of_row w9d X 1 _ _ _ HX9.out).trans rfl, (cell_of_row w9d X 2 _ _ _ HX9.out).trans rfl, (cell_of_row w9d X 3 _ _ _ HX9.out).trans rfl, (cell_of_row w9d X 4 _ _ _ HX9.out).trans rfl⟩)
  have HL1 := Lib.hid (fun W (hW : World.cell? W ⟨X, 0, none⟩ = some (.int .i64 3) ∧ World.cell? W ⟨X, 1, none⟩ = some (.pointer (some ⟨b, 0, none⟩)) ∧ World.cell? W ⟨X, 2, none⟩ = some (.int .i64 0) ∧ World.cell? W ⟨X, 3, none⟩ = some (.string f.nm) ∧ World.cell? W ⟨X, 4, none⟩ = some (.pointer none)) => run_cellsX W X 3 b 0 f.nm none hW)
  refine anyH_begin (S := fun W => World.cell? W ⟨X, 0, none⟩ = some (.int .i64 3) ∧ World.cell? W ⟨X, 1, none⟩ = some (.pointer (some ⟨b, 0, none⟩)) ∧ World.cell? W ⟨X, 2, none⟩ = some (.int .i64 0) ∧ World.cell? W ⟨X, 3, none⟩ = some (.string f.nm) ∧ World.cell? W ⟨X, 4, none⟩ = some (.pointer none)) (by kernel_rfl) ?_
  rw [← hw9]
  clear hlv hw9 c3
  refine anyH_pureG 0 (d := 61) (op := .move (.tmp 0)) (gd := none) (.pointer (some ⟨d, 0, none⟩)) (by rfl) (fun o ho => wanted_plain ho _) (by kernel_rfl) (by kernel_rfl) (by kernel_rfl) (fun _ _ _ h => h) (fun o ho W hW => by unfold execOp; simp only [ho]; go_simp) HS.out ?_
  simp only [Act.put, List.setIfInBounds_toArray, List.set_cons_zero, List.set_cons_succ]
  refine anyH_pureG 1 (d := 62) (op := .move (.tmp 0)) (gd := none) (.pointer (some ⟨d, 0, none⟩)) (by rfl) (fun o ho => wanted_plain ho _) (by kernel_rfl) (by kernel_rfl) (by kernel_rfl) (fun _ _ _ h => h) (fun o ho W hW => by unfold execOp; simp only [ho]; go_simp) HS.out ?_
  simp only [Act.put, List.setIfInBounds_toArray, List.set_cons_zero, List.set_cons_succ]
  refine anyH_pureG 2 (d := 63) (op := .nilCheck (.tmp 62)) (gd := none) (.pointer (some ⟨d, 0, none⟩)) (by rfl) (fun o ho => wanted_plain ho _) (by kernel_rfl) (by kernel_rfl) (by kernel_rfl) (fun _ _ _ h => h) (fun o ho W hW => by unfold execOp; simp only [ho]; go_simp) HS.out ?_
  simp only [Act.put, List.setIfInBounds_toArray, List.set_cons_zero, List.set_cons_succ]
  refine anyH_pureG 3 (d := 64) (op := .fieldAddr 53 (.tmp 63) 3) (gd := none) (.pointer (some ⟨d, 3, none⟩)) (by rfl) (fun o ho => wanted_plain ho _) (by kernel_rfl) (by kernel_rfl) (by kernel_rfl) (fun _ _ _ h => h) (fun o ho W hW => by unfold execOp; simp only [ho]; go_simp) HS.out ?_
  simp only [Act.put, List.setIfInBounds_toArray, List.set_cons_zero, List.set_cons_succ]
  refine anyH_loadG 5 (d := 66) (ty := 126) (x := (.tmp 10)) (gd := none) (p := .pointer (some ⟨X, 0, none⟩)) (.agg #[.int .i64 3, .pointer (some ⟨b, 0, none⟩), .int .i64 0, .string f.nm, .pointer none]) (by rfl) (fun o ho => wanted_plain ho _) (by kernel_rfl) (by kernel_rfl) (by kernel_rfl) (fun _ _ _ h => h) (by rfl) HL1.out HS.out ?_
  simp only [Act.put, List.setIfInBounds_toArray, List.set_cons_zero, List.set_cons_succ]
  refine wpAnyH_all (rs := [4, 6]) (by kernel_rfl) (by simp) ?_
  intro k hk
  simp only [List.mem_cons, List.not_mem_nil, or_false] at hk
  rcases hk with rfl | rfl
  · refine op_atJ 4 (d := some 65) (op := .load 51 (.tmp 64)) (by rfl) ?_
    intro o4 hod4 hoo4
    refine wp_load_g 51 (.tmp 64) hoo4 (.pointer (some ⟨d, 3, none⟩)) (.slice la ln lc) (by rfl) (run_cell_chgs _ ⟨d, 3, none⟩ _ _ _ (HK9.out.cells.2.2.2.1.trans (congrArg some HLV.out))) ?_
    rw [hod4]
    clear hod4 hoo4
    simp only [Act.put, List.setIfInBounds_toArray, List.set_cons_zero, List.set_cons_succ]
    refine ⟨HS.out, ?_⟩
    refine wpAnyH_all (rs := [6]) (by kernel_rfl) (by simp) ?_
    intro k hk; simp only [List.mem_cons, List.not_mem_nil, or_false] at hk; subst hk
    refine op_atJ 6 (d := some 67) (op := .buildSlice 51 1 #[(0, (.tmp 66))]) (by rfl) ?_
    intro o5 hod5 hoo5
    refine wp_bsG (.tmp 66) hoo5 3 b 0 f.nm none (by rfl) ?_
    rw [hod5]
    clear hod5 hoo5
    simp only [Act.put, List.setIfInBounds_toArray, List.set_cons_zero, List.set_cons_succ]
    refine ⟨(show World.cell? _ ⟨X, 0, none⟩ = some (.int .i64 3) ∧ World.cell? _ ⟨X, 1, none⟩ = some (.pointer (some ⟨b, 0, none⟩)) ∧ World.cell? _ ⟨X, 2, none⟩ = some (.int .i64 0) ∧ World.cell? _ ⟨X, 3, none⟩ = some (.string f.nm) ∧ World.cell? _ ⟨X, 4, none⟩ = some (.pointer none) from by obtain ⟨y0, y1, y2, y3, y4⟩ := HS.out; have hb := (Below.refl _ _).alloc (Nat.le_refl w9d.heap.size) (.cells #[.int .i64 3, .pointer (some ⟨b, 0, none⟩), .int .i64 0, .string f.nm, .pointer none] 126); exact ⟨(hb.cell (p := ⟨X, 0, none⟩) HXS9.out).trans y0, (hb.cell (p := ⟨X, 1, none⟩) HXS9.out).trans y1, (hb.cell (p := ⟨X, 2, none⟩) HXS9.out).trans y2, (hb.cell (p := ⟨X, 3, none⟩) HXS9.out).trans y3, (hb.cell (p := ⟨X, 4, none⟩) HXS9.out).trans y4⟩), ?_⟩
    clear HS
    refine wpAnyH_all (rs := [7]) (by kernel_rfl) (by simp) ?_
    intro k hk; simp only [List.mem_cons, List.not_mem_nil, or_false] at hk; subst hk
    refine op_atJ 7 (d := some 68) (op := .call { callee := .builtin .append, args := #[(.tmp 65), (.tmp 67)], argTypes := #[51, 51] }) (by rfl) ?_
    intro o6 hod6 hoo6
    refine wp_pushC (.tmp 65) (.tmp 67) hoo6 B d SX ⟨3, b, 0, f.nm, none⟩ HK9.out HLV.out.symm (by rfl) HLL.out HC.out ?_
    intro va vn vc w10 c10 f10 hk10 hm10
    have HK10 := Lib.hid hk10
    have HM10 := Lib.hid (HM9.out.trans hm10)
    have HT7 := Lib.hid (show w10.there d 3 1 from fun j hj => by
      obtain rfl : j = 0 := by omega
      exact ⟨by rw [Nat.add_zero, c10]; rfl, f10⟩)
    have HS := Lib.hid (show World.cell? w10 ⟨X, 0, none⟩ = some (.int .i64 3) ∧ World.cell? w10 ⟨X, 1, none⟩ = some (.pointer (some ⟨b, 0, none⟩)) ∧ World.cell? w10 ⟨X, 2, none⟩ = some (.int .i64 0) ∧ World.cell? w10 ⟨X, 3, none⟩ = some (.string f.nm) ∧ World.cell? w10 ⟨X, 4, none⟩ = some (.pointer none) from by
      have e9 := hm10.block X HXS9.out HXN9.out
      rw [Below.heap_setCell w10 ⟨d, 3, none⟩ _ X (show X ≠ d from fun e => HXN9.out (.inl e))] at e9
      have q : ∀ i, w10.cell? ⟨X, i, none⟩ = w9d.cell? ⟨X, i, none⟩ := fun i => World.cell?_of_block e9
      have hx := HX9.out
      exact ⟨(q 0).trans ((cell_of_row w9d X 0 _ _ _ hx).trans rfl), (q 1).trans ((cell_of_row w9d X 1 _ _ _ hx).trans rfl), (q 2).trans ((cell_of_row w9d X 2 _ _ _ hx).trans rfl), (q 3).trans ((cell_of_row w9d X 3 _ _ _ hx).trans rfl), (q 4).trans ((cell_of_row w9d X 4 _ _ _ hx).trans rfl)⟩)
    have HXD := Lib.hid (show X ≠ d from fun e => HXN9.out (.inl e))
    rw [hod6]
    clear hod6 hoo6 hk10 hm10 c10 f10
    simp only [Act.put, List.setIfInBounds_toArray, List.set_cons_zero, List.set_cons_succ]
    refine ⟨HS.out, ?_⟩
    refine anyH_pureG 8 (d := 69) (op := .nilCheck (.tmp 61)) (gd := none) (.pointer (some ⟨d, 0, none⟩)) (by rfl) (fun o ho => wanted_plain ho _) (by kernel_rfl) (by kernel_rfl) (by kernel_rfl) (fun _ _ _ h => h) (fun o ho W hW => by unfold execOp; simp only [ho]; go_simp) HS.out ?_
    simp only [Act.put, List.setIfInBounds_toArray, List.set_cons_zero, List.set_cons_succ]
    refine anyH_pureG 9 (d := 70) (op := .fieldAddr 53 (.tmp 69) 3) (gd := none) (.pointer (some ⟨d, 3, none⟩)) (by rfl) (fun o ho => wanted_plain ho _) (by kernel_rfl) (by kernel_rfl) (by kernel_rfl) (fun _ _ _ h => h) (fun o ho W hW => by unfold execOp; simp only [ho]; go_simp) HS.out ?_
    simp only [Act.put, List.setIfInBounds_toArray, List.set_cons_zero, List.set_cons_succ]
    refine wpAnyH_all (rs := [10]) (by kernel_rfl) (by simp) ?_
    intro k hk; simp only [List.mem_cons, List.not_mem_nil, or_false] at hk; subst hk
    refine op_atJ 10 (d := none) (op := .store 51 (.tmp 70) (.tmp 68)) (by rfl) ?_
    intro o7 hod7 hoo7
    refine wp_store_one 51 (.tmp 70) (.tmp 68) hoo7 d 3 (.slice va vn vc) (by rfl) (by rfl) HT7.out (by kernel_rfl) (by rfl) (by rfl) ?_
    rw [hod7]
    clear hod7 hoo7
    simp only [Act.put, List.setIfInBounds_toArray, List.set_cons_zero, List.set_cons_succ]
    refine ⟨by obtain ⟨y0, y1, y2, y3, y4⟩ := HS.out; have q : ∀ i, (w10.setCells d 3 [.slice va vn vc]).cell? ⟨X, i, none⟩ = w10.cell? ⟨X, i, none⟩ := fun i => World.cell?_of_block (one_heap HXD.out); exact ⟨(q 0).trans y0, (q 1).trans y1, (q 2).trans y2, (q 3).trans y3, (q 4).trans y4⟩, ?_⟩
    refine wpAnyH_done (by kernel_rfl) ?_ _
    clear HS HT7 HL1
    obtain ⟨w11, hw11⟩ : ∃ w11, w11 = w10.setCells d 3 [.slice va vn vc] := ⟨_, rfl⟩
    have HK11 := Lib.hid (show DK B d (SX.more (.slice va vn vc) ⟨3, b, 0, f.nm, none⟩) w11 from by rw [hw11]; exact HK10.out)
    have HM11 := Lib.hid (show Mov S d (SX.more (.slice va vn vc) ⟨3, b, 0, f.nm, none⟩) _ w11 from by rw [hw11]; exact HM10.out)
    rw [← hw11]
    clear hw11 HK10 HM10 HK9 HM9
    go_wp2_with fail
    go_ret
    refine ⟨rfl, m, .slice va vn vc, ?_, ?_⟩
    · have := HK11.out
      rw [HSX.out] at this
      exact this
    · have := HM11.out
      rw [HSX.out] at this
      exact this
  · refine op_atJ 6 (d := some 67) (op := .buildSlice 51 1 #[(0, (.tmp 66))]) (by rfl) ?_
    intro o5 hod5 hoo5
    refine wp_bsG (.tmp 66) hoo5 3 b 0 f.nm none (by rfl) ?_
    rw [hod5]
    clear hod5 hoo5
    simp only [Act.put, List.setIfInBounds_toArray, List.set_cons_zero, List.set_cons_succ]
    refine ⟨(show World.cell? _ ⟨X, 0, none⟩ = some (.int .i64 3) ∧ World.cell? _ ⟨X, 1, none⟩ = some (.pointer (some ⟨b, 0, none⟩)) ∧ World.cell? _ ⟨X, 2, none⟩ = some (.int .i64 0) ∧ World.cell? _ ⟨X, 3, none⟩ = some (.string f.nm) ∧ World.cell? _ ⟨X, 4, none⟩ = some (.pointer none) from by obtain ⟨y0, y1, y2, y3, y4⟩ := HS.out; have hb := (Below.refl _ _).alloc (Nat.le_refl w9d.heap.size) (.cells #[.int .i64 3, .pointer (some ⟨b, 0, none⟩), .int .i64 0, .string f.nm, .pointer none] 126); exact ⟨(hb.cell (p := ⟨X, 0, none⟩) HXS9.out).trans y0, (hb.cell (p := ⟨X, 1, none⟩) HXS9.out).trans y1, (hb.cell (p := ⟨X, 2, none⟩) HXS9.out).trans y2, (hb.cell (p := ⟨X, 3, none⟩) HXS9.out).trans y3, (hb.cell (p := ⟨X, 4, none⟩) HXS9.out).trans y4⟩), ?_⟩
    refine wpAnyH_all (rs := [4]) (by kernel_rfl) (by simp) ?_
    intro k hk; simp only [List.mem_cons, List.not_mem_nil, or_false] at hk; subst hk
    refine op_atJ 4 (d := some 65) (op := .load 51 (.tmp 64)) (by rfl) ?_
    intro o4 hod4 hoo4
    refine wp_load_g 51 (.tmp 64) hoo4 (.pointer (some ⟨d, 3, none⟩)) (.slice la ln lc) (by rfl) (run_cell_chgs _ ⟨d, 3, none⟩ _ _ _ ((HK9.out.alloc (.cells #[.int .i64 3, .pointer (some ⟨b, 0, none⟩), .int .i64 0, .string f.nm, .pointer none] 126)).cells.2.2.2.1.trans (congrArg some HLV.out))) ?_
    rw [hod4]
    clear hod4 hoo4
    simp only [Act.put, List.setIfInBounds_toArray, List.set_cons_zero, List.set_cons_succ]
    refine ⟨(show World.cell? _ ⟨X, 0, none⟩ = some (.int .i64 3) ∧ World.cell? _ ⟨X, 1, none⟩ = some (.pointer (some ⟨b, 0, none⟩)) ∧ World.cell? _ ⟨X, 2, none⟩ = some (.int .i64 0) ∧ World.cell? _ ⟨X, 3, none⟩ = some (.string f.nm) ∧ World.cell? _ ⟨X, 4, none⟩ = some (.pointer none) from by obtain ⟨y0, y1, y2, y3, y4⟩ := HS.out; have hb := (Below.refl _ _).alloc (Nat.le_refl w9d.heap.size) (.cells #[.int .i64 3, .pointer (some ⟨b, 0, none⟩), .int .i64 0, .string f.nm, .pointer none] 126); exact ⟨(hb.cell (p := ⟨X, 0, none⟩) HXS9.out).trans y0, (hb.cell (p := ⟨X, 1, none⟩) HXS9.out).trans y1, (hb.cell (p := ⟨X, 2, none⟩) HXS9.out).trans y2, (hb.cell (p := ⟨X, 3, none⟩) HXS9.out).trans y3, (hb.cell (p := ⟨X, 4, none⟩) HXS9.out).trans y4⟩), ?_⟩
    clear HS
    refine wpAnyH_all (rs := [7]) (by kernel_rfl) (by simp) ?_
    intro k hk; simp only [List.mem_cons, List.not_mem_nil, or_false] at hk; subst hk
    refine op_atJ 7 (d := some 68) (op := .call { callee := .builtin .append, args := #[(.tmp 65), (.tmp 67)], argTypes := #[51, 51] }) (by rfl) ?_
    intro o6 hod6 hoo6
    refine wp_pushC (.tmp 65) (.tmp 67) hoo6 B d SX ⟨3, b, 0, f.nm, none⟩ HK9.out HLV.out.symm (by rfl) HLL.out HC.out ?_
    intro va vn vc w10 c10 f10 hk10 hm10
    have HK10 := Lib.hid hk10
    have HM10 := Lib.hid (HM9.out.trans hm10)
    have HT7 := Lib.hid (show w10.there d 3 1 from fun j hj => by
      obtain rfl : j = 0 := by omega
      exact ⟨by rw [Nat.add_zero, c10]; rfl, f10⟩)
    have HS := Lib.hid (show World.cell? w10 ⟨X, 0, none⟩ = some (.int .i64 3) ∧ World.cell? w10 ⟨X, 1, none⟩ = some (.pointer (some ⟨b, 0, none⟩)) ∧ World.cell? w10 ⟨X, 2, none⟩ = some (.int .i64 0) ∧ World.cell? w10 ⟨X, 3, none⟩ = some (.string f.nm) ∧ World.cell? w10 ⟨X, 4, none⟩ = some (.pointer none) from by
      have e9 := hm10.block X HXS9.out HXN9.out
      rw [Below.heap_setCell w10 ⟨d, 3, none⟩ _ X (show X ≠ d from fun e => HXN9.out (.inl e))] at e9
      have q : ∀ i, w10.cell? ⟨X, i, none⟩ = w9d.cell? ⟨X, i, none⟩ := fun i => World.cell?_of_block e9
      have hx := HX9.out
      exact ⟨(q 0).trans ((cell_of_row w9d X 0 _ _ _ hx).trans rfl), (q 1).trans ((cell_of_row w9d X 1 _ _ _ hx).trans rfl), (q 2).trans ((cell_of_row w9d X 2 _ _ _ hx).trans rfl), (q 3).trans ((cell_of_row w9d X 3 _ _ _ hx).trans rfl), (q 4).trans ((cell_of_row w9d X 4 _ _ _ hx).trans rfl)⟩)
    have HXD := Lib.hid (show X ≠ d from fun e => HXN9.out (.inl e))
    rw [hod6]
    clear hod6 hoo6 hk10 hm10 c10 f10
    simp only [Act.put, List.setIfInBounds_toArray, List.set_cons_zero, List.set_cons_succ]
    refine ⟨HS.out, ?_⟩
    refine anyH_pureG 8 (d := 69) (op := .nilCheck (.tmp 61)) (gd := none) (.pointer (some ⟨d, 0, none⟩)) (by rfl) (fun o ho => wanted_plain ho _) (by kernel_rfl) (by kernel_rfl) (by kernel_rfl) (fun _ _ _ h => h) (fun o ho W hW => by unfold execOp; simp only [ho]; go_simp) HS.out ?_
    simp only [Act.put, List.setIfInBounds_toArray, List.set_cons_zero, List.set_cons_succ]
    refine anyH_pureG 9 (d := 70) (op := .fieldAddr 53 (.tmp 69) 3) (gd := none) (.pointer (some ⟨d, 3, none⟩)) (by rfl) (fun o ho => wanted_plain ho _) (by kernel_rfl) (by kernel_rfl) (by kernel_rfl) (fun _ _ _ h => h) (fun o ho W hW => by unfold execOp; simp only [ho]; go_simp) HS.out ?_
    simp only [Act.put, List.setIfInBounds_toArray, List.set_cons_zero, List.set_cons_succ]
    refine wpAnyH_all (rs := [10]) (by kernel_rfl) (by simp) ?_
    intro k hk; simp only [List.mem_cons, List.not_mem_nil, or_false] at hk; subst hk
    refine op_atJ 10 (d := none) (op := .store 51 (.tmp 70) (.tmp 68)) (by rfl) ?_
    intro o7 hod7 hoo7
    refine wp_store_one 51 (.tmp 70) (.tmp 68) hoo7 d 3 (.slice va vn vc) (by rfl) (by rfl) HT7.out (by kernel_rfl) (by rfl) (by rfl) ?_
    rw [hod7]
    clear hod7 hoo7
    simp only [Act.put, List.setIfInBounds_toArray, List.set_cons_zero, List.set_cons_succ]
    refine ⟨by obtain ⟨y0, y1, y2, y3, y4⟩ := HS.out; have q : ∀ i, (w10.setCells d 3 [.slice va vn vc]).cell? ⟨X, i, none⟩ = w10.cell? ⟨X, i, none⟩ := fun i => World.cell?_of_block (one_heap HXD.out); exact ⟨(q 0).trans y0, (q 1).trans y1, (q 2).trans y2, (q 3).trans y3, (q 4).trans y4⟩, ?_⟩
    refine wpAnyH_done (by kernel_rfl) ?_ _
    clear HS HT7 HL1
    obtain ⟨w11, hw11⟩ : ∃ w11, w11 = w10.setCells d 3 [.slice va vn vc] := ⟨_, rfl⟩
    have HK11 := Lib.hid (show DK B d (SX.more (.slice va vn vc) ⟨3, b, 0, f.nm, none⟩) w11 from by rw [hw11]; exact HK10.out)
    have HM11 := Lib.hid (show Mov S d (SX.more (.slice va vn vc) ⟨3, b, 0, f.nm, none⟩) _ w11 from by rw [hw11]; exact HM10.out)
    rw [← hw11]
    clear hw11 HK10 HM10 HK9 HM9
    go_wp2_with fail
    go_ret
    refine ⟨rfl, m, .slice va vn vc, ?_, ?_⟩
    · have := HK11.out
      rw [HSX.out] at this
      exact this
    · have := HM11.out
      rw [HSX.out] at this
      exact this
set_option maxRecDepth 100000 in
set_option maxHeartbeats 8000000 in
theorem drename_over {B d b : Nat} {S : Dsk} {f : Fil} {w : World} (h : DK B d S w) (s t : ByteArray) (hs : s.size ≤ maxLen) (ht : t.size ≤ maxLen) (hd : S.down = false) (ha : S.at s = some b) (hfl : S.fl b = some f) (hn : isNm t = true) (hf : S.fuse ≠ 0) (hn1 : S.n < 1000000000) (hl : S.loose.length < 1000000000) {r : Nat} {g : Fil} (hr : (S.drop f).at t = some r) (hrf : S.fl r = some g) :
    Calls Try.prog 80 #[.pointer (some ⟨d, 0, none⟩), .string s, .string t] w fun e w' => e = .returned (.int .i64 0) ∧ ∃ m v, DK B d (((S.step.1.drop f).drop g).named f b t m v (some r)) w' ∧ Mov S d (((S.step.1.drop f).drop g).named f b t m v (some r)) w w' := by
  have hfs : f.nm = s := by
    obtain ⟨g, h1, h2⟩ := h.rest.at ha
    rw [hfl] at h1
    cases h1
    exact h2
  have ht2 : t.size ≤ 160 := by
    unfold isNm at hn
    simp only [Bool.and_eq_true, decide_eq_true_eq] at hn
    exact hn.2
  have hst : S.step.2 = 0 ∧ S.step.1.n = S.n ∧ S.step.1.fl = S.fl ∧ S.step.1.loose = S.loose ∧ S.step.1.D = S.D := by
    unfold Dsk.step
    rw [if_neg hf]
    split <;> exact ⟨rfl, rfl, rfl, rfl, rfl⟩
  have hat : ∀ x, S.step.1.at x = S.at x := fun x => by unfold Dsk.at; rw [hst.2.2.2.2]
  have hat2 : ∀ x, (S.step.1.drop f).at x = (S.drop f).at x := fun x => by rw [at_drop, at_drop, hat]
  have HST := Lib.hid (dstep_c h)
  rw [hst.1] at HST
  have HE := Lib.hid hst.2
  have HF := Lib.hid (dfind_c h s hs)
  rw [show S.find s = (some b, 0) from by unfold Dsk.find; rw [hd, ha]; rfl] at HF
  simp only [ptrOf, Option.map_some] at HF
  have HI := Lib.hid (isname_c t w ht)
  rw [show (decide (1 ≤ t.size) && decide (t.size ≤ 160)) = true from hn] at HI
  have HNS := Lib.hid (show f.nm.size ≤ maxLen by rw [hfs]; exact hs)
  have HFL := Lib.hid (show S.step.1.fl b = some f by rw [hst.2.2.1]; exact hfl)
  have HR := Lib.hid (show (S.step.1.drop f).at t = some r by rw [hat2]; exact hr)
  have HRF := Lib.hid (show S.step.1.fl r = some g by rw [hst.2.2.1]; exact hrf)
  have hgn : g.nm = t := by
    rw [at_drop] at hr
    split at hr
    · cases hr
    · obtain ⟨g', h1, h2⟩ := h.rest.at hr
      rw [hrf] at h1
      cases h1
      exact h2
  have HGN := Lib.hid (show g.nm.size ≤ maxLen by rw [hgn]; exact ht)
  have HNO := Lib.hid (show ∀ x, ((S.step.1.drop f).drop g).at x ≠ some b from fun x hx => by
    rw [at_drop] at hx
    split at hx
    · cases hx
    · rw [hat2, at_drop] at hx
      split at hx
      · cases hx
      · rename_i e
        obtain ⟨g', h1, h2⟩ := h.rest.at hx
        rw [hfl] at h1
        cases h1
        exact e h2.symm)
  clear h hst ha hfs hat hat2 hr hrf hgn hfl hn hf
  go_enter Try.func80, Try.ntmps80
  go_wp2_with fail
  refine HF.out.mono ?_
  rintro e1 w1 ⟨rfl, rfl⟩
  go_wp2_with fail
  refine HI.out.mono ?_
  rintro e2 w2 ⟨rfl, rfl⟩
  go_wp2_with fail
  refine HST.out.mono ?_
  rintro e3 w3 ⟨rfl, hk3, hm3⟩
  have n3 := (hk3.rest.fcells HFL.out).1
  obtain ⟨X, hX⟩ : ∃ X, X = w3.heap.size := ⟨_, rfl⟩
  obtain ⟨w4, hw4⟩ : ∃ w4, w4 = w3.alloc (.cells #[.int .i64 3, .pointer (some ⟨b, 0, none⟩), .int .i64 0, .string f.nm, .pointer none] 126) := ⟨_, rfl⟩
  have hx4 : w4.heap[X]? = some (.cells #[.int .i64 3, .pointer (some ⟨b, 0, none⟩), .int .i64 0, .string f.nm, .pointer none] 126 (0, 0)) := by rw [hw4, hX]; exact heap_alloc_new w3 _
  have hk4 : DK B d S.step.1 w4 := by rw [hw4]; exact hk3.alloc _
  have hm4 : Mov S d S.step.1 w2 w4 := by rw [hw4]; exact hm3.trans (Mov.ofBelow ((Below.refl _ _).alloc (Nat.le_refl _) _))
  have hX1 : w2.heap.size ≤ X := by rw [hX]; exact hm3.size
  have hXn : ¬ S.step.1.own d X := fun ho => by have := (hk3.ownLt ho).2; omega
  have hXs : X < w4.heap.size := (Array.getElem?_eq_some_iff.1 hx4).1
  have HX1 := Lib.hid hX1
  have HD := Lib.hid (ddrop_c hk4 (b := b) (f := f) HFL.out HNS.out)
  have HX4 := Lib.hid hx4
  have HM4 := Lib.hid hm4
  have HXN := Lib.hid hXn
  have HXS := Lib.hid hXs
  clear HF HI HST hk3 hm3 hx4 hk4 hm4 hX1 hXn hXs
  go_wp2_with fail
  rw [← hX]
  rw [← hw4]
  refine HD.out.mono ?_
  rintro e5 w5 ⟨rfl, hk5, hm5⟩
  have hx5 := (hm5.block X HXS.out HXN.out).trans HX4.out
  have c1 := hk5.cells.2.1
  have hlk := hk5.rest.look ht
  rw [HR.out] at hlk
  simp only [ptrOf, Option.map_some] at hlk
  have x4 := (cell_of_row w5 X 4 _ _ _ hx5).trans rfl
  have z4 := frozen_of_row w5 X 4 _ _ hx5
  have hm5' := HM4.out.trans hm5
  have HXN5 := Lib.hid (hm5.own0 HXS.out HXN.out)
  have HXS5 := Lib.hid (show X < w5.heap.size from (Array.getElem?_eq_some_iff.1 hx5).1)
  obtain ⟨w6, hw6⟩ : ∃ w6, w6 = w5.setCell ⟨X, 4, none⟩ (.pointer (some ⟨r, 0, none⟩)) := ⟨_, rfl⟩
  have hk6 : DK B d (S.step.1.drop f) w6 := by rw [hw6]; exact hk5.keepX HXN5.out fun k hk => Below.heap_setCell w5 ⟨X, 4, none⟩ _ k hk
  have hm6 : Mov S d (S.step.1.drop f) w2 w6 := by rw [hw6]; exact hm5'.keepX 4 _ _ _ HX1.out
  have hx6 : w6.heap[X]? = some (.cells #[.int .i64 3, .pointer (some ⟨b, 0, none⟩), .int .i64 0, .string f.nm, .pointer (some ⟨r, 0, none⟩)] 126 (0, 0)) := by rw [hw6]; exact row_set hx5 _ (o := 4) (by show 4 < 5; omega)
  have HK6 := Lib.hid hk6
  have HM6 := Lib.hid hm6
  have HX6 := Lib.hid hx6
  clear hk5 hm5 hx5 hm5' hk6 hm6 hx6 HX4 HXN HM4 hX hw4 n3 HD HXS
  go_wp2_with fail
  rw [← hw6]
  clear hw6 hlk c1 x4 z4
  have HD2 := Lib.hid (ddrop_c HK6.out (b := r) (f := g) HRF.out HGN.out)
  refine HD2.out.mono ?_
  rintro e6 w61 ⟨rfl, hk61, hm61⟩
  have HX6' := Lib.hid ((hm61.block X (Array.getElem?_eq_some_iff.1 HX6.out).1 HXN5.out).trans HX6.out)
  have HM6' := Lib.hid (HM6.out.trans hm61)
  have HK6' := Lib.hid hk61
  have HXN6 := Lib.hid (hm61.own0 (Array.getElem?_eq_some_iff.1 HX6.out).1 HXN5.out)
  clear hk61 hm61 HK6 HM6 HX6 HD2 HXN5
  have HK6 := HK6'
  have HM6 := HM6'
  have HX6 := HX6'
  have HXN5 := HXN6
  clear HK6' HM6' HX6' HXN6
  go_wp2_with fail
  refine (clone_c t w61 ht ht2).mono ?_
  rintro e7 w7 ⟨rfl, hb7⟩
  have hk7 := HK6.out.below hb7
  obtain ⟨⟨nc, nz⟩, hk8, hm8⟩ := hk7.nameSet (b := b) (f := f) HFL.out HNO.out t
  have hx7 := (hb7.block X (Array.getElem?_eq_some_iff.1 HX6.out).1).trans HX6.out
  have hXb : X ≠ b := fun e => HXN5.out (.inr (.inr (.inl ⟨f, by rw [e]; exact HFL.out⟩)))
  have HX8 := Lib.hid ((Below.heap_setCell w7 ⟨b, 0, none⟩ (.string t) X hXb).trans hx7)
  have HM8 := Lib.hid ((HM6.out.trans (Mov.ofBelow hb7)).trans hm8)
  have HXN8 := Lib.hid (show ¬ (((S.step.1.drop f).drop g).file b ⟨t, f.row, f.zs⟩).own d X from fun ho => by
    rcases hm8.own X ho with h1 | h1
    · exact HXN5.out h1
    · have := (Array.getElem?_eq_some_iff.1 hx7).1
      omega)
  have hn8 : (((S.step.1.drop f).drop g).file b ⟨t, f.row, f.zs⟩).n < maxLen := by
    show S.step.1.n < maxLen
    rw [HE.out.1]
    unfold maxLen
    omega
  have HP := Lib.hid (dput_c hk8 (b := b) (f := ⟨t, f.row, f.zs⟩) (by show (if _ then _ else _) = _; rw [if_pos rfl]) ht hn8)
  obtain ⟨w8, hw8⟩ : ∃ w8, w8 = w7.setCell ⟨b, 0, none⟩ (.string t) := ⟨_, rfl⟩
  rw [← hw8] at HP HX8 HM8
  clear hk7 hk8 hm8 hx7 hb7 HK6 HM6 HX6 hn8 hXb
  go_wp2_with fail
  rw [← hw8]
  clear hw8 nc nz
  refine HP.out.mono ?_
  rintro e9 w9 ⟨rfl, m, hk9, hm9⟩
  have hx9 := (hm9.block X (Array.getElem?_eq_some_iff.1 HX8.out).1 HXN8.out).trans HX8.out
  have HK9 := Lib.hid hk9
  have HM9 := Lib.hid (HM8.out.trans hm9)
  have c3 := hk9.cells.2.2.2.1
  have HX9 := Lib.hid hx9
  obtain ⟨SX, hSX⟩ : ∃ SX, SX = (((S.step.1.drop f).drop g).file b ⟨t, f.row, f.zs⟩).put m b ⟨t, f.row, f.zs⟩ := ⟨_, rfl⟩
  have HLL := Lib.hid (show SX.loose.length + 1 ≤ 1000000000 by
    rw [hSX]
    show S.step.1.loose.length + 1 ≤ _
    rw [HE.out.2.2.1]
    omega)
  have HC := Lib.hid (show (∃ f, SX.fl b = some f) ∧ ∀ b', ((some r) : Option Nat) = some b' → ∃ f, SX.fl b' = some f from by
    rw [hSX]
    refine ⟨⟨⟨t, f.row, f.zs⟩, by show (if _ then _ else _) = _; rw [if_pos rfl]⟩, fun b' hb => ?_⟩
    cases hb
    by_cases e : r = b
    · exact ⟨⟨t, f.row, f.zs⟩, by show (if _ then _ else _) = _; rw [if_pos e]⟩
    · exact ⟨g, by show (if _ then _ else S.step.1.fl r) = _; rw [if_neg e]; exact HRF.out⟩)
  rw [← hSX] at HK9 HM9 c3
  have HSX := Lib.hid hSX
  have HXN9 := Lib.hid (hm9.own0 (Array.getElem?_eq_some_iff.1 HX8.out).1 HXN8.out)
  clear hk9 hm9 hx9 HX8 HM8 HXN8 HP hSX
  go_wp2_with fail
  (try dsimp only [Act.put, List.setIfInBounds_toArray, List.set_cons_zero, List.set_cons_succ])
  obtain ⟨la, ln, lc, hlv⟩ : ∃ la ln lc, SX.lv = .slice la ln lc := by
    rcases HK9.out.rest.hl.2 with ⟨h1, _⟩ | ⟨g, cap, cur, h1, _⟩
    · exact ⟨_, _, _, h1⟩
    · exact ⟨_, _, _, h1⟩
  have HLV := Lib.hid hlv
  have HK9 := Lib.hid (HK9.out.below (Below.refl _ _).drew)
  have HM9 := Lib.hid (HM9.out.trans (Mov.ofBelow (S := SX) (d := d) (Below.refl _ _).drew))
  obtain ⟨w9d, hw9⟩ : ∃ w9d, w9d = w9.drew := ⟨_, rfl⟩
  have HX9 := Lib.hid (show w9d.heap[X]? = some (.cells #[.int .i64 3, .pointer (some ⟨b, 0, none⟩), .int .i64 0, .string f.nm, .pointer (some ⟨r, 0, none⟩)] 126 (0, 0)) from by rw [hw9]; exact HX9.out)
  rw [← hw9] at HK9 HM9
  have HXS9 := Lib.hid (show X < w9d.heap.size from (Array.getElem?_eq_some_iff.1 HX9.out).1)
  have HXN9 := Lib.hid (show ¬ SX.own d X from by rw [HSX.out]; exact HXN9.out)
  have HS := Lib.hid (show World.cell? w9d ⟨X, 0, none⟩ = some (.int .i64 3) ∧ World.cell? w9d ⟨X, 1, none⟩ = some (.pointer (some ⟨b, 0, none⟩)) ∧ World.cell? w9d ⟨X, 2, none⟩ = some (.int .i64 0) ∧ World.cell? w9d ⟨X, 3, none⟩ = some (.string f.nm) ∧ World.cell? w9d ⟨X, 4, none⟩ = some (.pointer (some ⟨r, 0, none⟩)) from ⟨(cell_of_row w9d X 0 _ _ _ HX9.out).trans rfl, (cell_of_row w9d X 1 _ _ _ HX9.out).trans rfl, (cell_of_row w9d X 2 _ _ _ HX9.out).trans rfl, (cell_of_row w9d X 3 _ _ _ HX9.out).trans rfl, (cell_of_row w9d X 4 _ _ _ HX9.out).trans rfl⟩)
  have HL1 := Lib.hid (fun W (hW : World.cell? W ⟨X, 0, none⟩ = some (.int .i64 3) ∧ World.cell? W ⟨X, 1, none⟩ = some (.pointer (some ⟨b, 0, none⟩)) ∧ World.cell? W ⟨X, 2, none⟩ = some (.int .i64 0) ∧ World.cell? W ⟨X, 3, none⟩ = some (.string f.nm) ∧ World.cell? W ⟨X, 4, none⟩ = some (.pointer (some ⟨r, 0, none⟩))) => run_cellsX W X 3 b 0 f.nm (some ⟨r, 0, none⟩) hW)
  refine anyH_begin (S := fun W => World.cell? W ⟨X, 0, none⟩ = some (.int .i64 3) ∧ World.cell? W ⟨X, 1, none⟩ = some (.pointer (some ⟨b, 0, none⟩)) ∧ World.cell? W ⟨X, 2, none⟩ = some (.int .i64 0) ∧ World.cell? W ⟨X, 3, none⟩ = some (.string f.nm) ∧ World.cell? W ⟨X, 4, none⟩ = some (.pointer (some ⟨r, 0, none⟩))) (by kernel_rfl) ?_
  rw [← hw9]
  clear hlv hw9 c3
  refine anyH_pureG 0 (d := 61) (op := .move (.tmp 0)) (gd := none) (.pointer (some ⟨d, 0, none⟩)) (by rfl) (fun o ho => wanted_plain ho _) (by kernel_rfl) (by kernel_rfl) (by kernel_rfl) (fun _ _ _ h => h) (fun o ho W hW => by unfold execOp; simp only [ho]; go_simp) HS.out ?_
  simp only [Act.put, List.setIfInBounds_toArray, List.set_cons_zero, List.set_cons_succ]
  refine anyH_pureG 1 (d := 62) (op := .move (.tmp 0)) (gd := none) (.pointer (some ⟨d, 0, none⟩)) (by rfl) (fun o ho => wanted_plain ho _) (by kernel_rfl) (by kernel_rfl) (by kernel_rfl) (fun _ _ _ h => h) (fun o ho W hW => by unfold execOp; simp only [ho]; go_simp) HS.out ?_
  simp only [Act.put, List.setIfInBounds_toArray, List.set_cons_zero, List.set_cons_succ]
  refine anyH_pureG 2 (d := 63) (op := .nilCheck (.tmp 62)) (gd := none) (.pointer (some ⟨d, 0, none⟩)) (by rfl) (fun o ho => wanted_plain ho _) (by kernel_rfl) (by kernel_rfl) (by kernel_rfl) (fun _ _ _ h => h) (fun o ho W hW => by unfold execOp; simp only [ho]; go_simp) HS.out ?_
  simp only [Act.put, List.setIfInBounds_toArray, List.set_cons_zero, List.set_cons_succ]
  refine anyH_pureG 3 (d := 64) (op := .fieldAddr 53 (.tmp 63) 3) (gd := none) (.pointer (some ⟨d, 3, none⟩)) (by rfl) (fun o ho => wanted_plain ho _) (by kernel_rfl) (by kernel_rfl) (by kernel_rfl) (fun _ _ _ h => h) (fun o ho W hW => by unfold execOp; simp only [ho]; go_simp) HS.out ?_
  simp only [Act.put, List.setIfInBounds_toArray, List.set_cons_zero, List.set_cons_succ]
  refine anyH_loadG 5 (d := 66) (ty := 126) (x := (.tmp 10)) (gd := none) (p := .pointer (some ⟨X, 0, none⟩)) (.agg #[.int .i64 3, .pointer (some ⟨b, 0, none⟩), .int .i64 0, .string f.nm, .pointer (some ⟨r, 0, none⟩)]) (by rfl) (fun o ho => wanted_plain ho _) (by kernel_rfl) (by kernel_rfl) (by kernel_rfl) (fun _ _ _ h => h) (by rfl) HL1.out HS.out ?_
  simp only [Act.put, List.setIfInBounds_toArray, List.set_cons_zero, List.set_cons_succ]
  refine wpAnyH_all (rs := [4, 6]) (by kernel_rfl) (by simp) ?_
  intro k hk
  simp only [List.mem_cons, List.not_mem_nil, or_false] at hk
  rcases hk with rfl | rfl
  · refine op_atJ 4 (d := some 65) (op := .load 51 (.tmp 64)) (by rfl) ?_
    intro o4 hod4 hoo4
    refine wp_load_g 51 (.tmp 64) hoo4 (.pointer (some ⟨d, 3, none⟩)) (.slice la ln lc) (by rfl) (run_cell_chgs _ ⟨d, 3, none⟩ _ _ _ (HK9.out.cells.2.2.2.1.trans (congrArg some HLV.out))) ?_
    rw [hod4]
    clear hod4 hoo4
    simp only [Act.put, List.setIfInBounds_toArray, List.set_cons_zero, List.set_cons_succ]
    refine ⟨HS.out, ?_⟩
    refine wpAnyH_all (rs := [6]) (by kernel_rfl) (by simp) ?_
    intro k hk; simp only [List.mem_cons, List.not_mem_nil, or_false] at hk; subst hk
    refine op_atJ 6 (d := some 67) (op := .buildSlice 51 1 #[(0, (.tmp 66))]) (by rfl) ?_
    intro o5 hod5 hoo5
    refine wp_bsG (.tmp 66) hoo5 3 b 0 f.nm (some ⟨r, 0, none⟩) (by rfl) ?_
    rw [hod5]
    clear hod5 hoo5
    simp only [Act.put, List.setIfInBounds_toArray, List.set_cons_zero, List.set_cons_succ]
    refine ⟨(show World.cell? _ ⟨X, 0, none⟩ = some (.int .i64 3) ∧ World.cell? _ ⟨X, 1, none⟩ = some (.pointer (some ⟨b, 0, none⟩)) ∧ World.cell? _ ⟨X, 2, none⟩ = some (.int .i64 0) ∧ World.cell? _ ⟨X, 3, none⟩ = some (.string f.nm) ∧ World.cell? _ ⟨X, 4, none⟩ = some (.pointer (some ⟨r, 0, none⟩)) from by obtain ⟨y0, y1, y2, y3, y4⟩ := HS.out; have hb := (Below.refl _ _).alloc (Nat.le_refl w9d.heap.size) (.cells #[.int .i64 3, .pointer (some ⟨b, 0, none⟩), .int .i64 0, .string f.nm, .pointer (some ⟨r, 0, none⟩)] 126); exact ⟨(hb.cell (p := ⟨X, 0, none⟩) HXS9.out).trans y0, (hb.cell (p := ⟨X, 1, none⟩) HXS9.out).trans y1, (hb.cell (p := ⟨X, 2, none⟩) HXS9.out).trans y2, (hb.cell (p := ⟨X, 3, none⟩) HXS9.out).trans y3, (hb.cell (p := ⟨X, 4, none⟩) HXS9.out).trans y4⟩), ?_⟩
    clear HS
    refine wpAnyH_all (rs := [7]) (by kernel_rfl) (by simp) ?_
    intro k hk; simp only [List.mem_cons, List.not_mem_nil, or_false] at hk; subst hk
    refine op_atJ 7 (d := some 68) (op := .call { callee := .builtin .append, args := #[(.tmp 65), (.tmp 67)], argTypes := #[51, 51] }) (by rfl) ?_
    intro o6 hod6 hoo6
    refine wp_pushC (.tmp 65) (.tmp 67) hoo6 B d SX ⟨3, b, 0, f.nm, (some r)⟩ HK9.out HLV.out.symm (by rfl) HLL.out HC.out ?_
    intro va vn vc w10 c10 f10 hk10 hm10
    have HK10 := Lib.hid hk10
    have HM10 := Lib.hid (HM9.out.trans hm10)
    have HT7 := Lib.hid (show w10.there d 3 1 from fun j hj => by
      obtain rfl : j = 0 := by omega
      exact ⟨by rw [Nat.add_zero, c10]; rfl, f10⟩)
    have HS := Lib.hid (show World.cell? w10 ⟨X, 0, none⟩ = some (.int .i64 3) ∧ World.cell? w10 ⟨X, 1, none⟩ = some (.pointer (some ⟨b, 0, none⟩)) ∧ World.cell? w10 ⟨X, 2, none⟩ = some (.int .i64 0) ∧ World.cell? w10 ⟨X, 3, none⟩ = some (.string f.nm) ∧ World.cell? w10 ⟨X, 4, none⟩ = some (.pointer (some ⟨r, 0, none⟩)) from by
      have e9 := hm10.block X HXS9.out HXN9.out
      rw [Below.heap_setCell w10 ⟨d, 3, none⟩ _ X (show X ≠ d from fun e => HXN9.out (.inl e))] at e9
      have q : ∀ i, w10.cell? ⟨X, i, none⟩ = w9d.cell? ⟨X, i, none⟩ := fun i => World.cell?_of_block e9
      have hx := HX9.out
      exact ⟨(q 0).trans ((cell_of_row w9d X 0 _ _ _ hx).trans rfl), (q 1).trans ((cell_of_row w9d X 1 _ _ _ hx).trans rfl), (q 2).trans ((cell_of_row w9d X 2 _ _ _ hx).trans rfl), (q 3).trans ((cell_of_row w9d X 3 _ _ _ hx).trans rfl), (q 4).trans ((cell_of_row w9d X 4 _ _ _ hx).trans rfl)⟩)
    have HXD := Lib.hid (show X ≠ d from fun e => HXN9.out (.inl e))
    rw [hod6]
    clear hod6 hoo6 hk10 hm10 c10 f10
    simp only [Act.put, List.setIfInBounds_toArray, List.set_cons_zero, List.set_cons_succ]
    refine ⟨HS.out, ?_⟩
    refine anyH_pureG 8 (d := 69) (op := .nilCheck (.tmp 61)) (gd := none) (.pointer (some ⟨d, 0, none⟩)) (by rfl) (fun o ho => wanted_plain ho _) (by kernel_rfl) (by kernel_rfl) (by kernel_rfl) (fun _ _ _ h => h) (fun o ho W hW => by unfold execOp; simp only [ho]; go_simp) HS.out ?_
    simp only [Act.put, List.setIfInBounds_toArray, List.set_cons_zero, List.set_cons_succ]
    refine anyH_pureG 9 (d := 70) (op := .fieldAddr 53 (.tmp 69) 3) (gd := none) (.pointer (some ⟨d, 3, none⟩)) (by rfl) (fun o ho => wanted_plain ho _) (by kernel_rfl) (by kernel_rfl) (by kernel_rfl) (fun _ _ _ h => h) (fun o ho W hW => by unfold execOp; simp only [ho]; go_simp) HS.out ?_
    simp only [Act.put, List.setIfInBounds_toArray, List.set_cons_zero, List.set_cons_succ]
    refine wpAnyH_all (rs := [10]) (by kernel_rfl) (by simp) ?_
    intro k hk; simp only [List.mem_cons, List.not_mem_nil, or_false] at hk; subst hk
    refine op_atJ 10 (d := none) (op := .store 51 (.tmp 70) (.tmp 68)) (by rfl) ?_
    intro o7 hod7 hoo7
    refine wp_store_one 51 (.tmp 70) (.tmp 68) hoo7 d 3 (.slice va vn vc) (by rfl) (by rfl) HT7.out (by kernel_rfl) (by rfl) (by rfl) ?_
    rw [hod7]
    clear hod7 hoo7
    simp only [Act.put, List.setIfInBounds_toArray, List.set_cons_zero, List.set_cons_succ]
    refine ⟨by obtain ⟨y0, y1, y2, y3, y4⟩ := HS.out; have q : ∀ i, (w10.setCells d 3 [.slice va vn vc]).cell? ⟨X, i, none⟩ = w10.cell? ⟨X, i, none⟩ := fun i => World.cell?_of_block (one_heap HXD.out); exact ⟨(q 0).trans y0, (q 1).trans y1, (q 2).trans y2, (q 3).trans y3, (q 4).trans y4⟩, ?_⟩
    refine wpAnyH_done (by kernel_rfl) ?_ _
    clear HS HT7 HL1
    obtain ⟨w11, hw11⟩ : ∃ w11, w11 = w10.setCells d 3 [.slice va vn vc] := ⟨_, rfl⟩
    have HK11 := Lib.hid (show DK B d (SX.more (.slice va vn vc) ⟨3, b, 0, f.nm, (some r)⟩) w11 from by rw [hw11]; exact HK10.out)
    have HM11 := Lib.hid (show Mov S d (SX.more (.slice va vn vc) ⟨3, b, 0, f.nm, (some r)⟩) _ w11 from by rw [hw11]; exact HM10.out)
    rw [← hw11]
    clear hw11 HK10 HM10 HK9 HM9
    go_wp2_with fail
    go_ret
    refine ⟨rfl, m, .slice va vn vc, ?_, ?_⟩
    · have := HK11.out
      rw [HSX.out] at this
      exact this
    · have := HM11.out
      rw [HSX.out] at this
      exact this
  · refine op_atJ 6 (d := some 67) (op := .buildSlice 51 1 #[(0, (.tmp 66))]) (by rfl) ?_
    intro o5 hod5 hoo5
    refine wp_bsG (.tmp 66) hoo5 3 b 0 f.nm (some ⟨r, 0, none⟩) (by rfl) ?_
    rw [hod5]
    clear hod5 hoo5
    simp only [Act.put, List.setIfInBounds_toArray, List.set_cons_zero, List.set_cons_succ]
    refine ⟨(show World.cell? _ ⟨X, 0, none⟩ = some (.int .i64 3) ∧ World.cell? _ ⟨X, 1, none⟩ = some (.pointer (some ⟨b, 0, none⟩)) ∧ World.cell? _ ⟨X, 2, none⟩ = some (.int .i64 0) ∧ World.cell? _ ⟨X, 3, none⟩ = some (.string f.nm) ∧ World.cell? _ ⟨X, 4, none⟩ = some (.pointer (some ⟨r, 0, none⟩)) from by obtain ⟨y0, y1, y2, y3, y4⟩ := HS.out; have hb := (Below.refl _ _).alloc (Nat.le_refl w9d.heap.size) (.cells #[.int .i64 3, .pointer (some ⟨b, 0, none⟩), .int .i64 0, .string f.nm, .pointer (some ⟨r, 0, none⟩)] 126); exact ⟨(hb.cell (p := ⟨X, 0, none⟩) HXS9.out).trans y0, (hb.cell (p := ⟨X, 1, none⟩) HXS9.out).trans y1, (hb.cell (p := ⟨X, 2, none⟩) HXS9.out).trans y2, (hb.cell (p := ⟨X, 3, none⟩) HXS9.out).trans y3, (hb.cell (p := ⟨X, 4, none⟩) HXS9.out).trans y4⟩), ?_⟩
    refine wpAnyH_all (rs := [4]) (by kernel_rfl) (by simp) ?_
    intro k hk; simp only [List.mem_cons, List.not_mem_nil, or_false] at hk; subst hk
    refine op_atJ 4 (d := some 65) (op := .load 51 (.tmp 64)) (by rfl) ?_
    intro o4 hod4 hoo4
    refine wp_load_g 51 (.tmp 64) hoo4 (.pointer (some ⟨d, 3, none⟩)) (.slice la ln lc) (by rfl) (run_cell_chgs _ ⟨d, 3, none⟩ _ _ _ ((HK9.out.alloc (.cells #[.int .i64 3, .pointer (some ⟨b, 0, none⟩), .int .i64 0, .string f.nm, .pointer (some ⟨r, 0, none⟩)] 126)).cells.2.2.2.1.trans (congrArg some HLV.out))) ?_
    rw [hod4]
    clear hod4 hoo4
    simp only [Act.put, List.setIfInBounds_toArray, List.set_cons_zero, List.set_cons_succ]
    refine ⟨(show World.cell? _ ⟨X, 0, none⟩ = some (.int .i64 3) ∧ World.cell? _ ⟨X, 1, none⟩ = some (.pointer (some ⟨b, 0, none⟩)) ∧ World.cell? _ ⟨X, 2, none⟩ = some (.int .i64 0) ∧ World.cell? _ ⟨X, 3, none⟩ = some (.string f.nm) ∧ World.cell? _ ⟨X, 4, none⟩ = some (.pointer (some ⟨r, 0, none⟩)) from by obtain ⟨y0, y1, y2, y3, y4⟩ := HS.out; have hb := (Below.refl _ _).alloc (Nat.le_refl w9d.heap.size) (.cells #[.int .i64 3, .pointer (some ⟨b, 0, none⟩), .int .i64 0, .string f.nm, .pointer (some ⟨r, 0, none⟩)] 126); exact ⟨(hb.cell (p := ⟨X, 0, none⟩) HXS9.out).trans y0, (hb.cell (p := ⟨X, 1, none⟩) HXS9.out).trans y1, (hb.cell (p := ⟨X, 2, none⟩) HXS9.out).trans y2, (hb.cell (p := ⟨X, 3, none⟩) HXS9.out).trans y3, (hb.cell (p := ⟨X, 4, none⟩) HXS9.out).trans y4⟩), ?_⟩
    clear HS
    refine wpAnyH_all (rs := [7]) (by kernel_rfl) (by simp) ?_
    intro k hk; simp only [List.mem_cons, List.not_mem_nil, or_false] at hk; subst hk
    refine op_atJ 7 (d := some 68) (op := .call { callee := .builtin .append, args := #[(.tmp 65), (.tmp 67)], argTypes := #[51, 51] }) (by rfl) ?_
    intro o6 hod6 hoo6
    refine wp_pushC (.tmp 65) (.tmp 67) hoo6 B d SX ⟨3, b, 0, f.nm, (some r)⟩ HK9.out HLV.out.symm (by rfl) HLL.out HC.out ?_
    intro va vn vc w10 c10 f10 hk10 hm10
    have HK10 := Lib.hid hk10
    have HM10 := Lib.hid (HM9.out.trans hm10)
    have HT7 := Lib.hid (show w10.there d 3 1 from fun j hj => by
      obtain rfl : j = 0 := by omega
      exact ⟨by rw [Nat.add_zero, c10]; rfl, f10⟩)
    have HS := Lib.hid (show World.cell? w10 ⟨X, 0, none⟩ = some (.int .i64 3) ∧ World.cell? w10 ⟨X, 1, none⟩ = some (.pointer (some ⟨b, 0, none⟩)) ∧ World.cell? w10 ⟨X, 2, none⟩ = some (.int .i64 0) ∧ World.cell? w10 ⟨X, 3, none⟩ = some (.string f.nm) ∧ World.cell? w10 ⟨X, 4, none⟩ = some (.pointer (some ⟨r, 0, none⟩)) from by
      have e9 := hm10.block X HXS9.out HXN9.out
      rw [Below.heap_setCell w10 ⟨d, 3, none⟩ _ X (show X ≠ d from fun e => HXN9.out (.inl e))] at e9
      have q : ∀ i, w10.cell? ⟨X, i, none⟩ = w9d.cell? ⟨X, i, none⟩ := fun i => World.cell?_of_block e9
      have hx := HX9.out
      exact ⟨(q 0).trans ((cell_of_row w9d X 0 _ _ _ hx).trans rfl), (q 1).trans ((cell_of_row w9d X 1 _ _ _ hx).trans rfl), (q 2).trans ((cell_of_row w9d X 2 _ _ _ hx).trans rfl), (q 3).trans ((cell_of_row w9d X 3 _ _ _ hx).trans rfl), (q 4).trans ((cell_of_row w9d X 4 _ _ _ hx).trans rfl)⟩)
    have HXD := Lib.hid (show X ≠ d from fun e => HXN9.out (.inl e))
    rw [hod6]
    clear hod6 hoo6 hk10 hm10 c10 f10
    simp only [Act.put, List.setIfInBounds_toArray, List.set_cons_zero, List.set_cons_succ]
    refine ⟨HS.out, ?_⟩
    refine anyH_pureG 8 (d := 69) (op := .nilCheck (.tmp 61)) (gd := none) (.pointer (some ⟨d, 0, none⟩)) (by rfl) (fun o ho => wanted_plain ho _) (by kernel_rfl) (by kernel_rfl) (by kernel_rfl) (fun _ _ _ h => h) (fun o ho W hW => by unfold execOp; simp only [ho]; go_simp) HS.out ?_
    simp only [Act.put, List.setIfInBounds_toArray, List.set_cons_zero, List.set_cons_succ]
    refine anyH_pureG 9 (d := 70) (op := .fieldAddr 53 (.tmp 69) 3) (gd := none) (.pointer (some ⟨d, 3, none⟩)) (by rfl) (fun o ho => wanted_plain ho _) (by kernel_rfl) (by kernel_rfl) (by kernel_rfl) (fun _ _ _ h => h) (fun o ho W hW => by unfold execOp; simp only [ho]; go_simp) HS.out ?_
    simp only [Act.put, List.setIfInBounds_toArray, List.set_cons_zero, List.set_cons_succ]
    refine wpAnyH_all (rs := [10]) (by kernel_rfl) (by simp) ?_
    intro k hk; simp only [List.mem_cons, List.not_mem_nil, or_false] at hk; subst hk
    refine op_atJ 10 (d := none) (op := .store 51 (.tmp 70) (.tmp 68)) (by rfl) ?_
    intro o7 hod7 hoo7
    refine wp_store_one 51 (.tmp 70) (.tmp 68) hoo7 d 3 (.slice va vn vc) (by rfl) (by rfl) HT7.out (by kernel_rfl) (by rfl) (by rfl) ?_
    rw [hod7]
    clear hod7 hoo7
    simp only [Act.put, List.setIfInBounds_toArray, List.set_cons_zero, List.set_cons_succ]
    refine ⟨by obtain ⟨y0, y1, y2, y3, y4⟩ := HS.out; have q : ∀ i, (w10.setCells d 3 [.slice va vn vc]).cell? ⟨X, i, none⟩ = w10.cell? ⟨X, i, none⟩ := fun i => World.cell?_of_block (one_heap HXD.out); exact ⟨(q 0).trans y0, (q 1).trans y1, (q 2).trans y2, (q 3).trans y3, (q 4).trans y4⟩, ?_⟩
    refine wpAnyH_done (by kernel_rfl) ?_ _
    clear HS HT7 HL1
    obtain ⟨w11, hw11⟩ : ∃ w11, w11 = w10.setCells d 3 [.slice va vn vc] := ⟨_, rfl⟩
    have HK11 := Lib.hid (show DK B d (SX.more (.slice va vn vc) ⟨3, b, 0, f.nm, (some r)⟩) w11 from by rw [hw11]; exact HK10.out)
    have HM11 := Lib.hid (show Mov S d (SX.more (.slice va vn vc) ⟨3, b, 0, f.nm, (some r)⟩) _ w11 from by rw [hw11]; exact HM10.out)
    rw [← hw11]
    clear hw11 HK10 HM10 HK9 HM9
    go_wp2_with fail
    go_ret
    refine ⟨rfl, m, .slice va vn vc, ?_, ?_⟩
    · have := HK11.out
      rw [HSX.out] at this
      exact this
    · have := HM11.out
      rw [HSX.out] at this
      exact this
set_option maxRecDepth 100000 in
set_option maxHeartbeats 8000000 in
theorem drename_no {B d : Nat} {S : Dsk} {w : World} (h : DK B d S w) (s t : ByteArray) (hs : s.size ≤ maxLen) (ht : t.size ≤ maxLen) (hn : (S.find s).2 ≠ 0) : Calls Try.prog 80 #[.pointer (some ⟨d, 0, none⟩), .string s, .string t] w fun e w' => e = .returned (.int .i64 (S.find s).2) ∧ w' = w := by
  have HF := Lib.hid (dfind_c h s hs)
  have hn' : ((S.find s).2 == 0) = false := beq_eq_false_iff_ne.2 hn
  clear h
  obtain ⟨x, hx⟩ : ∃ x, x = (S.find s).2 := ⟨_, rfl⟩
  obtain ⟨y, hy⟩ : ∃ y, y = ptrOf (S.find s).1 := ⟨_, rfl⟩
  rw [← hx] at HF hn hn' ⊢
  rw [← hy] at HF
  clear hx
  have hy' : ∃ z, y = .pointer z := ⟨_, hy⟩
  obtain ⟨z, rfl⟩ := hy'
  clear hy
  go_enter Try.func80, Try.ntmps80
  go_wp2_with fail
  refine HF.out.mono ?_
  rintro e1 w1 ⟨rfl, rfl⟩
  go_wp2_with fail
  go_ret
  exact ⟨rfl, rfl⟩
set_option maxRecDepth 100000 in
set_option maxHeartbeats 8000000 in
theorem drename_bad {B d : Nat} {S : Dsk} {w : World} (h : DK B d S w) (s t : ByteArray) (hs : s.size ≤ maxLen) (ht : t.size ≤ maxLen) (hd : S.down = false) {b : Nat} (ha : S.at s = some b) (hn : isNm t = false) : Calls Try.prog 80 #[.pointer (some ⟨d, 0, none⟩), .string s, .string t] w fun e w' => e = .returned (.int .i64 1) ∧ w' = w := by
  have HF := Lib.hid (dfind_c h s hs)
  rw [show S.find s = (some b, 0) from by unfold Dsk.find; rw [hd, ha]; rfl] at HF
  simp only [ptrOf, Option.map_some] at HF
  have HI := Lib.hid (isname_c t w ht)
  rw [show (decide (1 ≤ t.size) && decide (t.size ≤ 160)) = false from hn] at HI
  clear h hn
  go_enter Try.func80, Try.ntmps80
  go_wp2_with fail
  refine HF.out.mono ?_
  rintro e1 w1 ⟨rfl, rfl⟩
  go_wp2_with fail
  refine HI.out.mono ?_
  rintro e2 w2 ⟨rfl, rfl⟩
  go_wp2_with fail
  go_ret
  exact ⟨rfl, rfl⟩
set_option maxRecDepth 100000 in
set_option maxHeartbeats 8000000 in
theorem drename_power {B d : Nat} {S : Dsk} {w : World} (h : DK B d S w) (s t : ByteArray) (hs : s.size ≤ maxLen) (ht : t.size ≤ maxLen) (hd : S.down = false) {b : Nat} (ha : S.at s = some b) (hn : isNm t = true) (hf : S.fuse = 0) : Calls Try.prog 80 #[.pointer (some ⟨d, 0, none⟩), .string s, .string t] w fun e w' => e = .returned (.int .i64 5) ∧ DK B d { S with down := true } w' ∧ Mov S d { S with down := true } w w' := by
  have HF := Lib.hid (dfind_c h s hs)
  rw [show S.find s = (some b, 0) from by unfold Dsk.find; rw [hd, ha]; rfl] at HF
  simp only [ptrOf, Option.map_some] at HF
  have HI := Lib.hid (isname_c t w ht)
  rw [show (decide (1 ≤ t.size) && decide (t.size ≤ 160)) = true from hn] at HI
  have hst : S.step = ({ S with down := true }, 5) := by
    unfold Dsk.step
    rw [if_pos hf]
  have HST := Lib.hid (dstep_c h)
  rw [hst] at HST
  clear h hn hst
  go_enter Try.func80, Try.ntmps80
  go_wp2_with fail
  refine HF.out.mono ?_
  rintro e1 w1 ⟨rfl, rfl⟩
  go_wp2_with fail
  refine HI.out.mono ?_
  rintro e2 w2 ⟨rfl, rfl⟩
  go_wp2_with fail
  refine HST.out.mono ?_
  rintro e3 w3 ⟨rfl, hk3, hm3⟩
  have HK3 := Lib.hid hk3
  have HM3 := Lib.hid hm3
  clear hk3 hm3
  go_wp2_with fail
  go_ret
  exact ⟨rfl, HK3.out, HM3.out⟩
end Go.Proofs.Ytihbgigledmliaa
namespace Go.Proofs.Ytihbgigledmliaa
open Go.RowKit Go.Maps
set_option linter.unusedVariables false
theorem boxc {w : World} {X : Nat} {k z : Int} {b : Nat} {nm : ByteArray} {rp : Option Addr} (hh : w.heap[X]? = some (.cells #[.int .i64 k, .pointer (some ⟨b, 0, none⟩), .int .i64 z, .string nm, .pointer rp] 126 (0, 0))) :
    w.cell? ⟨X, 0, none⟩ = some (.int .i64 k) ∧ w.cell? ⟨X, 1, none⟩ = some (.pointer (some ⟨b, 0, none⟩)) ∧ w.cell? ⟨X, 2, none⟩ = some (.int .i64 z) ∧ w.cell? ⟨X, 3, none⟩ = some (.string nm) ∧ w.cell? ⟨X, 4, none⟩ = some (.pointer rp) :=
  ⟨(cell_of_row w X 0 _ _ _ hh).trans rfl, (cell_of_row w X 1 _ _ _ hh).trans rfl, (cell_of_row w X 2 _ _ _ hh).trans rfl, (cell_of_row w X 3 _ _ _ hh).trans rfl, (cell_of_row w X 4 _ _ _ hh).trans rfl⟩
end Go.Proofs.Ytihbgigledmliaa
namespace Go.Proofs.Ytihbgigledmliaa
open Go.RowKit Go.Maps
set_option linter.unusedVariables false
def Dsk.zsOf (S : Dsk) (b : Nat) : List Nat := match S.fl b with
  | some f => f.zs
  | none => []
def Dsk.nmOf (S : Dsk) (b : Nat) : ByteArray := match S.fl b with
  | some f => f.nm
  | none => ⟨#[]⟩
def Dsk.vw (S : Dsk) : Vw := ⟨S.at, S.zsOf, S.nmOf⟩
theorem Dsk.vw_of {S S' : Dsk} (h1 : S'.D = S.D) (h2 : S'.fl = S.fl) : S'.vw = S.vw := by
  unfold Dsk.vw
  refine Vw.ext3 ?_ ?_ ?_
  · funext s; show S'.at s = S.at s; unfold Dsk.at; rw [h1]
  · funext b; show S'.zsOf b = S.zsOf b; unfold Dsk.zsOf; rw [h2]
  · funext b; show S'.nmOf b = S.nmOf b; unfold Dsk.nmOf; rw [h2]
theorem Dsk.vw_step (S : Dsk) : S.step.1.vw = S.vw := by
  unfold Dsk.step
  split
  · exact Dsk.vw_of rfl rfl
  · split
    · exact Dsk.vw_of rfl rfl
    · rfl
theorem Dsk.vw_drop (S : Dsk) (f : Fil) : (S.drop f).vw = S.vw.set f.nm none :=
  Vw.ext3 (by funext x; exact at_drop f x) rfl rfl
theorem Dsk.vw_put {S : Dsk} (h : IsMap S.D) (m b : Nat) (f : Fil) : (S.put m b f).vw = S.vw.set f.nm (some b) :=
  Vw.ext3 (by funext x; exact at_put h m b f x) rfl rfl
theorem Dsk.vw_file (S : Dsk) (b : Nat) (f : Fil) : (S.file b f).vw = (S.vw.bytes b f.zs).name b f.nm := by
  refine Vw.ext3 rfl ?_ ?_
  · funext c
    show (match (if c = b then some f else S.fl c) with | some f => f.zs | none => []) = if c = b then f.zs else S.zsOf c
    by_cases e : c = b
    · rw [if_pos e, if_pos e]
    · rw [if_neg e, if_neg e]; rfl
  · funext c
    show (match (if c = b then some f else S.fl c) with | some f => f.nm | none => ⟨#[]⟩) = if c = b then f.nm else S.nmOf c
    by_cases e : c = b
    · rw [if_pos e, if_pos e]
    · rw [if_neg e, if_neg e]; rfl
theorem Dsk.zs_of {S : Dsk} {b : Nat} {f : Fil} (h : S.fl b = some f) : S.vw.zs b = f.zs := by show S.zsOf b = _; unfold Dsk.zsOf; rw [h]
theorem Dsk.nm_of {S : Dsk} {b : Nat} {f : Fil} (h : S.fl b = some f) : S.vw.nm b = f.nm := by show S.nmOf b = _; unfold Dsk.nmOf; rw [h]
/-- the map's keys are the names -/
structure Td (S : Dsk) : Prop where
  tidy : Tidy S.D
  has : ∀ s, Maps.has S.D (keyS s) = (S.at s).isSome
theorem DKr.td {B : Nat} {S : Dsk} {w : World} (h : DKr B S w) : Td S := ⟨h.tidy, h.has⟩
theorem Td.same {S S' : Dsk} (h : Td S) (e : S'.D = S.D) : Td S' := ⟨by rw [e]; exact h.tidy, fun s => by unfold Dsk.at; rw [e]; exact h.has s⟩
theorem Td.drop {S : Dsk} (h : Td S) (f : Fil) : Td (S.drop f) := ⟨h.tidy.del _, fun s => by
  rw [at_drop]
  show Maps.has (S.D.del (keyS f.nm)) (keyS s) = _
  by_cases e : s = f.nm
  · rw [if_pos e, e, has_del_same]; rfl
  · rw [if_neg e, has_del_other (fun k => e (keyS_inj k))]; exact h.has s⟩
theorem Td.put {S : Dsk} (h : Td S) (m b : Nat) (f : Fil) : Td (S.put m b f) := ⟨h.tidy.put (by trivial) _, fun s => by
  rw [at_put h.tidy.isMap]
  show Maps.has (S.D.put (keyS f.nm) _) (keyS s) = _
  by_cases e : s = f.nm
  · rw [if_pos e, e, has_put_same h.tidy.isMap (by trivial)]; rfl
  · rw [if_neg e, has_put_other (fun k => e (keyS_inj k))]; exact h.has s⟩
/-- what is told of the files -/
structure JS (S : Dsk) (l : Fls) : Prop where
  ab : Ab S.vw l
  used : S.used = (usedF l : Int)
  size : Maps.size S.D = l.length
theorem JS.uniq {S : Dsk} {l m : Fls} (h : JS S l) (k : Ab S.vw m) : l = m := srt_ext h.ab.srt k.srt fun n => (h.ab.look n).symm.trans (k.look n)
theorem JS.same {S S' : Dsk} {l : Fls} (h : JS S l) (h1 : S'.D = S.D) (h2 : S'.fl = S.fl) (h3 : S'.used = S.used) : JS S' l :=
  ⟨by rw [Dsk.vw_of h1 h2]; exact h.ab, h3.trans h.used, by rw [h1]; exact h.size⟩
theorem JS.drop {S : Dsk} {l : Fls} {b : Nat} {f : Fil} (h : JS S l) (hk : Td S) (hf : S.fl b = some f) (ha : S.at f.nm = some b) (hu : usedF l ≤ 67108864) : JS (S.drop f) (withoutF l f.nm) := by
  have hlk : lookF l f.nm = some f.zs := by rw [h.ab.has (s := f.nm) (b := b) ha, Dsk.zs_of hf]
  have h1 := used_without (n := f.nm) h.ab.srt
  have h2 := length_without (n := f.nm) h.ab.srt
  rw [hlk] at h1 h2
  simp only [Option.getD_some, Option.isSome_some, if_true] at h1 h2
  refine ⟨by rw [Dsk.vw_drop]; exact h.ab.remove f.nm, ?_, ?_⟩
  · show wrap64 (S.used - (f.zs.length : Int)) = _
    rw [h.used, wrap64_id (by omega) (by omega)]
    omega
  · have h3 := size_del (k := keyS f.nm) hk.tidy
    rw [hk.has, ha] at h3
    simp only [Option.isSome_some, if_true] at h3
    have h4 := h.size
    show Maps.size (S.D.del (keyS f.nm)) = _
    omega
theorem JS.put {S : Dsk} {l : Fls} {b : Nat} {f : Fil} (h : JS S l) (hk : Td S) (hf : S.fl b = some f) (ha : S.at f.nm = none) (m : Nat) (hb : ∀ x, S.at x ≠ some b) (hu : usedF l + f.zs.length ≤ 1000000000) : JS (S.put m b f) (withF l (f.nm, f.zs)) := by
  have hn := h.ab.lacks (s := f.nm) ha
  refine ⟨?_, ?_, ?_⟩
  · rw [Dsk.vw_put hk.tidy.isMap]
    refine ⟨fun t => ?_, fun t c hc => ?_, srt_with h.ab.srt (lookF_none hn)⟩
    · rw [look_with t hn]
      show (if t = f.nm then some b else S.at t).map S.vw.zs = _
      by_cases e : t = f.nm
      · rw [if_pos e, if_pos e, Option.map_some, Dsk.zs_of hf]
      · rw [if_neg e, if_neg e]; exact h.ab.look t
    · have hc' : (if t = f.nm then some b else S.at t) = some c := hc
      show S.vw.nm c = t
      split at hc'
      · rename_i e; cases hc'; rw [Dsk.nm_of hf, e]
      · exact h.ab.nm t c hc'
  · show wrap64 (S.used + (f.zs.length : Int)) = _
    rw [h.used, used_with, wrap64_id (by omega) (by omega)]
    show _ = ((usedF l + f.zs.length : Nat) : Int)
    omega
  · show Maps.size (S.D.put (keyS f.nm) _) = _
    rw [size_put hk.tidy, hk.has, ha, length_with, h.size]
    rfl
/-- a file that no name leads to gets another name, other bytes -/
theorem JS.file {S : Dsk} {l : Fls} {b : Nat} (h : JS S l) (hb : ∀ x, S.at x ≠ some b) (f : Fil) : JS (S.file b f) l := by
  refine ⟨?_, h.used, h.size⟩
  rw [Dsk.vw_file]
  refine ⟨fun t => ?_, fun t c hc => ?_, h.ab.srt⟩
  · rw [← h.ab.look]
    show (S.at t).map (fun c => if c = b then f.zs else S.vw.zs c) = (S.at t).map S.vw.zs
    cases e : S.at t with
    | none => rfl
    | some c =>
      have hc : c ≠ b := fun k => hb t (by rw [e, k])
      simp only [Option.map_some]
      rw [if_neg hc]
  · have hcb : c ≠ b := fun k => hb t (by rw [← k]; exact hc)
    show (if c = b then f.nm else S.vw.nm c) = t
    rw [if_neg hcb]
    exact h.ab.nm t c hc
/-- a file's bytes become others -/
theorem JS.bytes {S S' : Dsk} {l : Fls} {s : ByteArray} {b : Nat} {f : Fil} {v : Value} {zs : List Nat} (h : JS S l) (hf : S.fl b = some f) (ha : S.at s = some b) (h1 : S'.D = S.D) (h2 : S'.fl = (S.file b ⟨f.nm, v, zs⟩).fl) (h3 : S'.used = S.used - (f.zs.length : Int) + (zs.length : Int)) :
    JS S' (withF (withoutF l s) (s, zs)) ∧ S'.vw = S.vw.bytes b zs := by
  have hv : S'.vw = S.vw.bytes b zs := by
    have e : S'.vw = (S.file b ⟨f.nm, v, zs⟩).vw := Dsk.vw_of h1 h2
    rw [e, Dsk.vw_file]
    refine Vw.ext3 rfl rfl ?_
    funext c
    show (if c = b then f.nm else S.vw.nm c) = S.vw.nm c
    by_cases e : c = b
    · rw [if_pos e, e, Dsk.nm_of hf]
    · rw [if_neg e]
  have hlk : lookF l s = some f.zs := by rw [h.ab.has (s := s) (b := b) ha, Dsk.zs_of hf]
  have k1 := used_without (n := s) h.ab.srt
  have k2 := length_without (n := s) h.ab.srt
  rw [hlk] at k1 k2
  simp only [Option.getD_some, Option.isSome_some, if_true] at k1 k2
  have hn : lookF (withoutF l s) s = none := by rw [look_without, if_pos rfl]
  refine ⟨⟨?_, ?_, ?_⟩, hv⟩
  · rw [hv]
    refine ⟨fun t => ?_, fun t c hc => h.ab.nm t c hc, srt_with (srt_without h.ab.srt) fun x hx => (mem_withoutF.1 hx).2⟩
    rw [look_with t hn, look_without]
    show (S.at t).map (fun c => if c = b then zs else S.vw.zs c) = _
    by_cases e : t = s
    · rw [if_pos e, e, ha]; simp
    · rw [if_neg e, if_neg e, ← h.ab.look]
      show _ = (S.at t).map S.vw.zs
      cases ev : S.at t with
      | none => rfl
      | some c =>
        have hc : c ≠ b := fun k => e (h.ab.inj (s := t) (t := s) ev (by rw [k]; exact ha))
        simp only [Option.map_some]
        rw [if_neg hc]
  · rw [h3, h.used, used_with]
    show _ = ((usedF (withoutF l s) + zs.length : Nat) : Int)
    omega
  · rw [h1, h.size, length_with]
    omega
end Go.Proofs.Ytihbgigledmliaa
namespace Go.Proofs.Ytihbgigledmliaa
open Go.RowKit Go.Maps
set_option linter.unusedVariables false
/-- the document's disk -/
structure Ad where
  room : Int
  fuse : Int
  down : Bool
  now : Fls
  sure : Fls
  loose : List DCh
def Ad.may (A : Ad) (c : DCh) : Int :=
  if c.kind = 0 then (if isNm c.a = false then 1 else if (lookF A.now c.a).isSome then 7 else if 4096 ≤ A.now.length then 4 else 0)
  else if (lookF A.now c.a).isNone then 6
  else if c.kind = 1 then (if 1048576 < c.p.length then 8 else if A.room - (usedF A.now : Int) < (c.p.length : Int) then 4 else 0)
  else if c.kind = 3 ∧ isNm c.b = false then 1 else 0
def Ad.off (A : Ad) : Ad := { A with down := true }
def Ad.spent (A : Ad) : Ad := { A with fuse := if 0 < A.fuse then A.fuse - 1 else A.fuse }
def Ad.did (A : Ad) (c : DCh) : Ad := { A.spent with now := doF A.now c, loose := A.loose ++ [c] }
def Ad.step (A : Ad) (c : DCh) : Ad × Int := if A.down then (A, 5) else if A.may c ≠ 0 then (A, A.may c) else if A.fuse = 0 then (A.off, 5) else (A.did c, 0)
def Ad.sync (A : Ad) : Ad × Int := if A.down then (A, 5) else if A.fuse = 0 then (A.off, 5) else ({ A.spent with sure := A.now, loose := [] }, 0)
structure RA (N : Nat) (S : Dsk) (A : Ad) : Prop where
  room : S.room = A.room
  r0 : 0 ≤ A.room
  r1 : A.room ≤ 67108864
  fuse : A.fuse = max S.fuse (-1)
  fb : S.fuse ≤ 9223372036854775807
  down : S.down = A.down
  used : S.used = (usedF A.now : Int)
  size : Maps.size S.D = A.now.length
  td : Td S
  chn : Chn A.room.toNat S.vw S.loose.reverse A.now A.loose.reverse A.sure
  big : S.n + 2 * S.loose.length ≤ N
  nms : ∀ b f, S.fl b = some f → f.nm.size ≤ 160
  cnm : ∀ c ∈ S.loose, c.name.size ≤ 160
  zsl : ∀ b f, S.fl b = some f → f.zs.length ≤ 67108864
theorem RA.mono {N M : Nat} {S : Dsk} {A : Ad} (h : RA N S A) (hM : N ≤ M) : RA M S A := { h with big := Nat.le_trans h.big hM }
theorem RA.js {N : Nat} {S : Dsk} {A : Ad} (h : RA N S A) : JS S A.now := ⟨h.chn.ab, h.used, h.size⟩
theorem RA.uR {N : Nat} {S : Dsk} {A : Ad} (h : RA N S A) : usedF A.now ≤ 67108864 := by have := h.chn.used; have := h.r1; omega
theorem RA.look {N : Nat} {S : Dsk} {A : Ad} (h : RA N S A) (s : ByteArray) : lookF A.now s = (S.at s).map S.vw.zs := (h.chn.ab.look s).symm
theorem RA.fuse0 {N : Nat} {S : Dsk} {A : Ad} (h : RA N S A) : S.fuse = 0 ↔ A.fuse = 0 := by have := h.fuse; omega
theorem RA.offS {N : Nat} {S : Dsk} {A : Ad} (h : RA N S A) : RA N { S with down := true } A.off :=
  ⟨h.room, h.r0, h.r1, h.fuse, h.fb, rfl, h.used, h.size, h.td.same rfl, by
    have e : ({ S with down := true } : Dsk).vw = S.vw := Dsk.vw_of rfl rfl
    rw [e]; exact h.chn, h.big, h.nms, h.cnm, h.zsl⟩
theorem step_facts (S : Dsk) (hf : S.fuse ≠ 0) : S.step.2 = 0 ∧ S.step.1.n = S.n ∧ S.step.1.fl = S.fl ∧ S.step.1.loose = S.loose ∧ S.step.1.D = S.D ∧ S.step.1.room = S.room ∧ S.step.1.used = S.used ∧ S.step.1.down = S.down ∧ S.step.1.mb = S.mb ∧ S.step.1.lv = S.lv := by
  unfold Dsk.step
  rw [if_neg hf]
  split <;> exact ⟨rfl, rfl, rfl, rfl, rfl, rfl, rfl, rfl, rfl, rfl⟩
theorem RA.stepped {N : Nat} {S : Dsk} {A : Ad} (h : RA N S A) (hf : S.fuse ≠ 0) : RA N S.step.1 A.spent := by
  obtain ⟨_, h2, h3, h4, h5, h6, h7, h8, _, _⟩ := step_facts S hf
  have hfu : A.spent.fuse = max S.step.1.fuse (-1) ∧ S.step.1.fuse ≤ 9223372036854775807 := by
    have h0 := h.fuse
    have h1 := h.fb
    unfold Ad.spent Dsk.step
    rw [if_neg hf]
    by_cases hp : 0 < S.fuse
    · rw [if_pos hp]
      show (if 0 < A.fuse then A.fuse - 1 else A.fuse) = max (wrap64 (S.fuse - 1)) (-1) ∧ wrap64 (S.fuse - 1) ≤ _
      rw [wrap64_id (by omega) (by omega)]
      split <;> omega
    · rw [if_neg hp]
      show (if 0 < A.fuse then A.fuse - 1 else A.fuse) = max S.fuse (-1) ∧ S.fuse ≤ _
      split <;> omega
  exact ⟨h6.trans h.room, h.r0, h.r1, hfu.1, hfu.2, h8.trans h.down, h7.trans h.used, by rw [h5]; exact h.size, h.td.same h5, by
    rw [Dsk.vw_step, h4]; exact h.chn, by rw [h2, h4]; exact h.big, by rw [h3]; exact h.nms, by rw [h4]; exact h.cnm, by rw [h3]; exact h.zsl⟩
/-- what a call leaves -/
def Did (B d N : Nat) (S : Dsk) (w : World) (A' : Ad) (w' : World) : Prop := ∃ S', DK B d S' w' ∧ RA N S' A' ∧ Mov S d S' w w'
theorem Did.same {B d N : Nat} {S : Dsk} {w : World} {A : Ad} (h : DK B d S w) (r : RA N S A) (k : Nat) : Did B d (N + k) S w A w := ⟨S, h, r.mono (Nat.le_add_right _ _), Mov.refl _ _ _⟩
theorem Did.off {B d N : Nat} {S : Dsk} {w w' : World} {A : Ad} (h : DK B d { S with down := true } w') (r : RA N S A) (m : Mov S d { S with down := true } w w') (k : Nat) : Did B d (N + k) S w A.off w' := ⟨_, h, r.offS.mono (Nat.le_add_right _ _), m⟩
theorem DK.inX {B d : Nat} {S : Dsk} {w : World} (h : DK B d S w) : (∀ c ∈ S.loose.reverse, inX (fun b => (S.fl b).isSome = true) c) ∧ ∀ s b, S.vw.ix s = some b → (S.fl b).isSome = true := by
  refine ⟨fun c hc => ?_, fun s b hb => ?_⟩
  · obtain ⟨⟨f, h1⟩, h2⟩ := h.rest.hc c (List.mem_reverse.1 hc)
    exact ⟨by show (S.fl c.file).isSome = true; rw [h1]; rfl, fun r hr => by obtain ⟨g, h3⟩ := h2 r hr; show (S.fl r).isSome = true; rw [h3]; rfl⟩
  · obtain ⟨f, h1, _⟩ := h.rest.at hb
    rw [h1]; rfl
theorem RA.create {B d N : Nat} {S : Dsk} {A : Ad} {w : World} (h : DK B d S w) (r : RA N S A) (s : ByteArray) (hn : isNm s = true) (ha : S.at s = none) (hf : S.fuse ≠ 0) (b m : Nat) (v : Value) (hb : S.fl b = none) : RA (N + 3) (S.step.1.made s b m v) (A.did ⟨0, s, ⟨#[]⟩, []⟩) := by
  obtain ⟨_, h2, h3, h4, h5, h6, h7, h8, _, _⟩ := step_facts S hf
  have r1 := r.stepped hf
  have hs : s.size ≤ 160 := by
    unfold isNm at hn
    simp only [Bool.and_eq_true, decide_eq_true_eq] at hn
    exact hn.2
  obtain ⟨x1, x2⟩ := h.inX
  have hnb : ∀ x, S.step.1.at x ≠ some b := fun x hx => by
    have hx' : S.at x = some b := by unfold Dsk.at at hx ⊢; rw [h5] at hx; exact hx
    obtain ⟨f, k1, _⟩ := h.rest.at hx'
    rw [hb] at k1; cases k1
  have ha1 : S.step.1.at s = none := by unfold Dsk.at at ha ⊢; rw [h5]; exact ha
  have j1 : JS S.step.1 A.now := r1.js
  have j2 := j1.file hnb ⟨s, .slice none 0 0, []⟩
  have td2 : Td (S.step.1.file b ⟨s, .slice none 0 0, []⟩) := r1.td.same rfl
  have hfb : (S.step.1.file b ⟨s, .slice none 0 0, []⟩).fl b = some ⟨s, .slice none 0 0, []⟩ := by show (if _ then _ else _) = _; rw [if_pos rfl]
  have j3 := j2.put td2 hfb (by exact ha1) m (by exact hnb) (by show usedF A.now + 0 ≤ _; have := r.uR; omega)
  have td3 := td2.put m b ⟨s, .slice none 0 0, []⟩
  have hv : (S.step.1.made s b m v).vw = ((S.vw.bytes b []).name b s).set s (some b) := by
    have e1 : (S.step.1.made s b m v).vw = ((S.step.1.file b ⟨s, .slice none 0 0, []⟩).put m b ⟨s, .slice none 0 0, []⟩).vw := Dsk.vw_of rfl rfl
    rw [e1, Dsk.vw_put td2.tidy.isMap, Dsk.vw_file, Dsk.vw_step]
  have hl : (S.step.1.made s b m v).loose = S.loose ++ [⟨0, b, 0, ⟨#[]⟩, none⟩] := by
    show S.step.1.loose ++ [_] = _
    rw [h4]
  have hc := r.chn.create x1 x2 s b ha (by rw [hb]; exact fun e => by cases e) 0 ⟨#[]⟩ none
  have hbig := r.big
  refine ⟨r1.room, r.r0, r.r1, r1.fuse, r1.fb, r1.down, j3.used, j3.size, td3.same rfl, ?_, ?_, fun c f hc => ?_, fun c hc => ?_, fun c f hc => ?_⟩
  · rw [hv, hl, List.reverse_append, List.reverse_singleton, List.singleton_append]
    show Chn _ _ _ _ (A.loose ++ [_]).reverse _
    rw [List.reverse_append, List.reverse_singleton, List.singleton_append]
    exact hc
  · rw [hl, List.length_append, List.length_singleton]
    show S.step.1.n + 1 + 2 * (S.loose.length + 1) ≤ N + 3
    rw [h2]
    omega
  · have hc' : (if c = b then some (⟨s, .slice none 0 0, []⟩ : Fil) else S.step.1.fl c) = some f := hc
    split at hc'
    · cases hc'; exact hs
    · rw [h3] at hc'; exact r.nms c f hc'
  · rw [hl] at hc
    rcases List.mem_append.1 hc with hc | hc
    · exact r.cnm c hc
    · rw [List.mem_singleton] at hc; subst hc; show (0 : Nat) ≤ 160; omega
  · have hc' : (if c = b then some (⟨s, .slice none 0 0, []⟩ : Fil) else S.step.1.fl c) = some f := hc
    split at hc'
    · cases hc'; show (0 : Nat) ≤ _; omega
    · rw [h3] at hc'; exact r.zsl c f hc'
theorem RA.append {N : Nat} {S : Dsk} {A : Ad} (r : RA N S A) (s : ByteArray) {b : Nat} {f : Fil} (ha : S.at s = some b) (hfl : S.fl b = some f) (ps : List Nat) (hp : ps.length ≤ 1048576) (hR : (usedF A.now : Int) + (ps.length : Int) ≤ A.room) (hf : S.fuse ≠ 0) (v v' : Value) : RA (N + 3) (S.step.1.laid b f v v' ps) (A.did ⟨1, s, ⟨#[]⟩, ps⟩) := by
  obtain ⟨_, h2, h3, h4, h5, h6, h7, h8, _, _⟩ := step_facts S hf
  have r1 := r.stepped hf
  have ha1 : S.step.1.at s = some b := by unfold Dsk.at at ha ⊢; rw [h5]; exact ha
  have hfl1 : S.step.1.fl b = some f := by rw [h3]; exact hfl
  have hu := r.uR
  have hrr := r.r1
  obtain ⟨j2, hv⟩ := r1.js.bytes (S' := S.step.1.laid b f v v' ps) (v := v') (zs := f.zs ++ ps) hfl1 ha1 rfl rfl (by
    show wrap64 (S.step.1.used + (ps.length : Int)) = S.step.1.used - (f.zs.length : Int) + ((f.zs ++ ps).length : Int)
    rw [h7, r.used, wrap64_id (by omega) (by omega), List.length_append]
    omega)
  rw [Dsk.vw_step] at hv
  have hzs : S.vw.zs b = f.zs := Dsk.zs_of hfl
  have hc := r.chn.append s b ps ha (by have := r.r0; omega) (by omega) hp ⟨#[]⟩ none
  rw [hzs] at hc
  have hdo : doF A.now ⟨1, s, ⟨#[]⟩, ps⟩ = withF (withoutF A.now s) (s, f.zs ++ ps) := by
    rw [doF1, r.look, ha, Option.map_some, hzs]; rfl
  have hl : (S.step.1.laid b f v v' ps).loose = S.loose ++ [⟨1, b, (f.zs.length : Int), ⟨#[]⟩, none⟩] := by
    show S.step.1.loose ++ [_] = _
    rw [h4]
  have hbig := r.big
  have hlz : f.zs.length + ps.length ≤ 67108864 := by
    have h9 := used_without (n := s) r.chn.ab.srt
    rw [r.look, ha, Option.map_some, hzs] at h9
    simp only [Option.getD_some] at h9
    omega
  have j3 : JS (S.step.1.laid b f v v' ps) (doF A.now ⟨1, s, ⟨#[]⟩, ps⟩) := by rw [hdo]; exact j2
  refine ⟨r1.room, r.r0, r.r1, r1.fuse, r1.fb, r1.down, j3.used, j3.size, r1.td.same rfl, ?_, ?_, fun c g hc => ?_, fun c hc => ?_, fun c g hc => ?_⟩
  · rw [hv, hl, List.reverse_append, List.reverse_singleton, List.singleton_append]
    show Chn _ _ _ _ (A.loose ++ [_]).reverse _
    rw [List.reverse_append, List.reverse_singleton, List.singleton_append]
    exact hc
  · rw [hl, List.length_append, List.length_singleton]
    show S.step.1.n + 2 * (S.loose.length + 1) ≤ N + 3
    rw [h2]
    omega
  · have hc' : (if c = b then some (⟨f.nm, v', f.zs ++ ps⟩ : Fil) else S.step.1.fl c) = some g := hc
    split at hc'
    · cases hc'; exact r.nms b f hfl
    · rw [h3] at hc'; exact r.nms c g hc'
  · rw [hl] at hc
    rcases List.mem_append.1 hc with hc | hc
    · exact r.cnm c hc
    · rw [List.mem_singleton] at hc; subst hc; show (0 : Nat) ≤ 160; omega
  · have hc' : (if c = b then some (⟨f.nm, v', f.zs ++ ps⟩ : Fil) else S.step.1.fl c) = some g := hc
    split at hc'
    · cases hc'; show (f.zs ++ ps).length ≤ _; rw [List.length_append]; exact hlz
    · rw [h3] at hc'; exact r.zsl c g hc'
theorem RA.remove {N : Nat} {S : Dsk} {A : Ad} (r : RA N S A) (s : ByteArray) {b : Nat} {f : Fil} (ha : S.at s = some b) (hfl : S.fl b = some f) (hfs : f.nm = s) (hf : S.fuse ≠ 0) (v : Value) : RA (N + 3) (S.step.1.gone f b v) (A.did ⟨2, s, ⟨#[]⟩, []⟩) := by
  obtain ⟨_, h2, h3, h4, h5, h6, h7, h8, _, _⟩ := step_facts S hf
  have r1 := r.stepped hf
  have ha1 : S.step.1.at f.nm = some b := by rw [hfs]; unfold Dsk.at at ha ⊢; rw [h5]; exact ha
  have hfl1 : S.step.1.fl b = some f := by rw [h3]; exact hfl
  have j2 := r1.js.drop r1.td hfl1 ha1 r.uR
  have hl : (S.step.1.gone f b v).loose = S.loose ++ [⟨2, b, 0, ⟨#[]⟩, none⟩] := by
    show S.step.1.loose ++ [_] = _
    rw [h4]
  have hv : (S.step.1.gone f b v).vw = S.vw.set s none := by
    have e1 : (S.step.1.gone f b v).vw = (S.step.1.drop f).vw := Dsk.vw_of rfl rfl
    rw [e1, Dsk.vw_drop, Dsk.vw_step, hfs]
  have hc := r.chn.remove s b ha 0 ⟨#[]⟩ none
  have hbig := r.big
  have j3 : JS (S.step.1.drop f) (doF A.now ⟨2, s, ⟨#[]⟩, []⟩) := by rw [doF2, ← hfs]; exact j2
  refine ⟨r1.room, r.r0, r.r1, r1.fuse, r1.fb, r1.down, j3.used, j3.size, (r1.td.drop f).same rfl, ?_, ?_, fun c g hc => r.nms c g (by rw [← h3]; exact hc), fun c hc => ?_, fun c g hc => r.zsl c g (by rw [← h3]; exact hc)⟩
  · rw [hv, hl, List.reverse_append, List.reverse_singleton, List.singleton_append]
    show Chn _ _ _ _ (A.loose ++ [_]).reverse _
    rw [List.reverse_append, List.reverse_singleton, List.singleton_append]
    exact hc
  · rw [hl, List.length_append, List.length_singleton]
    show S.step.1.n + 2 * (S.loose.length + 1) ≤ N + 3
    rw [h2]
    omega
  · rw [hl] at hc
    rcases List.mem_append.1 hc with hc | hc
    · exact r.cnm c hc
    · rw [List.mem_singleton] at hc; subst hc; show (0 : Nat) ≤ 160; omega
theorem RA.sync {N : Nat} {S : Dsk} {A : Ad} (r : RA N S A) (hf : S.fuse ≠ 0) : RA N S.step.1.sure { A.spent with sure := A.now, loose := [] } := by
  have r1 := r.stepped hf
  have hbig := r1.big
  refine ⟨r1.room, r.r0, r.r1, r1.fuse, r1.fb, r1.down, r1.used, r1.size, r1.td.same rfl, ?_, ?_, r1.nms, fun c hc => (by cases hc), r1.zsl⟩
  · have e1 : S.step.1.sure.vw = S.step.1.vw := Dsk.vw_of rfl rfl
    rw [e1]
    exact .nil r1.chn.ab r.chn.used
  · show S.step.1.n + 0 ≤ N
    omega
theorem RA.rename {N : Nat} {S : Dsk} {A : Ad} (r : RA N S A) (s t : ByteArray) (hn : isNm t = true) {b : Nat} {f : Fil} (ha : S.at s = some b) (hfl : S.fl b = some f) (hfs : f.nm = s) (hf : S.fuse ≠ 0) (S0 : Dsk) (rp : Option Nat) (m : Nat) (v : Value)
    (h0 : (rp = none ∧ S0 = S.step.1.drop f ∧ (S.drop f).at t = none) ∨ ∃ x g, rp = some x ∧ S0 = (S.step.1.drop f).drop g ∧ (S.drop f).at t = some x ∧ S.fl x = some g ∧ g.nm = t) : RA (N + 3) (S0.named f b t m v rp) (A.did ⟨3, s, t, []⟩) := by
  obtain ⟨_, h2, h3, h4, h5, h6, h7, h8, _, _⟩ := step_facts S hf
  have r1 := r.stepped hf
  have hat : ∀ x, S.step.1.at x = S.at x := fun x => by unfold Dsk.at; rw [h5]
  have ha1 : S.step.1.at f.nm = some b := by rw [hfs, hat]; exact ha
  have hfl1 : S.step.1.fl b = some f := by rw [h3]; exact hfl
  have hu := r.uR
  have j2 : JS (S.step.1.drop f) (withoutF A.now f.nm) := r1.js.drop r1.td hfl1 ha1 hu
  have td2 := r1.td.drop f
  have hzs : S.vw.zs b = f.zs := Dsk.zs_of hfl
  have hud := used_without (n := f.nm) r.chn.ab.srt
  have e1 : (S.step.1.drop f).vw = S.vw.set s none := by rw [Dsk.vw_drop, Dsk.vw_step, hfs]
  have hat2 : ∀ x, (S.step.1.drop f).at x = if x = s then none else S.at x := fun x => by rw [at_drop, hat, hfs]
  have hrp : rp = (S.vw.set s none).ix t := by
    have e : (S.vw.set s none).ix t = (S.drop f).at t := by
      rw [at_drop, hfs]; rfl
    rw [e]
    rcases h0 with ⟨k1, _, k3⟩ | ⟨x, g, k1, _, k3, _⟩
    · rw [k1, k3]
    · rw [k1, k3]
  have hno : ∀ x, (S.step.1.drop f).at x ≠ some b := fun x hx => by
    rw [hat2] at hx
    split at hx
    · cases hx
    · rename_i e
      exact e (r.chn.ab.inj (s := x) (t := s) (b := b) hx ha)
  -- behind the drops
  have hS0 : S0.fl = S.fl ∧ S0.n = S.n ∧ S0.loose = S.loose ∧ S0.room = S.room ∧ S0.fuse = S.step.1.fuse ∧ S0.down = S.step.1.down ∧ Td S0 ∧ (∃ l0, JS S0 l0 ∧ usedF l0 ≤ 67108864) ∧ (∀ x, S0.at x = if x = t then none else if x = s then none else S.at x) ∧ S0.vw.zs = S.vw.zs ∧ S0.vw.nm = S.vw.nm := by
    rcases h0 with ⟨_, k2, k3⟩ | ⟨x, g, _, k2, k3, k4, k5⟩
    · rw [k2]
      refine ⟨h3, h2, h4, h6, rfl, rfl, td2, ⟨_, j2, by omega⟩, fun y => ?_, by rw [e1]; rfl, by rw [e1]; rfl⟩
      rw [hat2]
      by_cases e : y = t
      · rw [if_pos e, e]
        rw [at_drop, hfs] at k3
        exact k3
      · rw [if_neg e]
    · rw [k2]
      have hg1 : (S.step.1.drop f).fl x = some g := by show S.step.1.fl x = _; rw [h3]; exact k4
      have hg2 : (S.step.1.drop f).at g.nm = some x := by
        rw [hat2, k5]
        rw [at_drop, hfs] at k3
        exact k3
      have hud2 := used_without (n := g.nm) (srt_without (n := f.nm) r.chn.ab.srt)
      refine ⟨h3, h2, h4, h6, rfl, rfl, td2.drop g, ⟨_, j2.drop td2 hg1 hg2 (by omega), by omega⟩, fun y => ?_, by rw [Dsk.vw_drop, e1]; rfl, by rw [Dsk.vw_drop, e1]; rfl⟩
      rw [at_drop, hat2, k5]
  obtain ⟨q1, q2, q3, q4, q5, q6, q7, ⟨l0, q8, q8'⟩, q9, q10, q11⟩ := hS0
  have hno0 : ∀ x, S0.at x ≠ some b := fun x hx => by
    rw [q9] at hx
    split at hx
    · cases hx
    · split at hx
      · cases hx
      · rename_i _ e
        exact e (r.chn.ab.inj (s := x) (t := s) (b := b) hx ha)
  have j3 := q8.file hno0 ⟨t, f.row, f.zs⟩
  have td3 : Td (S0.file b ⟨t, f.row, f.zs⟩) := q7.same rfl
  have hzl := r.zsl b f hfl
  have j4 := j3.put td3 (f := ⟨t, f.row, f.zs⟩) (by show (if _ then _ else _) = _; rw [if_pos rfl]) (by show S0.at t = none; rw [q9, if_pos rfl]) m (by exact hno0) (by show usedF l0 + f.zs.length ≤ _; omega)
  have hv : (S0.named f b t m v rp).vw = ((S.vw.set s none).name b t).set t (some b) := by
    have e2 : (S0.named f b t m v rp).vw = ((S0.file b ⟨t, f.row, f.zs⟩).put m b ⟨t, f.row, f.zs⟩).vw := Dsk.vw_of rfl rfl
    rw [e2, Dsk.vw_put td3.tidy.isMap, Dsk.vw_file]
    refine Vw.ext3 ?_ ?_ ?_
    · funext x
      show (if x = t then some b else S0.at x) = (if x = t then some b else if x = s then none else S.at x)
      rw [q9]
      by_cases e : x = t
      · rw [if_pos e, if_pos e]
      · rw [if_neg e, if_neg e, if_neg e]
    · funext c
      show (if c = b then f.zs else S0.vw.zs c) = S.vw.zs c
      rw [q10]
      by_cases e : c = b
      · rw [if_pos e, e, hzs]
      · rw [if_neg e]
    · funext c
      show (if c = b then t else S0.vw.nm c) = (if c = b then t else S.vw.nm c)
      rw [q11]
  have hc := r.chn.rename s t b ha 0
  rw [← hrp] at hc
  have hl : (S0.named f b t m v rp).loose = S.loose ++ [⟨3, b, 0, s, rp⟩] := by
    show S0.loose ++ [⟨3, b, 0, f.nm, rp⟩] = _
    rw [q3, hfs]
  have j5 : JS (S0.named f b t m v rp) (doF A.now ⟨3, s, t, []⟩) := by
    have j5 : JS (S0.named f b t m v rp) (withF l0 (t, f.zs)) := j4.same rfl rfl rfl
    have e := j5.uniq (m := doF A.now ⟨3, s, t, []⟩) (by rw [hv]; exact hc.ab)
    rw [← e]; exact j5
  have hbig := r.big
  have ht : t.size ≤ 160 := by
    unfold isNm at hn
    simp only [Bool.and_eq_true, decide_eq_true_eq] at hn
    exact hn.2
  refine ⟨q4.trans r.room, r.r0, r.r1, by show A.spent.fuse = max S0.fuse (-1); rw [q5]; exact r1.fuse, by show S0.fuse ≤ _; rw [q5]; exact r1.fb, by show S0.down = _; rw [q6]; exact r1.down, j5.used, j5.size, (td3.put m b _).same rfl, ?_, ?_, fun c g hc => ?_, fun c hc => ?_, fun c g hc => ?_⟩
  · rw [hv, hl, List.reverse_append, List.reverse_singleton, List.singleton_append]
    show Chn _ _ _ _ (A.loose ++ [_]).reverse _
    rw [List.reverse_append, List.reverse_singleton, List.singleton_append]
    exact hc
  · rw [hl, List.length_append, List.length_singleton]
    show S0.n + 1 + 2 * (S.loose.length + 1) ≤ N + 3
    rw [q2]
    omega
  · have hc' : (if c = b then some (⟨t, f.row, f.zs⟩ : Fil) else S0.fl c) = some g := hc
    split at hc'
    · cases hc'; exact ht
    · rw [q1] at hc'; exact r.nms c g hc'
  · rw [hl] at hc
    rcases List.mem_append.1 hc with hc | hc
    · exact r.cnm c hc
    · rw [List.mem_singleton] at hc; subst hc; show s.size ≤ 160; rw [← hfs]; exact r.nms b f hfl
  · have hc' : (if c = b then some (⟨t, f.row, f.zs⟩ : Fil) else S0.fl c) = some g := hc
    split at hc'
    · cases hc'; exact hzl
    · rw [q1] at hc'; exact r.zsl c g hc'
end Go.Proofs.Ytihbgigledmliaa
