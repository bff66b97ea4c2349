/-
  A disk in memory: Rename.
-/
import Derived.Test.YtmomdfmilelilaaDkv
namespace Go.Proofs.Ytmomdfmilelilaa
open Go.RowKit Go.Maps
set_option linter.unusedVariables false
theorem DK.nameSet {B d b : Nat} {S : Dsk} {f : Fil} {w : World} (h : DK B d S w) (hf : S.fl b = some f) (hno : ∀ x, S.at x ≠ some b) (t : ByteArray) :
    (w.cell? ⟨b, 0, none⟩ = some (.string f.nm) ∧ w.frozen? ⟨b, 0, none⟩ = false) ∧ DK B d (S.file b ⟨t, f.row, f.zs⟩) (w.setCell ⟨b, 0, none⟩ (.string t)) ∧ Mov S d (S.file b ⟨t, f.row, f.zs⟩) w (w.setCell ⟨b, 0, none⟩ (.string t)) := by
  obtain ⟨hfB, hfh, hfr, hfz⟩ := h.rest.hf b f hf
  have ho : ∀ k, k ≠ b → (w.setCell ⟨b, 0, none⟩ (.string t)).heap[k]? = w.heap[k]? := fun k hk => Below.heap_setCell w ⟨b, 0, none⟩ _ k hk
  have nb : ∀ k o, w.heap[k]? = some o → (∀ C fr, o ≠ Obj.cells C 125 fr) → k ≠ b := fun k o hh ht e => by
    subst e
    rw [hfh] at hh
    exact ht _ _ (Option.some.inj hh).symm
  have fct : ∀ (C : Array Value) (t : TypeId) (fr : Nat × Nat), t ≠ 125 → ∀ C' fr', (Obj.cells C t fr) ≠ .cells C' 125 fr' := fun C t fr ht C' fr' e => ht (by cases e; rfl)
  have all : ∀ k o, w.heap[k]? = some o → (∀ C fr, o ≠ Obj.cells C 125 fr) → (w.setCell ⟨b, 0, none⟩ (.string t)).heap[k]? = w.heap[k]? := fun k o hh h1 => ho k (nb k o hh h1)
  have fl : ∀ c g, (S.file b ⟨t, f.row, f.zs⟩).fl c = some g → (c = b ∧ g = ⟨t, f.row, f.zs⟩) ∨ (c ≠ b ∧ S.fl c = some g) := fun c g hc => by
    have hc' : (if c = b then some (⟨t, f.row, f.zs⟩ : Fil) else S.fl c) = some g := hc
    split at hc'
    · rename_i e; cases hc'; exact .inl ⟨e, rfl⟩
    · rename_i e; exact .inr ⟨e, hc'⟩
  have up : ∀ c g, S.fl c = some g → ∃ g', (S.file b ⟨t, f.row, f.zs⟩).fl c = some g' := fun c g hc => by
    by_cases e : c = b
    · exact ⟨⟨t, f.row, f.zs⟩, by show (if _ then _ else _) = _; rw [if_pos e]⟩
    · exact ⟨g, by show (if _ then _ else _) = _; rw [if_neg e]; exact hc⟩
  refine ⟨⟨(cell_of_row w b 0 _ _ _ hfh).trans rfl, frozen_of_row w b 0 _ _ hfh⟩, ⟨h.base, ?_, ⟨?_, fun c g hc => ?_, fun c c' g g' k hc hc' hk hk' => ?_, fun x => ?_, ?_, fun c hc => ?_⟩⟩, rfl, rfl, rfl, ?_, fun k hk hn => ?_, fun k hk => ?_⟩
  · exact (all d _ h.hd (fct _ _ _ (by decide))).trans h.hd
  · rcases h.rest.hm with h0 | ⟨m, h1, h2, h3⟩
    · exact .inl h0
    · obtain ⟨es, cl, hh⟩ := map_block h3
      exact .inr ⟨m, h1, h2, map_keep h3 (all m _ hh (fun C fr e => by cases e))⟩
  · rcases fl c g hc with ⟨rfl, rfl⟩ | ⟨hne, hc⟩
    · refine ⟨hfB, row_set hfh (.string t) (o := 0) (by show 0 < 2; omega), row_keep hfr fun k hk => ?_, hfz⟩
      obtain ⟨_, cur, hh⟩ := row_block hfr hk
      exact all k _ hh (fct _ _ _ (by decide))
    · obtain ⟨h1, h2, h3, h4⟩ := h.rest.hf c g hc
      refine ⟨h1, (ho c hne).trans h2, row_keep h3 fun k hk => ?_, h4⟩
      obtain ⟨_, cur, hh⟩ := row_block h3 hk
      exact all k _ hh (fct _ _ _ (by decide))
  · have un : ∀ c g, (S.file b ⟨t, f.row, f.zs⟩).fl c = some g → ∃ g0, S.fl c = some g0 ∧ g0.row = g.row := fun c g hc => by
      rcases fl c g hc with ⟨e1, e2⟩ | ⟨_, hc⟩
      · rw [e1, e2]; exact ⟨f, hf, rfl⟩
      · exact ⟨g, hc, rfl⟩
    obtain ⟨g0, k0, k1⟩ := un c g hc
    obtain ⟨g1, k2, k3⟩ := un c' g' hc'
    exact h.rest.ha c c' g0 g1 k k0 k2 (by rw [k1]; exact hk) (by rw [k3]; exact hk')
  · rcases h.rest.hr x with h0 | ⟨c, g, h1, h2, h3⟩
    · exact .inl h0
    · have hx : S.at x = some c := by unfold Dsk.at; rw [h1]; simp
      have hcb : c ≠ b := fun e => hno x (by rw [hx, e])
      exact .inr ⟨c, g, h1, by show (if _ then _ else _) = _; rw [if_neg hcb]; exact h2, h3⟩
  · refine row_keep h.rest.hl fun k hk => ?_
    obtain ⟨_, cur, hh⟩ := row_block h.rest.hl hk
    exact all k _ hh (fct _ _ _ (by decide))
  · obtain ⟨⟨g, h1⟩, h2⟩ := h.rest.hc c hc
    exact ⟨up _ g h1, fun b' hb' => by obtain ⟨g2, h3⟩ := h2 b' hb'; exact up _ g2 h3⟩
  · show w.heap.size ≤ (w.setCell ⟨b, 0, none⟩ (.string t)).heap.size
    simp [World.setCell]
  · exact ho k fun e => hn (.inr (.inr (.inl ⟨f, by rw [e]; exact hf⟩)))
  · rcases hk with hk | hk | ⟨g, hk⟩ | ⟨c, g, hc, hk⟩ | hk
    · exact .inl (.inl hk)
    · exact .inl (.inr (.inl hk))
    · rcases fl k g hk with ⟨rfl, rfl⟩ | ⟨_, hk⟩
      · exact .inl (.inr (.inr (.inl ⟨f, hf⟩)))
      · exact .inl (.inr (.inr (.inl ⟨g, hk⟩)))
    · rcases fl c g hc with ⟨rfl, rfl⟩ | ⟨_, hc⟩
      · exact .inl (.inr (.inr (.inr (.inl ⟨c, f, hf, hk⟩))))
      · exact .inl (.inr (.inr (.inr (.inl ⟨c, g, hc, hk⟩))))
    · exact .inl (.inr (.inr (.inr (.inr hk))))
theorem run_cellsX (W : World) (X : Nat) (k1 : Int) (b : Nat) (n : Int) (nm : ByteArray) (p : Option Addr) (h : W.cell? ⟨X, 0, none⟩ = some (.int .i64 k1) ∧ W.cell? ⟨X, 1, none⟩ = some (.pointer (some ⟨b, 0, none⟩)) ∧ W.cell? ⟨X, 2, none⟩ = some (.int .i64 n) ∧ W.cell? ⟨X, 3, none⟩ = some (.string nm) ∧ W.cell? ⟨X, 4, none⟩ = some (.pointer p)) :
    (Instr.loadAt 90 (.pointer (some ⟨X, 0, none⟩))).run Try.prog W = .ok (.agg #[.int .i64 k1, .pointer (some ⟨b, 0, none⟩), .int .i64 n, .string nm, .pointer p]) W := by
  obtain ⟨h0, h1, h2, h3, h4⟩ := h
  go_simp
theorem wp_bsG {w : World} {op : Oper} {a : Act} {K : Act → World → Prop} {Q : Exit → Act → World → Prop} (x : Operand) (ho : op.op = .buildSlice 74 1 #[(0, x)]) (k1 : Int) (b : Nat) (n : Int) (nm : ByteArray) (p : Option Addr) (hx : a.eval x = .agg #[.int .i64 k1, .pointer (some ⟨b, 0, none⟩), .int .i64 n, .string nm, .pointer p])
    (k : K (a.put op.dst (.slice (some ⟨w.heap.size, 0, none⟩) 1 1)) (w.alloc (.cells #[.int .i64 k1, .pointer (some ⟨b, 0, none⟩), .int .i64 n, .string nm, .pointer p] 90))) : op.wp Try.prog a w K Q := by
  unfold Oper.wp execOp
  simp only [ho, List.map_toArray, List.map_cons, List.map_nil, hx]
  go_simp
  exact k
/-- what Rename leaves, S0 being what it is behind the drops -/
def Dsk.named (S0 : Dsk) (f : Fil) (b : Nat) (t : ByteArray) (m : Nat) (v : Value) (rp : Option Nat) : Dsk := ((S0.file b ⟨t, f.row, f.zs⟩).put m b ⟨t, f.row, f.zs⟩).more v ⟨3, b, 0, f.nm, rp⟩
theorem DK.keepX {B d X : Nat} {S : Dsk} {w w' : World} (h : DK B d S w) (hX : ¬ S.own d X) (ho : ∀ k, k ≠ X → w'.heap[k]? = w.heap[k]?) : DK B d S w' := h.keep fun k hk => ho k fun e => hX (by rw [← e]; exact hk)
theorem Mov.keepX {S : Dsk} {d X : Nat} {w : World} (o : Nat) (v : Value) (S0 : Dsk) (w0 : World) (hm : Mov S0 d S w0 w) (hX : w0.heap.size ≤ X) : Mov S0 d S w0 (w.setCell ⟨X, o, none⟩ v) :=
  ⟨hm.os, hm.tape, hm.output, by show w0.heap.size ≤ (w.setCell ⟨X, o, none⟩ v).heap.size; simp only [World.setCell, Array.size_modify]; exact hm.size, fun k hk hn => (Below.heap_setCell w ⟨X, o, none⟩ v k (by show k ≠ X; omega)).trans (hm.block k hk hn), hm.own⟩
set_option maxRecDepth 100000 in
set_option maxHeartbeats 8000000 in
theorem drename_ok {B d b : Nat} {S : Dsk} {f : Fil} {w : World} (h : DK B d S w) (s t : ByteArray) (hs : s.size ≤ maxLen) (ht : t.size ≤ maxLen) (hd : S.down = false) (ha : S.at s = some b) (hfl : S.fl b = some f) (hn : isNm t = true) (hf : S.fuse ≠ 0) (hn1 : S.n < 1000000000) (hl : S.loose.length < 1000000000) (hr : (S.drop f).at t = none) :
    Calls Try.prog 80 #[.pointer (some ⟨d, 0, none⟩), .string s, .string t] w fun e w' => e = .returned (.int .i64 0) ∧ ∃ m v, DK B d ((S.step.1.drop f).named f b t m v none) w' ∧ Mov S d ((S.step.1.drop f).named f b t m v none) w w' := by
  have hfs : f.nm = s := by
    obtain ⟨g, h1, h2⟩ := h.rest.at ha
    rw [hfl] at h1
    cases h1
    exact h2
  have ht2 : t.size ≤ 160 := by
    unfold isNm at hn
    simp only [Bool.and_eq_true, decide_eq_true_eq] at hn
    exact hn.2
  have hst : S.step.2 = 0 ∧ S.step.1.n = S.n ∧ S.step.1.fl = S.fl ∧ S.step.1.loose = S.loose ∧ S.step.1.D = S.D := by
    unfold Dsk.step
    rw [if_neg hf]
    split <;> exact ⟨rfl, rfl, rfl, rfl, rfl⟩
  have hat : ∀ x, S.step.1.at x = S.at x := fun x => by unfold Dsk.at; rw [hst.2.2.2.2]
  have hat2 : ∀ x, (S.step.1.drop f).at x = (S.drop f).at x := fun x => by rw [at_drop, at_drop, hat]
  have HST := Lib.hid (dstep_c h)
  rw [hst.1] at HST
  have HE := Lib.hid hst.2
  have HF := Lib.hid (dfind_c h s hs)
  rw [show S.find s = (some b, 0) from by unfold Dsk.find; rw [hd, ha]; rfl] at HF
  simp only [ptrOf, Option.map_some] at HF
  have HI := Lib.hid (isname_c t w ht)
  rw [show (decide (1 ≤ t.size) && decide (t.size ≤ 160)) = true from hn] at HI
  have HNS := Lib.hid (show f.nm.size ≤ maxLen by rw [hfs]; exact hs)
  have HFL := Lib.hid (show S.step.1.fl b = some f by rw [hst.2.2.1]; exact hfl)
  have HR := Lib.hid (show (S.step.1.drop f).at t = none by rw [hat2]; exact hr)
  have HNO := Lib.hid (show ∀ x, (S.step.1.drop f).at x ≠ some b from fun x hx => by
    rw [hat2, at_drop] at hx
    split at hx
    · cases hx
    · rename_i e
      obtain ⟨g', h1, h2⟩ := h.rest.at hx
      rw [hfl] at h1
      cases h1
      exact e h2.symm)
  clear h hst ha hfs hat hat2 hr  hfl hn hf
  go_enter Try.func80, Try.ntmps80
  go_wp2_with fail
  refine HF.out.mono ?_
  rintro e1 w1 ⟨rfl, rfl⟩
  go_wp2_with fail
  refine HI.out.mono ?_
  rintro e2 w2 ⟨rfl, rfl⟩
  go_wp2_with fail
  refine HST.out.mono ?_
  rintro e3 w3 ⟨rfl, hk3, hm3⟩
  have n3 := (hk3.rest.fcells HFL.out).1
  obtain ⟨X, hX⟩ : ∃ X, X = w3.heap.size := ⟨_, rfl⟩
  obtain ⟨w4, hw4⟩ : ∃ w4, w4 = w3.alloc (.cells #[.int .i64 3, .pointer (some ⟨b, 0, none⟩), .int .i64 0, .string f.nm, .pointer none] 90) := ⟨_, rfl⟩
  have hx4 : w4.heap[X]? = some (.cells #[.int .i64 3, .pointer (some ⟨b, 0, none⟩), .int .i64 0, .string f.nm, .pointer none] 90 (0, 0)) := by rw [hw4, hX]; exact heap_alloc_new w3 _
  have hk4 : DK B d S.step.1 w4 := by rw [hw4]; exact hk3.alloc _
  have hm4 : Mov S d S.step.1 w2 w4 := by rw [hw4]; exact hm3.trans (Mov.ofBelow ((Below.refl _ _).alloc (Nat.le_refl _) _))
  have hX1 : w2.heap.size ≤ X := by rw [hX]; exact hm3.size
  have hXn : ¬ S.step.1.own d X := fun ho => by have := (hk3.ownLt ho).2; omega
  have hXs : X < w4.heap.size := (Array.getElem?_eq_some_iff.1 hx4).1
  have HX1 := Lib.hid hX1
  have HD := Lib.hid (ddrop_c hk4 (b := b) (f := f) HFL.out HNS.out)
  have HX4 := Lib.hid hx4
  have HM4 := Lib.hid hm4
  have HXN := Lib.hid hXn
  have HXS := Lib.hid hXs
  clear HF HI HST hk3 hm3 hx4 hk4 hm4 hX1 hXn hXs
  go_wp2_with fail
  rw [← hX]
  rw [← hw4]
  refine HD.out.mono ?_
  rintro e5 w5 ⟨rfl, hk5, hm5⟩
  have hx5 := (hm5.block X HXS.out HXN.out).trans HX4.out
  have c1 := hk5.cells.2.1
  have hlk := hk5.rest.look ht
  rw [HR.out] at hlk
  simp only [ptrOf, Option.map_none] at hlk
  have x4 := (cell_of_row w5 X 4 _ _ _ hx5).trans rfl
  have z4 := frozen_of_row w5 X 4 _ _ hx5
  have hm5' := HM4.out.trans hm5
  have HXN5 := Lib.hid (hm5.own0 HXS.out HXN.out)
  have HXS5 := Lib.hid (show X < w5.heap.size from (Array.getElem?_eq_some_iff.1 hx5).1)
  obtain ⟨w6, hw6⟩ : ∃ w6, w6 = w5.setCell ⟨X, 4, none⟩ (.pointer none) := ⟨_, rfl⟩
  have hk6 : DK B d (S.step.1.drop f) w6 := by rw [hw6]; exact hk5.keepX HXN5.out fun k hk => Below.heap_setCell w5 ⟨X, 4, none⟩ _ k hk
  have hm6 : Mov S d (S.step.1.drop f) w2 w6 := by rw [hw6]; exact hm5'.keepX 4 _ _ _ HX1.out
  have hx6 : w6.heap[X]? = some (.cells #[.int .i64 3, .pointer (some ⟨b, 0, none⟩), .int .i64 0, .string f.nm, .pointer none] 90 (0, 0)) := by rw [hw6]; exact row_set hx5 _ (o := 4) (by show 4 < 5; omega)
  have HK6 := Lib.hid hk6
  have HM6 := Lib.hid hm6
  have HX6 := Lib.hid hx6
  clear hk5 hm5 hx5 hm5' hk6 hm6 hx6 HX4 HXN HM4 hX hw4 n3 HD HXS
  go_wp2_with fail
  rw [← hw6]
  clear hw6 hlk c1 x4 z4
  refine (clone_c t w6 ht ht2).mono ?_
  rintro e7 w7 ⟨rfl, hb7⟩
  have hk7 := HK6.out.below hb7
  obtain ⟨⟨nc, nz⟩, hk8, hm8⟩ := hk7.nameSet (b := b) (f := f) HFL.out HNO.out t
  have hx7 := (hb7.block X (Array.getElem?_eq_some_iff.1 HX6.out).1).trans HX6.out
  have hXb : X ≠ b := fun e => HXN5.out (.inr (.inr (.inl ⟨f, by rw [e]; exact HFL.out⟩)))
  have HX8 := Lib.hid ((Below.heap_setCell w7 ⟨b, 0, none⟩ (.string t) X hXb).trans hx7)
  have HM8 := Lib.hid ((HM6.out.trans (Mov.ofBelow hb7)).trans hm8)
  have HXN8 := Lib.hid (show ¬ ((S.step.1.drop f).file b ⟨t, f.row, f.zs⟩).own d X from fun ho => by
    rcases hm8.own X ho with h1 | h1
    · exact HXN5.out h1
    · have := (Array.getElem?_eq_some_iff.1 hx7).1
      omega)
  have hn8 : ((S.step.1.drop f).file b ⟨t, f.row, f.zs⟩).n < maxLen := by
    show S.step.1.n < maxLen
    rw [HE.out.1]
    unfold maxLen
    omega
  have HP := Lib.hid (dput_c hk8 (b := b) (f := ⟨t, f.row, f.zs⟩) (by show (if _ then _ else _) = _; rw [if_pos rfl]) ht hn8)
  obtain ⟨w8, hw8⟩ : ∃ w8, w8 = w7.setCell ⟨b, 0, none⟩ (.string t) := ⟨_, rfl⟩
  rw [← hw8] at HP HX8 HM8
  clear hk7 hk8 hm8 hx7 hb7 HK6 HM6 HX6 hn8 hXb
  go_wp2_with fail
  rw [← hw8]
  clear hw8 nc nz
  refine HP.out.mono ?_
  rintro e9 w9 ⟨rfl, m, hk9, hm9⟩
  have hx9 := (hm9.block X (Array.getElem?_eq_some_iff.1 HX8.out).1 HXN8.out).trans HX8.out
  have HK9 := Lib.hid hk9
  have HM9 := Lib.hid (HM8.out.trans hm9)
  have c3 := hk9.cells.2.2.2.1
  have HX9 := Lib.hid hx9
  obtain ⟨SX, hSX⟩ : ∃ SX, SX = ((S.step.1.drop f).file b ⟨t, f.row, f.zs⟩).put m b ⟨t, f.row, f.zs⟩ := ⟨_, rfl⟩
  have HLL := Lib.hid (show SX.loose.length + 1 ≤ 1000000000 by
    rw [hSX]
    show S.step.1.loose.length + 1 ≤ _
    rw [HE.out.2.2.1]
    omega)
  have HC := Lib.hid (show (∃ f, SX.fl b = some f) ∧ ∀ b', (none : Option Nat) = some b' → ∃ f, SX.fl b' = some f from by
    rw [hSX]
    refine ⟨⟨⟨t, f.row, f.zs⟩, by show (if _ then _ else _) = _; rw [if_pos rfl]⟩, fun b' hb => ?_⟩
    cases hb)
  rw [← hSX] at HK9 HM9 c3
  have HSX := Lib.hid hSX
  have HXN9 := Lib.hid (hm9.own0 (Array.getElem?_eq_some_iff.1 HX8.out).1 HXN8.out)
  clear hk9 hm9 hx9 HX8 HM8 HXN8 HP hSX
  go_wp2_with fail
  (try dsimp only [Act.put, List.setIfInBounds_toArray, List.set_cons_zero, List.set_cons_succ])
  obtain ⟨la, ln, lc, hlv⟩ : ∃ la ln lc, SX.lv = .slice la ln lc := by
    rcases HK9.out.rest.hl.2 with ⟨h1, _⟩ | ⟨g, cap, cur, h1, _⟩
    · exact ⟨_, _, _, h1⟩
    · exact ⟨_, _, _, h1⟩
  have HLV := Lib.hid hlv
  have HK9 := Lib.hid (HK9.out.below (Below.refl _ _).drew)
  have HM9 := Lib.hid (HM9.out.trans (Mov.ofBelow (S := SX) (d := d) (Below.refl _ _).drew))
  obtain ⟨w9d, hw9⟩ : ∃ w9d, w9d = w9.drew := ⟨_, rfl⟩
  have HX9 := Lib.hid (show w9d.heap[X]? = some (.cells #[.int .i64 3, .pointer (some ⟨b, 0, none⟩), .int .i64 0, .string f.nm, .pointer none] 90 (0, 0)) from by rw [hw9]; exact HX9.out)
  rw [← hw9] at HK9 HM9
  have HXS9 := Lib.hid (show X < w9d.heap.size from (Array.getElem?_eq_some_iff.1 HX9.out).1)
  have HXN9 := Lib.hid (show ¬ SX.own d X from by rw [HSX.out]; exact HXN9.out)
  have HS := Lib.hid (show World.cell? w9d ⟨X, 0, none⟩ = some (.int .i64 3) ∧ World.cell? w9d ⟨X, 1, none⟩ = some (.pointer (some ⟨b, 0, none⟩)) ∧ World.cell? w9d ⟨X, 2, none⟩ = some (.int .i64 0) ∧ World.cell? w9d ⟨X, 3, none⟩ = some (.string f.nm) ∧ World.cell? w9d ⟨X, 4, none⟩ = some (.pointer none) from ⟨(cell_of_row w9d X 0 _ _ _ HX9.out).trans rfl, (cell_of_row w9d X 1 _ _ _ HX9.out).trans rfl, (cell_of_row w9d X 2 _ _ _ HX9.out).trans rfl, (cell_of_row w9d X 3 _ _ _ HX9.out).trans rfl, (cell_of_row w9d X 4 _ _ _ HX9.out).trans rfl⟩)
  have HL1 := Lib.hid (fun W (hW : World.cell? W ⟨X, 0, none⟩ = some (.int .i64 3) ∧ World.cell? W ⟨X, 1, none⟩ = some (.pointer (some ⟨b, 0, none⟩)) ∧ World.cell? W ⟨X, 2, none⟩ = some (.int .i64 0) ∧ World.cell? W ⟨X, 3, none⟩ = some (.string f.nm) ∧ World.cell? W ⟨X, 4, none⟩ = some (.pointer none)) => run_cellsX W X 3 b 0 f.nm none hW)
  refine anyH_begin (S := fun W => World.cell? W ⟨X, 0, none⟩ = some (.int .i64 3) ∧ World.cell? W ⟨X, 1, none⟩ = some (.pointer (some ⟨b, 0, none⟩)) ∧ World.cell? W ⟨X, 2, none⟩ = some (.int .i64 0) ∧ World.cell? W ⟨X, 3, none⟩ = some (.string f.nm) ∧ World.cell? W ⟨X, 4, none⟩ = some (.pointer none)) (by kernel_rfl) ?_
  rw [← hw9]
  clear hlv hw9 c3
  refine anyH_pureG 0 (d := 61) (op := .move (.tmp 0)) (gd := none) (.pointer (some ⟨d, 0, none⟩)) (by rfl) (fun o ho => wanted_plain ho _) (by kernel_rfl) (by kernel_rfl) (by kernel_rfl) (fun _ _ _ h => h) (fun o ho W hW => by unfold execOp; simp only [ho]; go_simp) HS.out ?_
  simp only [Act.put, List.setIfInBounds_toArray, List.set_cons_zero, List.set_cons_succ]
  refine anyH_pureG 1 (d := 62) (op := .move (.tmp 0)) (gd := none) (.pointer (some ⟨d, 0, none⟩)) (by rfl) (fun o ho => wanted_plain ho _) (by kernel_rfl) (by kernel_rfl) (by kernel_rfl) (fun _ _ _ h => h) (fun o ho W hW => by unfold execOp; simp only [ho]; go_simp) HS.out ?_
  simp only [Act.put, List.setIfInBounds_toArray, List.set_cons_zero, List.set_cons_succ]
  refine anyH_pureG 2 (d := 63) (op := .nilCheck (.tmp 62)) (gd := none) (.pointer (some ⟨d, 0, none⟩)) (by rfl) (fun o ho => wanted_plain ho _) (by kernel_rfl) (by kernel_rfl) (by kernel_rfl) (fun _ _ _ h => h) (fun o ho W hW => by unfold execOp; simp only [ho]; go_simp) HS.out ?_
  simp only [Act.put, List.setIfInBounds_toArray, List.set_cons_zero, List.set_cons_succ]
  refine anyH_pureG 3 (d := 64) (op := .fieldAddr 76 (.tmp 63) 3) (gd := none) (.pointer (some ⟨d, 3, none⟩)) (by rfl) (fun o ho => wanted_plain ho _) (by kernel_rfl) (by kernel_rfl) (by kernel_rfl) (fun _ _ _ h => h) (fun o ho W hW => by unfold execOp; simp only [ho]; go_simp) HS.out ?_
  simp only [Act.put, List.setIfInBounds_toArray, List.set_cons_zero, List.set_cons_succ]
  refine anyH_loadG 5 (d := 66) (ty := 90) (x := (.tmp 10)) (gd := none) (p := .pointer (some ⟨X, 0, none⟩)) (.agg #[.int .i64 3, .pointer (some ⟨b, 0, none⟩), .int .i64 0, .string f.nm, .pointer none]) (by rfl) (fun o ho => wanted_plain ho _) (by kernel_rfl) (by kernel_rfl) (by kernel_rfl) (fun _ _ _ h => h) (by rfl) HL1.out HS.out ?_
  simp only [Act.put, List.setIfInBounds_toArray, List.set_cons_zero, List.set_cons_succ]
  refine wpAnyH_all (rs := [4, 6]) (by kernel_rfl) (by simp) ?_
  intro k hk
  simp only [List.mem_cons, List.not_mem_nil, or_false] at hk
  rcases hk with rfl | rfl
  · refine op_atJ 4 (d := some 65) (op := .load 74 (.tmp 64)) (by rfl) ?_
    intro o4 hod4 hoo4
    refine wp_load_g 74 (.tmp 64) hoo4 (.pointer (some ⟨d, 3, none⟩)) (.slice la ln lc) (by rfl) (run_cell_chgs _ ⟨d, 3, none⟩ _ _ _ (HK9.out.cells.2.2.2.1.trans (congrArg some HLV.out))) ?_
    rw [hod4]
    clear hod4 hoo4
    simp only [Act.put, List.setIfInBounds_toArray, List.set_cons_zero, List.set_cons_succ]
    refine ⟨HS.out, ?_⟩
    refine wpAnyH_all (rs := [6]) (by kernel_rfl) (by simp) ?_
    intro k hk; simp only [List.mem_cons, List.not_mem_nil, or_false] at hk; subst hk
    refine op_atJ 6 (d := some 67) (op := .buildSlice 74 1 #[(0, (.tmp 66))]) (by rfl) ?_
    intro o5 hod5 hoo5
    refine wp_bsG (.tmp 66) hoo5 3 b 0 f.nm none (by rfl) ?_
    rw [hod5]
    clear hod5 hoo5
    simp only [Act.put, List.setIfInBounds_toArray, List.set_cons_zero, List.set_cons_succ]
    refine ⟨(show World.cell? _ ⟨X, 0, none⟩ = some (.int .i64 3) ∧ World.cell? _ ⟨X, 1, none⟩ = some (.pointer (some ⟨b, 0, none⟩)) ∧ World.cell? _ ⟨X, 2, none⟩ = some (.int .i64 0) ∧ World.cell? _ ⟨X, 3, none⟩ = some (.string f.nm) ∧ World.cell? _ ⟨X, 4, none⟩ = some (.pointer none) from by obtain ⟨y0, y1, y2, y3, y4⟩ := HS.out; have hb := (Below.refl _ _).alloc (Nat.le_refl w9d.heap.size) (.cells #[.int .i64 3, .pointer (some ⟨b, 0, none⟩), .int .i64 0, .string f.nm, .pointer none] 90); exact ⟨(hb.cell (p := ⟨X, 0, none⟩) HXS9.out).trans y0, (hb.cell (p := ⟨X, 1, none⟩) HXS9.out).trans y1, (hb.cell (p := ⟨X, 2, none⟩) HXS9.out).trans y2, (hb.cell (p := ⟨X, 3, none⟩) HXS9.out).trans y3, (hb.cell (p := ⟨X, 4, none⟩) HXS9.out).trans y4⟩), ?_⟩
    clear HS
    refine wpAnyH_all (rs := [7]) (by kernel_rfl) (by simp) ?_
    intro k hk; simp only [List.mem_cons, List.not_mem_nil, or_false] at hk; subst hk
    refine op_atJ 7 (d := some 68) (op := .call { callee := .builtin .append, args := #[(.tmp 65), (.tmp 67)], argTypes := #[74, 74] }) (by rfl) ?_
    intro o6 hod6 hoo6
    refine wp_pushC (.tmp 65) (.tmp 67) hoo6 B d SX ⟨3, b, 0, f.nm, none⟩ HK9.out HLV.out.symm (by rfl) HLL.out HC.out ?_
    intro va vn vc w10 c10 f10 hk10 hm10
    have HK10 := Lib.hid hk10
    have HM10 := Lib.hid (HM9.out.trans hm10)
    have HT7 := Lib.hid (show w10.there d 3 1 from fun j hj => by
      obtain rfl : j = 0 := by omega
      exact ⟨by rw [Nat.add_zero, c10]; rfl, f10⟩)
    have HS := Lib.hid (show World.cell? w10 ⟨X, 0, none⟩ = some (.int .i64 3) ∧ World.cell? w10 ⟨X, 1, none⟩ = some (.pointer (some ⟨b, 0, none⟩)) ∧ World.cell? w10 ⟨X, 2, none⟩ = some (.int .i64 0) ∧ World.cell? w10 ⟨X, 3, none⟩ = some (.string f.nm) ∧ World.cell? w10 ⟨X, 4, none⟩ = some (.pointer none) from by
      have e9 := hm10.block X HXS9.out HXN9.out
      rw [Below.heap_setCell w10 ⟨d, 3, none⟩ _ X (show X ≠ d from fun e => HXN9.out (.inl e))] at e9
      have q : ∀ i, w10.cell? ⟨X, i, none⟩ = w9d.cell? ⟨X, i, none⟩ := fun i => World.cell?_of_block e9
      have hx := HX9.out
      exact ⟨(q 0).trans ((cell_of_row w9d X 0 _ _ _ hx).trans rfl), (q 1).trans ((cell_of_row w9d X 1 _ _ _ hx).trans rfl), (q 2).trans ((cell_of_row w9d X 2 _ _ _ hx).trans rfl), (q 3).trans ((cell_of_row w9d X 3 _ _ _ hx).trans rfl), (q 4).trans ((cell_of_row w9d X 4 _ _ _ hx).trans rfl)⟩)
    have HXD := Lib.hid (show X ≠ d from fun e => HXN9.out (.inl e))
    rw [hod6]
    clear hod6 hoo6 hk10 hm10 c10 f10
    simp only [Act.put, List.setIfInBounds_toArray, List.set_cons_zero, List.set_cons_succ]
    refine ⟨HS.out, ?_⟩
    refine anyH_pureG 8 (d := 69) (op := .nilCheck (.tmp 61)) (gd := none) (.pointer (some ⟨d, 0, none⟩)) (by rfl) (fun o ho => wanted_plain ho _) (by kernel_rfl) (by kernel_rfl) (by kernel_rfl) (fun _ _ _ h => h) (fun o ho W hW => by unfold execOp; simp only [ho]; go_simp) HS.out ?_
    simp only [Act.put, List.setIfInBounds_toArray, List.set_cons_zero, List.set_cons_succ]
    refine anyH_pureG 9 (d := 70) (op := .fieldAddr 76 (.tmp 69) 3) (gd := none) (.pointer (some ⟨d, 3, none⟩)) (by rfl) (fun o ho => wanted_plain ho _) (by kernel_rfl) (by kernel_rfl) (by kernel_rfl) (fun _ _ _ h => h) (fun o ho W hW => by unfold execOp; simp only [ho]; go_simp) HS.out ?_
    simp only [Act.put, List.setIfInBounds_toArray, List.set_cons_zero, List.set_cons_succ]
    refine wpAnyH_all (rs := [10]) (by kernel_rfl) (by simp) ?_
    intro k hk; simp only [List.mem_cons, List.not_mem_nil, or_false] at hk; subst hk
    refine op_atJ 10 (d := none) (op := .store 74 (.tmp 70) (.tmp 68)) (by rfl) ?_
    intro o7 hod7 hoo7
    refine wp_store_one 74 (.tmp 70) (.tmp 68) hoo7 d 3 (.slice va vn vc) (by rfl) (by rfl) HT7.out (by kernel_rfl) (by rfl) (by rfl) ?_
    rw [hod7]
    clear hod7 hoo7
    simp only [Act.put, List.setIfInBounds_toArray, List.set_cons_zero, List.set_cons_succ]
    refine ⟨by obtain ⟨y0, y1, y2, y3, y4⟩ := HS.out; have q : ∀ i, (w10.setCells d 3 [.slice va vn vc]).cell? ⟨X, i, none⟩ = w10.cell? ⟨X, i, none⟩ := fun i => World.cell?_of_block (one_heap HXD.out); exact ⟨(q 0).trans y0, (q 1).trans y1, (q 2).trans y2, (q 3).trans y3, (q 4).trans y4⟩, ?_⟩
    refine wpAnyH_done (by kernel_rfl) ?_ _
    clear HS HT7 HL1
    obtain ⟨w11, hw11⟩ : ∃ w11, w11 = w10.setCells d 3 [.slice va vn vc] := ⟨_, rfl⟩
    have HK11 := Lib.hid (show DK B d (SX.more (.slice va vn vc) ⟨3, b, 0, f.nm, none⟩) w11 from by rw [hw11]; exact HK10.out)
    have HM11 := Lib.hid (show Mov S d (SX.more (.slice va vn vc) ⟨3, b, 0, f.nm, none⟩) _ w11 from by rw [hw11]; exact HM10.out)
    rw [← hw11]
    clear hw11 HK10 HM10 HK9 HM9
    go_wp2_with fail
    go_ret
    refine ⟨rfl, m, .slice va vn vc, ?_, ?_⟩
    · have := HK11.out
      rw [HSX.out] at this
      exact this
    · have := HM11.out
      rw [HSX.out] at this
      exact this
  · refine op_atJ 6 (d := some 67) (op := .buildSlice 74 1 #[(0, (.tmp 66))]) (by rfl) ?_
    intro o5 hod5 hoo5
    refine wp_bsG (.tmp 66) hoo5 3 b 0 f.nm none (by rfl) ?_
    rw [hod5]
    clear hod5 hoo5
    simp only [Act.put, List.setIfInBounds_toArray, List.set_cons_zero, List.set_cons_succ]
    refine ⟨(show World.cell? _ ⟨X, 0, none⟩ = some (.int .i64 3) ∧ World.cell? _ ⟨X, 1, none⟩ = some (.pointer (some ⟨b, 0, none⟩)) ∧ World.cell? _ ⟨X, 2, none⟩ = some (.int .i64 0) ∧ World.cell? _ ⟨X, 3, none⟩ = some (.string f.nm) ∧ World.cell? _ ⟨X, 4, none⟩ = some (.pointer none) from by obtain ⟨y0, y1, y2, y3, y4⟩ := HS.out; have hb := (Below.refl _ _).alloc (Nat.le_refl w9d.heap.size) (.cells #[.int .i64 3, .pointer (some ⟨b, 0, none⟩), .int .i64 0, .string f.nm, .pointer none] 90); exact ⟨(hb.cell (p := ⟨X, 0, none⟩) HXS9.out).trans y0, (hb.cell (p := ⟨X, 1, none⟩) HXS9.out).trans y1, (hb.cell (p := ⟨X, 2, none⟩) HXS9.out).trans y2, (hb.cell (p := ⟨X, 3, none⟩) HXS9.out).trans y3, (hb.cell (p := ⟨X, 4, none⟩) HXS9.out).trans y4⟩), ?_⟩
    refine wpAnyH_all (rs := [4]) (by kernel_rfl) (by simp) ?_
    intro k hk; simp only [List.mem_cons, List.not_mem_nil, or_false] at hk; subst hk
    refine op_atJ 4 (d := some 65) (op := .load 74 (.tmp 64)) (by rfl) ?_
    intro o4 hod4 hoo4
    refine wp_load_g 74 (.tmp 64) hoo4 (.pointer (some ⟨d, 3, none⟩)) (.slice la ln lc) (by rfl) (run_cell_chgs _ ⟨d, 3, none⟩ _ _ _ ((HK9.out.alloc (.cells #[.int .i64 3, .pointer (some ⟨b, 0, none⟩), .int .i64 0, .string f.nm, .pointer none] 90)).cells.2.2.2.1.trans (congrArg some HLV.out))) ?_
    rw [hod4]
    clear hod4 hoo4
    simp only [Act.put, List.setIfInBounds_toArray, List.set_cons_zero, List.set_cons_succ]
    refine ⟨(show World.cell? _ ⟨X, 0, none⟩ = some (.int .i64 3) ∧ World.cell? _ ⟨X, 1, none⟩ = some (.pointer (some ⟨b, 0, none⟩)) ∧ World.cell? _ ⟨X, 2, none⟩ = some (.int .i64 0) ∧ World.cell? _ ⟨X, 3, none⟩ = some (.string f.nm) ∧ World.cell? _ ⟨X, 4, none⟩ = some (.pointer none) from by obtain ⟨y0, y1, y2, y3, y4⟩ := HS.out; have hb := (Below.refl _ _).alloc (Nat.le_refl w9d.heap.size) (.cells #[.int .i64 3, .pointer (some ⟨b, 0, none⟩), .int .i64 0, .string f.nm, .pointer none] 90); exact ⟨(hb.cell (p := ⟨X, 0, none⟩) HXS9.out).trans y0, (hb.cell (p := ⟨X, 1, none⟩) HXS9.out).trans y1, (hb.cell (p := ⟨X, 2, none⟩) HXS9.out).trans y2, (hb.cell (p := ⟨X, 3, none⟩) HXS9.out).trans y3, (hb.cell (p := ⟨X, 4, none⟩) HXS9.out).trans y4⟩), ?_⟩
    clear HS
    refine wpAnyH_all (rs := [7]) (by kernel_rfl) (by simp) ?_
    intro k hk; simp only [List.mem_cons, List.not_mem_nil, or_false] at hk; subst hk
    refine op_atJ 7 (d := some 68) (op := .call { callee := .builtin .append, args := #[(.tmp 65), (.tmp 67)], argTypes := #[74, 74] }) (by rfl) ?_
    intro o6 hod6 hoo6
    refine wp_pushC (.tmp 65) (.tmp 67) hoo6 B d SX ⟨3, b, 0, f.nm, none⟩ HK9.out HLV.out.symm (by rfl) HLL.out HC.out ?_
    intro va vn vc w10 c10 f10 hk10 hm10
    have HK10 := Lib.hid hk10
    have HM10 := Lib.hid (HM9.out.trans hm10)
    have HT7 := Lib.hid (show w10.there d 3 1 from fun j hj => by
      obtain rfl : j = 0 := by omega
      exact ⟨by rw [Nat.add_zero, c10]; rfl, f10⟩)
    have HS := Lib.hid (show World.cell? w10 ⟨X, 0, none⟩ = some (.int .i64 3) ∧ World.cell? w10 ⟨X, 1, none⟩ = some (.pointer (some ⟨b, 0, none⟩)) ∧ World.cell? w10 ⟨X, 2, none⟩ = some (.int .i64 0) ∧ World.cell? w10 ⟨X, 3, none⟩ = some (.string f.nm) ∧ World.cell? w10 ⟨X, 4, none⟩ = some (.pointer none) from by
      have e9 := hm10.block X HXS9.out HXN9.out
      rw [Below.heap_setCell w10 ⟨d, 3, none⟩ _ X (show X ≠ d from fun e => HXN9.out (.inl e))] at e9
      have q : ∀ i, w10.cell? ⟨X, i, none⟩ = w9d.cell? ⟨X, i, none⟩ := fun i => World.cell?_of_block e9
      have hx := HX9.out
      exact ⟨(q 0).trans ((cell_of_row w9d X 0 _ _ _ hx).trans rfl), (q 1).trans ((cell_of_row w9d X 1 _ _ _ hx).trans rfl), (q 2).trans ((cell_of_row w9d X 2 _ _ _ hx).trans rfl), (q 3).trans ((cell_of_row w9d X 3 _ _ _ hx).trans rfl), (q 4).trans ((cell_of_row w9d X 4 _ _ _ hx).trans rfl)⟩)
    have HXD := Lib.hid (show X ≠ d from fun e => HXN9.out (.inl e))
    rw [hod6]
    clear hod6 hoo6 hk10 hm10 c10 f10
    simp only [Act.put, List.setIfInBounds_toArray, List.set_cons_zero, List.set_cons_succ]
    refine ⟨HS.out, ?_⟩
    refine anyH_pureG 8 (d := 69) (op := .nilCheck (.tmp 61)) (gd := none) (.pointer (some ⟨d, 0, none⟩)) (by rfl) (fun o ho => wanted_plain ho _) (by kernel_rfl) (by kernel_rfl) (by kernel_rfl) (fun _ _ _ h => h) (fun o ho W hW => by unfold execOp; simp only [ho]; go_simp) HS.out ?_
    simp only [Act.put, List.setIfInBounds_toArray, List.set_cons_zero, List.set_cons_succ]
    refine anyH_pureG 9 (d := 70) (op := .fieldAddr 76 (.tmp 69) 3) (gd := none) (.pointer (some ⟨d, 3, none⟩)) (by rfl) (fun o ho => wanted_plain ho _) (by kernel_rfl) (by kernel_rfl) (by kernel_rfl) (fun _ _ _ h => h) (fun o ho W hW => by unfold execOp; simp only [ho]; go_simp) HS.out ?_
    simp only [Act.put, List.setIfInBounds_toArray, List.set_cons_zero, List.set_cons_succ]
    refine wpAnyH_all (rs := [10]) (by kernel_rfl) (by simp) ?_
    intro k hk; simp only [List.mem_cons, List.not_mem_nil, or_false] at hk; subst hk
    refine op_atJ 10 (d := none) (op := .store 74 (.tmp 70) (.tmp 68)) (by rfl) ?_
    intro o7 hod7 hoo7
    refine wp_store_one 74 (.tmp 70) (.tmp 68) hoo7 d 3 (.slice va vn vc) (by rfl) (by rfl) HT7.out (by kernel_rfl) (by rfl) (by rfl) ?_
    rw [hod7]
    clear hod7 hoo7
    simp only [Act.put, List.setIfInBounds_toArray, List.set_cons_zero, List.set_cons_succ]
    refine ⟨by obtain ⟨y0, y1, y2, y3, y4⟩ := HS.out; have q : ∀ i, (w10.setCells d 3 [.slice va vn vc]).cell? ⟨X, i, none⟩ = w10.cell? ⟨X, i, none⟩ := fun i => World.cell?_of_block (one_heap HXD.out); exact ⟨(q 0).trans y0, (q 1).trans y1, (q 2).trans y2, (q 3).trans y3, (q 4).trans y4⟩, ?_⟩
    refine wpAnyH_done (by kernel_rfl) ?_ _
    clear HS HT7 HL1
    obtain ⟨w11, hw11⟩ : ∃ w11, w11 = w10.setCells d 3 [.slice va vn vc] := ⟨_, rfl⟩
    have HK11 := Lib.hid (show DK B d (SX.more (.slice va vn vc) ⟨3, b, 0, f.nm, none⟩) w11 from by rw [hw11]; exact HK10.out)
    have HM11 := Lib.hid (show Mov S d (SX.more (.slice va vn vc) ⟨3, b, 0, f.nm, none⟩) _ w11 from by rw [hw11]; exact HM10.out)
    rw [← hw11]
    clear hw11 HK10 HM10 HK9 HM9
    go_wp2_with fail
    go_ret
    refine ⟨rfl, m, .slice va vn vc, ?_, ?_⟩
    · have := HK11.out
      rw [HSX.out] at this
      exact this
    · have := HM11.out
      rw [HSX.out] at this
      exact this
set_option maxRecDepth 100000 in
set_option maxHeartbeats 8000000 in
theorem drename_over {B d b : Nat} {S : Dsk} {f : Fil} {w : World} (h : DK B d S w) (s t : ByteArray) (hs : s.size ≤ maxLen) (ht : t.size ≤ maxLen) (hd : S.down = false) (ha : S.at s = some b) (hfl : S.fl b = some f) (hn : isNm t = true) (hf : S.fuse ≠ 0) (hn1 : S.n < 1000000000) (hl : S.loose.length < 1000000000) {r : Nat} {g : Fil} (hr : (S.drop f).at t = some r) (hrf : S.fl r = some g) :
    Calls Try.prog 80 #[.pointer (some ⟨d, 0, none⟩), .string s, .string t] w fun e w' => e = .returned (.int .i64 0) ∧ ∃ m v, DK B d (((S.step.1.drop f).drop g).named f b t m v (some r)) w' ∧ Mov S d (((S.step.1.drop f).drop g).named f b t m v (some r)) w w' := by
  have hfs : f.nm = s := by
    obtain ⟨g, h1, h2⟩ := h.rest.at ha
    rw [hfl] at h1
    cases h1
    exact h2
  have ht2 : t.size ≤ 160 := by
    unfold isNm at hn
    simp only [Bool.and_eq_true, decide_eq_true_eq] at hn
    exact hn.2
  have hst : S.step.2 = 0 ∧ S.step.1.n = S.n ∧ S.step.1.fl = S.fl ∧ S.step.1.loose = S.loose ∧ S.step.1.D = S.D := by
    unfold Dsk.step
    rw [if_neg hf]
    split <;> exact ⟨rfl, rfl, rfl, rfl, rfl⟩
  have hat : ∀ x, S.step.1.at x = S.at x := fun x => by unfold Dsk.at; rw [hst.2.2.2.2]
  have hat2 : ∀ x, (S.step.1.drop f).at x = (S.drop f).at x := fun x => by rw [at_drop, at_drop, hat]
  have HST := Lib.hid (dstep_c h)
  rw [hst.1] at HST
  have HE := Lib.hid hst.2
  have HF := Lib.hid (dfind_c h s hs)
  rw [show S.find s = (some b, 0) from by unfold Dsk.find; rw [hd, ha]; rfl] at HF
  simp only [ptrOf, Option.map_some] at HF
  have HI := Lib.hid (isname_c t w ht)
  rw [show (decide (1 ≤ t.size) && decide (t.size ≤ 160)) = true from hn] at HI
  have HNS := Lib.hid (show f.nm.size ≤ maxLen by rw [hfs]; exact hs)
  have HFL := Lib.hid (show S.step.1.fl b = some f by rw [hst.2.2.1]; exact hfl)
  have HR := Lib.hid (show (S.step.1.drop f).at t = some r by rw [hat2]; exact hr)
  have HRF := Lib.hid (show S.step.1.fl r = some g by rw [hst.2.2.1]; exact hrf)
  have hgn : g.nm = t := by
    rw [at_drop] at hr
    split at hr
    · cases hr
    · obtain ⟨g', h1, h2⟩ := h.rest.at hr
      rw [hrf] at h1
      cases h1
      exact h2
  have HGN := Lib.hid (show g.nm.size ≤ maxLen by rw [hgn]; exact ht)
  have HNO := Lib.hid (show ∀ x, ((S.step.1.drop f).drop g).at x ≠ some b from fun x hx => by
    rw [at_drop] at hx
    split at hx
    · cases hx
    · rw [hat2, at_drop] at hx
      split at hx
      · cases hx
      · rename_i e
        obtain ⟨g', h1, h2⟩ := h.rest.at hx
        rw [hfl] at h1
        cases h1
        exact e h2.symm)
  clear h hst ha hfs hat hat2 hr hrf hgn hfl hn hf
  go_enter Try.func80, Try.ntmps80
  go_wp2_with fail
  refine HF.out.mono ?_
  rintro e1 w1 ⟨rfl, rfl⟩
  go_wp2_with fail
  refine HI.out.mono ?_
  rintro e2 w2 ⟨rfl, rfl⟩
  go_wp2_with fail
  refine HST.out.mono ?_
  rintro e3 w3 ⟨rfl, hk3, hm3⟩
  have n3 := (hk3.rest.fcells HFL.out).1
  obtain ⟨X, hX⟩ : ∃ X, X = w3.heap.size := ⟨_, rfl⟩
  obtain ⟨w4, hw4⟩ : ∃ w4, w4 = w3.alloc (.cells #[.int .i64 3, .pointer (some ⟨b, 0, none⟩), .int .i64 0, .string f.nm, .pointer none] 90) := ⟨_, rfl⟩
  have hx4 : w4.heap[X]? = some (.cells #[.int .i64 3, .pointer (some ⟨b, 0, none⟩), .int .i64 0, .string f.nm, .pointer none] 90 (0, 0)) := by rw [hw4, hX]; exact heap_alloc_new w3 _
  have hk4 : DK B d S.step.1 w4 := by rw [hw4]; exact hk3.alloc _
  have hm4 : Mov S d S.step.1 w2 w4 := by rw [hw4]; exact hm3.trans (Mov.ofBelow ((Below.refl _ _).alloc (Nat.le_refl _) _))
  have hX1 : w2.heap.size ≤ X := by rw [hX]; exact hm3.size
  have hXn : ¬ S.step.1.own d X := fun ho => by have := (hk3.ownLt ho).2; omega
  have hXs : X < w4.heap.size := (Array.getElem?_eq_some_iff.1 hx4).1
  have HX1 := Lib.hid hX1
  have HD := Lib.hid (ddrop_c hk4 (b := b) (f := f) HFL.out HNS.out)
  have HX4 := Lib.hid hx4
  have HM4 := Lib.hid hm4
  have HXN := Lib.hid hXn
  have HXS := Lib.hid hXs
  clear HF HI HST hk3 hm3 hx4 hk4 hm4 hX1 hXn hXs
  go_wp2_with fail
  rw [← hX]
  rw [← hw4]
  refine HD.out.mono ?_
  rintro e5 w5 ⟨rfl, hk5, hm5⟩
  have hx5 := (hm5.block X HXS.out HXN.out).trans HX4.out
  have c1 := hk5.cells.2.1
  have hlk := hk5.rest.look ht
  rw [HR.out] at hlk
  simp only [ptrOf, Option.map_some] at hlk
  have x4 := (cell_of_row w5 X 4 _ _ _ hx5).trans rfl
  have z4 := frozen_of_row w5 X 4 _ _ hx5
  have hm5' := HM4.out.trans hm5
  have HXN5 := Lib.hid (hm5.own0 HXS.out HXN.out)
  have HXS5 := Lib.hid (show X < w5.heap.size from (Array.getElem?_eq_some_iff.1 hx5).1)
  obtain ⟨w6, hw6⟩ : ∃ w6, w6 = w5.setCell ⟨X, 4, none⟩ (.pointer (some ⟨r, 0, none⟩)) := ⟨_, rfl⟩
  have hk6 : DK B d (S.step.1.drop f) w6 := by rw [hw6]; exact hk5.keepX HXN5.out fun k hk => Below.heap_setCell w5 ⟨X, 4, none⟩ _ k hk
  have hm6 : Mov S d (S.step.1.drop f) w2 w6 := by rw [hw6]; exact hm5'.keepX 4 _ _ _ HX1.out
  have hx6 : w6.heap[X]? = some (.cells #[.int .i64 3, .pointer (some ⟨b, 0, none⟩), .int .i64 0, .string f.nm, .pointer (some ⟨r, 0, none⟩)] 90 (0, 0)) := by rw [hw6]; exact row_set hx5 _ (o := 4) (by show 4 < 5; omega)
  have HK6 := Lib.hid hk6
  have HM6 := Lib.hid hm6
  have HX6 := Lib.hid hx6
  clear hk5 hm5 hx5 hm5' hk6 hm6 hx6 HX4 HXN HM4 hX hw4 n3 HD HXS
  go_wp2_with fail
  rw [← hw6]
  clear hw6 hlk c1 x4 z4
  have HD2 := Lib.hid (ddrop_c HK6.out (b := r) (f := g) HRF.out HGN.out)
  refine HD2.out.mono ?_
  rintro e6 w61 ⟨rfl, hk61, hm61⟩
  have HX6' := Lib.hid ((hm61.block X (Array.getElem?_eq_some_iff.1 HX6.out).1 HXN5.out).trans HX6.out)
  have HM6' := Lib.hid (HM6.out.trans hm61)
  have HK6' := Lib.hid hk61
  have HXN6 := Lib.hid (hm61.own0 (Array.getElem?_eq_some_iff.1 HX6.out).1 HXN5.out)
  clear hk61 hm61 HK6 HM6 HX6 HD2 HXN5
  have HK6 := HK6'
  have HM6 := HM6'
  have HX6 := HX6'
  have HXN5 := HXN6
  clear HK6' HM6' HX6' HXN6
  go_wp2_with fail
  refine (clone_c t w61 ht ht2).mono ?_
  rintro e7 w7 ⟨rfl, hb7⟩
  have hk7 := HK6.out.below hb7
  obtain ⟨⟨nc, nz⟩, hk8, hm8⟩ := hk7.nameSet (b := b) (f := f) HFL.out HNO.out t
  have hx7 := (hb7.block X (Array.getElem?_eq_some_iff.1 HX6.out).1).trans HX6.out
  have hXb : X ≠ b := fun e => HXN5.out (.inr (.inr (.inl ⟨f, by rw [e]; exact HFL.out⟩)))
  have HX8 := Lib.hid ((Below.heap_setCell w7 ⟨b, 0, none⟩ (.string t) X hXb).trans hx7)
  have HM8 := Lib.hid ((HM6.out.trans (Mov.ofBelow hb7)).trans hm8)
  have HXN8 := Lib.hid (show ¬ (((S.step.1.drop f).drop g).file b ⟨t, f.row, f.zs⟩).own d X from fun ho => by
    rcases hm8.own X ho with h1 | h1
    · exact HXN5.out h1
    · have := (Array.getElem?_eq_some_iff.1 hx7).1
      omega)
  have hn8 : (((S.step.1.drop f).drop g).file b ⟨t, f.row, f.zs⟩).n < maxLen := by
    show S.step.1.n < maxLen
    rw [HE.out.1]
    unfold maxLen
    omega
  have HP := Lib.hid (dput_c hk8 (b := b) (f := ⟨t, f.row, f.zs⟩) (by show (if _ then _ else _) = _; rw [if_pos rfl]) ht hn8)
  obtain ⟨w8, hw8⟩ : ∃ w8, w8 = w7.setCell ⟨b, 0, none⟩ (.string t) := ⟨_, rfl⟩
  rw [← hw8] at HP HX8 HM8
  clear hk7 hk8 hm8 hx7 hb7 HK6 HM6 HX6 hn8 hXb
  go_wp2_with fail
  rw [← hw8]
  clear hw8 nc nz
  refine HP.out.mono ?_
  rintro e9 w9 ⟨rfl, m, hk9, hm9⟩
  have hx9 := (hm9.block X (Array.getElem?_eq_some_iff.1 HX8.out).1 HXN8.out).trans HX8.out
  have HK9 := Lib.hid hk9
  have HM9 := Lib.hid (HM8.out.trans hm9)
  have c3 := hk9.cells.2.2.2.1
  have HX9 := Lib.hid hx9
  obtain ⟨SX, hSX⟩ : ∃ SX, SX = (((S.step.1.drop f).drop g).file b ⟨t, f.row, f.zs⟩).put m b ⟨t, f.row, f.zs⟩ := ⟨_, rfl⟩
  have HLL := Lib.hid (show SX.loose.length + 1 ≤ 1000000000 by
    rw [hSX]
    show S.step.1.loose.length + 1 ≤ _
    rw [HE.out.2.2.1]
    omega)
  have HC := Lib.hid (show (∃ f, SX.fl b = some f) ∧ ∀ b', ((some r) : Option Nat) = some b' → ∃ f, SX.fl b' = some f from by
    rw [hSX]
    refine ⟨⟨⟨t, f.row, f.zs⟩, by show (if _ then _ else _) = _; rw [if_pos rfl]⟩, fun b' hb => ?_⟩
    cases hb
    by_cases e : r = b
    · exact ⟨⟨t, f.row, f.zs⟩, by show (if _ then _ else _) = _; rw [if_pos e]⟩
    · exact ⟨g, by show (if _ then _ else S.step.1.fl r) = _; rw [if_neg e]; exact HRF.out⟩)
  rw [← hSX] at HK9 HM9 c3
  have HSX := Lib.hid hSX
  have HXN9 := Lib.hid (hm9.own0 (Array.getElem?_eq_some_iff.1 HX8.out).1 HXN8.out)
  clear hk9 hm9 hx9 HX8 HM8 HXN8 HP hSX
  go_wp2_with fail
  (try dsimp only [Act.put, List.setIfInBounds_toArray, List.set_cons_zero, List.set_cons_succ])
  obtain ⟨la, ln, lc, hlv⟩ : ∃ la ln lc, SX.lv = .slice la ln lc := by
    rcases HK9.out.rest.hl.2 with ⟨h1, _⟩ | ⟨g, cap, cur, h1, _⟩
    · exact ⟨_, _, _, h1⟩
    · exact ⟨_, _, _, h1⟩
  have HLV := Lib.hid hlv
  have HK9 := Lib.hid (HK9.out.below (Below.refl _ _).drew)
  have HM9 := Lib.hid (HM9.out.trans (Mov.ofBelow (S := SX) (d := d) (Below.refl _ _).drew))
  obtain ⟨w9d, hw9⟩ : ∃ w9d, w9d = w9.drew := ⟨_, rfl⟩
  have HX9 := Lib.hid (show w9d.heap[X]? = some (.cells #[.int .i64 3, .pointer (some ⟨b, 0, none⟩), .int .i64 0, .string f.nm, .pointer (some ⟨r, 0, none⟩)] 90 (0, 0)) from by rw [hw9]; exact HX9.out)
  rw [← hw9] at HK9 HM9
  have HXS9 := Lib.hid (show X < w9d.heap.size from (Array.getElem?_eq_some_iff.1 HX9.out).1)
  have HXN9 := Lib.hid (show ¬ SX.own d X from by rw [HSX.out]; exact HXN9.out)
  have HS := Lib.hid (show World.cell? w9d ⟨X, 0, none⟩ = some (.int .i64 3) ∧ World.cell? w9d ⟨X, 1, none⟩ = some (.pointer (some ⟨b, 0, none⟩)) ∧ World.cell? w9d ⟨X, 2, none⟩ = some (.int .i64 0) ∧ World.cell? w9d ⟨X, 3, none⟩ = some (.string f.nm) ∧ World.cell? w9d ⟨X, 4, none⟩ = some (.pointer (some ⟨r, 0, none⟩)) from ⟨(cell_of_row w9d X 0 _ _ _ HX9.out).trans rfl, (cell_of_row w9d X 1 _ _ _ HX9.out).trans rfl, (cell_of_row w9d X 2 _ _ _ HX9.out).trans rfl, (cell_of_row w9d X 3 _ _ _ HX9.out).trans rfl, (cell_of_row w9d X 4 _ _ _ HX9.out).trans rfl⟩)
  have HL1 := Lib.hid (fun W (hW : World.cell? W ⟨X, 0, none⟩ = some (.int .i64 3) ∧ World.cell? W ⟨X, 1, none⟩ = some (.pointer (some ⟨b, 0, none⟩)) ∧ World.cell? W ⟨X, 2, none⟩ = some (.int .i64 0) ∧ World.cell? W ⟨X, 3, none⟩ = some (.string f.nm) ∧ World.cell? W ⟨X, 4, none⟩ = some (.pointer (some ⟨r, 0, none⟩))) => run_cellsX W X 3 b 0 f.nm (some ⟨r, 0, none⟩) hW)
  refine anyH_begin (S := fun W => World.cell? W ⟨X, 0, none⟩ = some (.int .i64 3) ∧ World.cell? W ⟨X, 1, none⟩ = some (.pointer (some ⟨b, 0, none⟩)) ∧ World.cell? W ⟨X, 2, none⟩ = some (.int .i64 0) ∧ World.cell? W ⟨X, 3, none⟩ = some (.string f.nm) ∧ World.cell? W ⟨X, 4, none⟩ = some (.pointer (some ⟨r, 0, none⟩))) (by kernel_rfl) ?_
  rw [← hw9]
  clear hlv hw9 c3
  refine anyH_pureG 0 (d := 61) (op := .move (.tmp 0)) (gd := none) (.pointer (some ⟨d, 0, none⟩)) (by rfl) (fun o ho => wanted_plain ho _) (by kernel_rfl) (by kernel_rfl) (by kernel_rfl) (fun _ _ _ h => h) (fun o ho W hW => by unfold execOp; simp only [ho]; go_simp) HS.out ?_
  simp only [Act.put, List.setIfInBounds_toArray, List.set_cons_zero, List.set_cons_succ]
  refine anyH_pureG 1 (d := 62) (op := .move (.tmp 0)) (gd := none) (.pointer (some ⟨d, 0, none⟩)) (by rfl) (fun o ho => wanted_plain ho _) (by kernel_rfl) (by kernel_rfl) (by kernel_rfl) (fun _ _ _ h => h) (fun o ho W hW => by unfold execOp; simp only [ho]; go_simp) HS.out ?_
  simp only [Act.put, List.setIfInBounds_toArray, List.set_cons_zero, List.set_cons_succ]
  refine anyH_pureG 2 (d := 63) (op := .nilCheck (.tmp 62)) (gd := none) (.pointer (some ⟨d, 0, none⟩)) (by rfl) (fun o ho => wanted_plain ho _) (by kernel_rfl) (by kernel_rfl) (by kernel_rfl) (fun _ _ _ h => h) (fun o ho W hW => by unfold execOp; simp only [ho]; go_simp) HS.out ?_
  simp only [Act.put, List.setIfInBounds_toArray, List.set_cons_zero, List.set_cons_succ]
  refine anyH_pureG 3 (d := 64) (op := .fieldAddr 76 (.tmp 63) 3) (gd := none) (.pointer (some ⟨d, 3, none⟩)) (by rfl) (fun o ho => wanted_plain ho _) (by kernel_rfl) (by kernel_rfl) (by kernel_rfl) (fun _ _ _ h => h) (fun o ho W hW => by unfold execOp; simp only [ho]; go_simp) HS.out ?_
  simp only [Act.put, List.setIfInBounds_toArray, List.set_cons_zero, List.set_cons_succ]
  refine anyH_loadG 5 (d := 66) (ty := 90) (x := (.tmp 10)) (gd := none) (p := .pointer (some ⟨X, 0, none⟩)) (.agg #[.int .i64 3, .pointer (some ⟨b, 0, none⟩), .int .i64 0, .string f.nm, .pointer (some ⟨r, 0, none⟩)]) (by rfl) (fun o ho => wanted_plain ho _) (by kernel_rfl) (by kernel_rfl) (by kernel_rfl) (fun _ _ _ h => h) (by rfl) HL1.out HS.out ?_
  simp only [Act.put, List.setIfInBounds_toArray, List.set_cons_zero, List.set_cons_succ]
  refine wpAnyH_all (rs := [4, 6]) (by kernel_rfl) (by simp) ?_
  intro k hk
  simp only [List.mem_cons, List.not_mem_nil, or_false] at hk
  rcases hk with rfl | rfl
  · refine op_atJ 4 (d := some 65) (op := .load 74 (.tmp 64)) (by rfl) ?_
    intro o4 hod4 hoo4
    refine wp_load_g 74 (.tmp 64) hoo4 (.pointer (some ⟨d, 3, none⟩)) (.slice la ln lc) (by rfl) (run_cell_chgs _ ⟨d, 3, none⟩ _ _ _ (HK9.out.cells.2.2.2.1.trans (congrArg some HLV.out))) ?_
    rw [hod4]
    clear hod4 hoo4
    simp only [Act.put, List.setIfInBounds_toArray, List.set_cons_zero, List.set_cons_succ]
    refine ⟨HS.out, ?_⟩
    refine wpAnyH_all (rs := [6]) (by kernel_rfl) (by simp) ?_
    intro k hk; simp only [List.mem_cons, List.not_mem_nil, or_false] at hk; subst hk
    refine op_atJ 6 (d := some 67) (op := .buildSlice 74 1 #[(0, (.tmp 66))]) (by rfl) ?_
    intro o5 hod5 hoo5
    refine wp_bsG (.tmp 66) hoo5 3 b 0 f.nm (some ⟨r, 0, none⟩) (by rfl) ?_
    rw [hod5]
    clear hod5 hoo5
    simp only [Act.put, List.setIfInBounds_toArray, List.set_cons_zero, List.set_cons_succ]
    refine ⟨(show World.cell? _ ⟨X, 0, none⟩ = some (.int .i64 3) ∧ World.cell? _ ⟨X, 1, none⟩ = some (.pointer (some ⟨b, 0, none⟩)) ∧ World.cell? _ ⟨X, 2, none⟩ = some (.int .i64 0) ∧ World.cell? _ ⟨X, 3, none⟩ = some (.string f.nm) ∧ World.cell? _ ⟨X, 4, none⟩ = some (.pointer (some ⟨r, 0, none⟩)) from by obtain ⟨y0, y1, y2, y3, y4⟩ := HS.out; have hb := (Below.refl _ _).alloc (Nat.le_refl w9d.heap.size) (.cells #[.int .i64 3, .pointer (some ⟨b, 0, none⟩), .int .i64 0, .string f.nm, .pointer (some ⟨r, 0, none⟩)] 90); exact ⟨(hb.cell (p := ⟨X, 0, none⟩) HXS9.out).trans y0, (hb.cell (p := ⟨X, 1, none⟩) HXS9.out).trans y1, (hb.cell (p := ⟨X, 2, none⟩) HXS9.out).trans y2, (hb.cell (p := ⟨X, 3, none⟩) HXS9.out).trans y3, (hb.cell (p := ⟨X, 4, none⟩) HXS9.out).trans y4⟩), ?_⟩
    clear HS
    refine wpAnyH_all (rs := [7]) (by kernel_rfl) (by simp) ?_
    intro k hk; simp only [List.mem_cons, List.not_mem_nil, or_false] at hk; subst hk
    refine op_atJ 7 (d := some 68) (op := .call { callee := .builtin .append, args := #[(.tmp 65), (.tmp 67)], argTypes := #[74, 74] }) (by rfl) ?_
    intro o6 hod6 hoo6
    refine wp_pushC (.tmp 65) (.tmp 67) hoo6 B d SX ⟨3, b, 0, f.nm, (some r)⟩ HK9.out HLV.out.symm (by rfl) HLL.out HC.out ?_
    intro va vn vc w10 c10 f10 hk10 hm10
    have HK10 := Lib.hid hk10
    have HM10 := Lib.hid (HM9.out.trans hm10)
    have HT7 := Lib.hid (show w10.there d 3 1 from fun j hj => by
      obtain rfl : j = 0 := by omega
      exact ⟨by rw [Nat.add_zero, c10]; rfl, f10⟩)
    have HS := Lib.hid (show World.cell? w10 ⟨X, 0, none⟩ = some (.int .i64 3) ∧ World.cell? w10 ⟨X, 1, none⟩ = some (.pointer (some ⟨b, 0, none⟩)) ∧ World.cell? w10 ⟨X, 2, none⟩ = some (.int .i64 0) ∧ World.cell? w10 ⟨X, 3, none⟩ = some (.string f.nm) ∧ World.cell? w10 ⟨X, 4, none⟩ = some (.pointer (some ⟨r, 0, none⟩)) from by
      have e9 := hm10.block X HXS9.out HXN9.out
      rw [Below.heap_setCell w10 ⟨d, 3, none⟩ _ X (show X ≠ d from fun e => HXN9.out (.inl e))] at e9
      have q : ∀ i, w10.cell? ⟨X, i, none⟩ = w9d.cell? ⟨X, i, none⟩ := fun i => World.cell?_of_block e9
      have hx := HX9.out
      exact ⟨(q 0).trans ((cell_of_row w9d X 0 _ _ _ hx).trans rfl), (q 1).trans ((cell_of_row w9d X 1 _ _ _ hx).trans rfl), (q 2).trans ((cell_of_row w9d X 2 _ _ _ hx).trans rfl), (q 3).trans ((cell_of_row w9d X 3 _ _ _ hx).trans rfl), (q 4).trans ((cell_of_row w9d X 4 _ _ _ hx).trans rfl)⟩)
    have HXD := Lib.hid (show X ≠ d from fun e => HXN9.out (.inl e))
    rw [hod6]
    clear hod6 hoo6 hk10 hm10 c10 f10
    simp only [Act.put, List.setIfInBounds_toArray, List.set_cons_zero, List.set_cons_succ]
    refine ⟨HS.out, ?_⟩
    refine anyH_pureG 8 (d := 69) (op := .nilCheck (.tmp 61)) (gd := none) (.pointer (some ⟨d, 0, none⟩)) (by rfl) (fun o ho => wanted_plain ho _) (by kernel_rfl) (by kernel_rfl) (by kernel_rfl) (fun _ _ _ h => h) (fun o ho W hW => by unfold execOp; simp only [ho]; go_simp) HS.out ?_
    simp only [Act.put, List.setIfInBounds_toArray, List.set_cons_zero, List.set_cons_succ]
    refine anyH_pureG 9 (d := 70) (op := .fieldAddr 76 (.tmp 69) 3) (gd := none) (.pointer (some ⟨d, 3, none⟩)) (by rfl) (fun o ho => wanted_plain ho _) (by kernel_rfl) (by kernel_rfl) (by kernel_rfl) (fun _ _ _ h => h) (fun o ho W hW => by unfold execOp; simp only [ho]; go_simp) HS.out ?_
    simp only [Act.put, List.setIfInBounds_toArray, List.set_cons_zero, List.set_cons_succ]
    refine wpAnyH_all (rs := [10]) (by kernel_rfl) (by simp) ?_
    intro k hk; simp only [List.mem_cons, List.not_mem_nil, or_false] at hk; subst hk
    refine op_atJ 10 (d := none) (op := .store 74 (.tmp 70) (.tmp 68)) (by rfl) ?_
    intro o7 hod7 hoo7
    refine wp_store_one 74 (.tmp 70) (.tmp 68) hoo7 d 3 (.slice va vn vc) (by rfl) (by rfl) HT7.out (by kernel_rfl) (by rfl) (by rfl) ?_
    rw [hod7]
    clear hod7 hoo7
    simp only [Act.put, List.setIfInBounds_toArray, List.set_cons_zero, List.set_cons_succ]
    refine ⟨by obtain ⟨y0, y1, y2, y3, y4⟩ := HS.out; have q : ∀ i, (w10.setCells d 3 [.slice va vn vc]).cell? ⟨X, i, none⟩ = w10.cell? ⟨X, i, none⟩ := fun i => World.cell?_of_block (one_heap HXD.out); exact ⟨(q 0).trans y0, (q 1).trans y1, (q 2).trans y2, (q 3).trans y3, (q 4).trans y4⟩, ?_⟩
    refine wpAnyH_done (by kernel_rfl) ?_ _
    clear HS HT7 HL1
    obtain ⟨w11, hw11⟩ : ∃ w11, w11 = w10.setCells d 3 [.slice va vn vc] := ⟨_, rfl⟩
    have HK11 := Lib.hid (show DK B d (SX.more (.slice va vn vc) ⟨3, b, 0, f.nm, (some r)⟩) w11 from by rw [hw11]; exact HK10.out)
    have HM11 := Lib.hid (show Mov S d (SX.more (.slice va vn vc) ⟨3, b, 0, f.nm, (some r)⟩) _ w11 from by rw [hw11]; exact HM10.out)
    rw [← hw11]
    clear hw11 HK10 HM10 HK9 HM9
    go_wp2_with fail
    go_ret
    refine ⟨rfl, m, .slice va vn vc, ?_, ?_⟩
    · have := HK11.out
      rw [HSX.out] at this
      exact this
    · have := HM11.out
      rw [HSX.out] at this
      exact this
  · refine op_atJ 6 (d := some 67) (op := .buildSlice 74 1 #[(0, (.tmp 66))]) (by rfl) ?_
    intro o5 hod5 hoo5
    refine wp_bsG (.tmp 66) hoo5 3 b 0 f.nm (some ⟨r, 0, none⟩) (by rfl) ?_
    rw [hod5]
    clear hod5 hoo5
    simp only [Act.put, List.setIfInBounds_toArray, List.set_cons_zero, List.set_cons_succ]
    refine ⟨(show World.cell? _ ⟨X, 0, none⟩ = some (.int .i64 3) ∧ World.cell? _ ⟨X, 1, none⟩ = some (.pointer (some ⟨b, 0, none⟩)) ∧ World.cell? _ ⟨X, 2, none⟩ = some (.int .i64 0) ∧ World.cell? _ ⟨X, 3, none⟩ = some (.string f.nm) ∧ World.cell? _ ⟨X, 4, none⟩ = some (.pointer (some ⟨r, 0, none⟩)) from by obtain ⟨y0, y1, y2, y3, y4⟩ := HS.out; have hb := (Below.refl _ _).alloc (Nat.le_refl w9d.heap.size) (.cells #[.int .i64 3, .pointer (some ⟨b, 0, none⟩), .int .i64 0, .string f.nm, .pointer (some ⟨r, 0, none⟩)] 90); exact ⟨(hb.cell (p := ⟨X, 0, none⟩) HXS9.out).trans y0, (hb.cell (p := ⟨X, 1, none⟩) HXS9.out).trans y1, (hb.cell (p := ⟨X, 2, none⟩) HXS9.out).trans y2, (hb.cell (p := ⟨X, 3, none⟩) HXS9.out).trans y3, (hb.cell (p := ⟨X, 4, none⟩) HXS9.out).trans y4⟩), ?_⟩
    refine wpAnyH_all (rs := [4]) (by kernel_rfl) (by simp) ?_
    intro k hk; simp only [List.mem_cons, List.not_mem_nil, or_false] at hk; subst hk
    refine op_atJ 4 (d := some 65) (op := .load 74 (.tmp 64)) (by rfl) ?_
    intro o4 hod4 hoo4
    refine wp_load_g 74 (.tmp 64) hoo4 (.pointer (some ⟨d, 3, none⟩)) (.slice la ln lc) (by rfl) (run_cell_chgs _ ⟨d, 3, none⟩ _ _ _ ((HK9.out.alloc (.cells #[.int .i64 3, .pointer (some ⟨b, 0, none⟩), .int .i64 0, .string f.nm, .pointer (some ⟨r, 0, none⟩)] 90)).cells.2.2.2.1.trans (congrArg some HLV.out))) ?_
    rw [hod4]
    clear hod4 hoo4
    simp only [Act.put, List.setIfInBounds_toArray, List.set_cons_zero, List.set_cons_succ]
    refine ⟨(show World.cell? _ ⟨X, 0, none⟩ = some (.int .i64 3) ∧ World.cell? _ ⟨X, 1, none⟩ = some (.pointer (some ⟨b, 0, none⟩)) ∧ World.cell? _ ⟨X, 2, none⟩ = some (.int .i64 0) ∧ World.cell? _ ⟨X, 3, none⟩ = some (.string f.nm) ∧ World.cell? _ ⟨X, 4, none⟩ = some (.pointer (some ⟨r, 0, none⟩)) from by obtain ⟨y0, y1, y2, y3, y4⟩ := HS.out; have hb := (Below.refl _ _).alloc (Nat.le_refl w9d.heap.size) (.cells #[.int .i64 3, .pointer (some ⟨b, 0, none⟩), .int .i64 0, .string f.nm, .pointer (some ⟨r, 0, none⟩)] 90); exact ⟨(hb.cell (p := ⟨X, 0, none⟩) HXS9.out).trans y0, (hb.cell (p := ⟨X, 1, none⟩) HXS9.out).trans y1, (hb.cell (p := ⟨X, 2, none⟩) HXS9.out).trans y2, (hb.cell (p := ⟨X, 3, none⟩) HXS9.out).trans y3, (hb.cell (p := ⟨X, 4, none⟩) HXS9.out).trans y4⟩), ?_⟩
    clear HS
    refine wpAnyH_all (rs := [7]) (by kernel_rfl) (by simp) ?_
    intro k hk; simp only [List.mem_cons, List.not_mem_nil, or_false] at hk; subst hk
    refine op_atJ 7 (d := some 68) (op := .call { callee := .builtin .append, args := #[(.tmp 65), (.tmp 67)], argTypes := #[74, 74] }) (by rfl) ?_
    intro o6 hod6 hoo6
    refine wp_pushC (.tmp 65) (.tmp 67) hoo6 B d SX ⟨3, b, 0, f.nm, (some r)⟩ HK9.out HLV.out.symm (by rfl) HLL.out HC.out ?_
    intro va vn vc w10 c10 f10 hk10 hm10
    have HK10 := Lib.hid hk10
    have HM10 := Lib.hid (HM9.out.trans hm10)
    have HT7 := Lib.hid (show w10.there d 3 1 from fun j hj => by
      obtain rfl : j = 0 := by omega
      exact ⟨by rw [Nat.add_zero, c10]; rfl, f10⟩)
    have HS := Lib.hid (show World.cell? w10 ⟨X, 0, none⟩ = some (.int .i64 3) ∧ World.cell? w10 ⟨X, 1, none⟩ = some (.pointer (some ⟨b, 0, none⟩)) ∧ World.cell? w10 ⟨X, 2, none⟩ = some (.int .i64 0) ∧ World.cell? w10 ⟨X, 3, none⟩ = some (.string f.nm) ∧ World.cell? w10 ⟨X, 4, none⟩ = some (.pointer (some ⟨r, 0, none⟩)) from by
      have e9 := hm10.block X HXS9.out HXN9.out
      rw [Below.heap_setCell w10 ⟨d, 3, none⟩ _ X (show X ≠ d from fun e => HXN9.out (.inl e))] at e9
      have q : ∀ i, w10.cell? ⟨X, i, none⟩ = w9d.cell? ⟨X, i, none⟩ := fun i => World.cell?_of_block e9
      have hx := HX9.out
      exact ⟨(q 0).trans ((cell_of_row w9d X 0 _ _ _ hx).trans rfl), (q 1).trans ((cell_of_row w9d X 1 _ _ _ hx).trans rfl), (q 2).trans ((cell_of_row w9d X 2 _ _ _ hx).trans rfl), (q 3).trans ((cell_of_row w9d X 3 _ _ _ hx).trans rfl), (q 4).trans ((cell_of_row w9d X 4 _ _ _ hx).trans rfl)⟩)
    have HXD := Lib.hid (show X ≠ d from fun e => HXN9.out (.inl e))
    rw [hod6]
    clear hod6 hoo6 hk10 hm10 c10 f10
    simp only [Act.put, List.setIfInBounds_toArray, List.set_cons_zero, List.set_cons_succ]
    refine ⟨HS.out, ?_⟩
    refine anyH_pureG 8 (d := 69) (op := .nilCheck (.tmp 61)) (gd := none) (.pointer (some ⟨d, 0, none⟩)) (by rfl) (fun o ho => wanted_plain ho _) (by kernel_rfl) (by kernel_rfl) (by kernel_rfl) (fun _ _ _ h => h) (fun o ho W hW => by unfold execOp; simp only [ho]; go_simp) HS.out ?_
    simp only [Act.put, List.setIfInBounds_toArray, List.set_cons_zero, List.set_cons_succ]
    refine anyH_pureG 9 (d := 70) (op := .fieldAddr 76 (.tmp 69) 3) (gd := none) (.pointer (some ⟨d, 3, none⟩)) (by rfl) (fun o ho => wanted_plain ho _) (by kernel_rfl) (by kernel_rfl) (by kernel_rfl) (fun _ _ _ h => h) (fun o ho W hW => by unfold execOp; simp only [ho]; go_simp) HS.out ?_
    simp only [Act.put, List.setIfInBounds_toArray, List.set_cons_zero, List.set_cons_succ]
    refine wpAnyH_all (rs := [10]) (by kernel_rfl) (by simp) ?_
    intro k hk; simp only [List.mem_cons, List.not_mem_nil, or_false] at hk; subst hk
    refine op_atJ 10 (d := none) (op := .store 74 (.tmp 70) (.tmp 68)) (by rfl) ?_
    intro o7 hod7 hoo7
    refine wp_store_one 74 (.tmp 70) (.tmp 68) hoo7 d 3 (.slice va vn vc) (by rfl) (by rfl) HT7.out (by kernel_rfl) (by rfl) (by rfl) ?_
    rw [hod7]
    clear hod7 hoo7
    simp only [Act.put, List.setIfInBounds_toArray, List.set_cons_zero, List.set_cons_succ]
    refine ⟨by obtain ⟨y0, y1, y2, y3, y4⟩ := HS.out; have q : ∀ i, (w10.setCells d 3 [.slice va vn vc]).cell? ⟨X, i, none⟩ = w10.cell? ⟨X, i, none⟩ := fun i => World.cell?_of_block (one_heap HXD.out); exact ⟨(q 0).trans y0, (q 1).trans y1, (q 2).trans y2, (q 3).trans y3, (q 4).trans y4⟩, ?_⟩
    refine wpAnyH_done (by kernel_rfl) ?_ _
    clear HS HT7 HL1
    obtain ⟨w11, hw11⟩ : ∃ w11, w11 = w10.setCells d 3 [.slice va vn vc] := ⟨_, rfl⟩
    have HK11 := Lib.hid (show DK B d (SX.more (.slice va vn vc) ⟨3, b, 0, f.nm, (some r)⟩) w11 from by rw [hw11]; exact HK10.out)
    have HM11 := Lib.hid (show Mov S d (SX.more (.slice va vn vc) ⟨3, b, 0, f.nm, (some r)⟩) _ w11 from by rw [hw11]; exact HM10.out)
    rw [← hw11]
    clear hw11 HK10 HM10 HK9 HM9
    go_wp2_with fail
    go_ret
    refine ⟨rfl, m, .slice va vn vc, ?_, ?_⟩
    · have := HK11.out
      rw [HSX.out] at this
      exact this
    · have := HM11.out
      rw [HSX.out] at this
      exact this
set_option maxRecDepth 100000 in
set_option maxHeartbeats 8000000 in
theorem drename_no {B d : Nat} {S : Dsk} {w : World} (h : DK B d S w) (s t : ByteArray) (hs : s.size ≤ maxLen) (ht : t.size ≤ maxLen) (hn : (S.find s).2 ≠ 0) : Calls Try.prog 80 #[.pointer (some ⟨d, 0, none⟩), .string s, .string t] w fun e w' => e = .returned (.int .i64 (S.find s).2) ∧ w' = w := by
  have HF := Lib.hid (dfind_c h s hs)
  have hn' : ((S.find s).2 == 0) = false := beq_eq_false_iff_ne.2 hn
  clear h
  obtain ⟨x, hx⟩ : ∃ x, x = (S.find s).2 := ⟨_, rfl⟩
  obtain ⟨y, hy⟩ : ∃ y, y = ptrOf (S.find s).1 := ⟨_, rfl⟩
  rw [← hx] at HF hn hn' ⊢
  rw [← hy] at HF
  clear hx
  have hy' : ∃ z, y = .pointer z := ⟨_, hy⟩
  obtain ⟨z, rfl⟩ := hy'
  clear hy
  go_enter Try.func80, Try.ntmps80
  go_wp2_with fail
  refine HF.out.mono ?_
  rintro e1 w1 ⟨rfl, rfl⟩
  go_wp2_with fail
  go_ret
  exact ⟨rfl, rfl⟩
set_option maxRecDepth 100000 in
set_option maxHeartbeats 8000000 in
theorem drename_bad {B d : Nat} {S : Dsk} {w : World} (h : DK B d S w) (s t : ByteArray) (hs : s.size ≤ maxLen) (ht : t.size ≤ maxLen) (hd : S.down = false) {b : Nat} (ha : S.at s = some b) (hn : isNm t = false) : Calls Try.prog 80 #[.pointer (some ⟨d, 0, none⟩), .string s, .string t] w fun e w' => e = .returned (.int .i64 1) ∧ w' = w := by
  have HF := Lib.hid (dfind_c h s hs)
  rw [show S.find s = (some b, 0) from by unfold Dsk.find; rw [hd, ha]; rfl] at HF
  simp only [ptrOf, Option.map_some] at HF
  have HI := Lib.hid (isname_c t w ht)
  rw [show (decide (1 ≤ t.size) && decide (t.size ≤ 160)) = false from hn] at HI
  clear h hn
  go_enter Try.func80, Try.ntmps80
  go_wp2_with fail
  refine HF.out.mono ?_
  rintro e1 w1 ⟨rfl, rfl⟩
  go_wp2_with fail
  refine HI.out.mono ?_
  rintro e2 w2 ⟨rfl, rfl⟩
  go_wp2_with fail
  go_ret
  exact ⟨rfl, rfl⟩
set_option maxRecDepth 100000 in
set_option maxHeartbeats 8000000 in
theorem drename_power {B d : Nat} {S : Dsk} {w : World} (h : DK B d S w) (s t : ByteArray) (hs : s.size ≤ maxLen) (ht : t.size ≤ maxLen) (hd : S.down = false) {b : Nat} (ha : S.at s = some b) (hn : isNm t = true) (hf : S.fuse = 0) : Calls Try.prog 80 #[.pointer (some ⟨d, 0, none⟩), .string s, .string t] w fun e w' => e = .returned (.int .i64 5) ∧ DK B d { S with down := true } w' ∧ Mov S d { S with down := true } w w' := by
  have HF := Lib.hid (dfind_c h s hs)
  rw [show S.find s = (some b, 0) from by unfold Dsk.find; rw [hd, ha]; rfl] at HF
  simp only [ptrOf, Option.map_some] at HF
  have HI := Lib.hid (isname_c t w ht)
  rw [show (decide (1 ≤ t.size) && decide (t.size ≤ 160)) = true from hn] at HI
  have hst : S.step = ({ S with down := true }, 5) := by
    unfold Dsk.step
    rw [if_pos hf]
  have HST := Lib.hid (dstep_c h)
  rw [hst] at HST
  clear h hn hst
  go_enter Try.func80, Try.ntmps80
  go_wp2_with fail
  refine HF.out.mono ?_
  rintro e1 w1 ⟨rfl, rfl⟩
  go_wp2_with fail
  refine HI.out.mono ?_
  rintro e2 w2 ⟨rfl, rfl⟩
  go_wp2_with fail
  refine HST.out.mono ?_
  rintro e3 w3 ⟨rfl, hk3, hm3⟩
  have HK3 := Lib.hid hk3
  have HM3 := Lib.hid hm3
  clear hk3 hm3
  go_wp2_with fail
  go_ret
  exact ⟨rfl, HK3.out, HM3.out⟩
end Go.Proofs.Ytmomdfmilelilaa
