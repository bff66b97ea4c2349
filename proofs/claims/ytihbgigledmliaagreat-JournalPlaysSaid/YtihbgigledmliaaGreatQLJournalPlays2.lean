/-
  What is used of: Dknq Dks Dnm Dkwa Dnn Rfa Rfb Rfc.
-/
import Derived.Test.YtihbgigledmliaaGreatQLJournalPlays1
import Derived.WalkKit
import Derived.WalkSpells
import Derived.WalkLawsBesides
import Derived.Lib.Hide
import Derived.Laws.BitsAllLaws
import Derived.Laws.AppendOwnNone
import Derived.BigQuiet
import Derived.Deep.QuietTactic
import Derived.Deep.MidRow
import Derived.Deep.RegionWith
import Derived.OrdersHeld
import Derived.Deep.RegionHeld
import Derived.RowKit
import Derived.Deep.RegionHeld3
import Derived.Deep.DrawnRows
import Derived.ProofKit
import Derived.OpenShut
import Derived.ShutString
import Derived.ChangeOld
import Derived.SizedLaws
import Derived.Laws.CopyOwn
import Derived.Laws.Rows
import Derived.Laws.Tables
import Derived.StillTailTactics
import Derived.Deep.CutRange
import Derived.Great.BuildSlice
import Derived.Maps.OwnSet
import Derived.RangeFuncFrom
import Derived.RangeFuncCalls
import Derived.RangeFuncLeaves
import Derived.OwnWalkIn
import Derived.TacticsInMore
import Derived.LoopNIn
import Derived.LoopIn
import Derived.Shelf.LaysM
import Derived.Shelf.Strconv.Clone
import Derived.Shelf.Sort.Plain
import Derived.Shelf.Strings.Prefix
import Derived.Shelf.Slices.In.SortNone
import Derived.Shelf.Bytes.SlEqualAll
import Derived.Shelf.Bytes.Small
import Derived.Maps.AppendAt
import Derived.Orders
import Derived.Sort.OwnSorted
import Derived.Maps.RangeWalk
import Derived.Lib.AppendZerosOnto
import Derived.Deep.Slices
import Derived.Deep.Fields
import Derived.Deep.Upon
import Derived.Lib.SlBytesConst
import Derived.Deep.CutBlock
namespace Go.Proofs.YtihbgigledmliaaGreat
open Go.RowKit Go.Maps
set_option linter.unusedVariables false
theorem DK.nameSet {B d b : Nat} {S : Dsk} {f : Fil} {w : World} (h : DK B d S w) (hf : S.fl b = some f) (hno : ∀ x, S.at x ≠ some b) (t : ByteArray) :
  (w.cell? ⟨b, 0, none⟩ = some (.string f.nm) ∧ w.frozen? ⟨b, 0, none⟩ = false) ∧ DK B d (S.file b ⟨t, f.row, f.zs⟩) (w.setCell ⟨b, 0, none⟩ (.string t)) ∧ Mov S d (S.file b ⟨t, f.row, f.zs⟩) w (w.setCell ⟨b, 0, none⟩ (.string t)) := by
 obtain ⟨hfB, hfh, hfr, hfz⟩ := h.rest.hf b f hf
 have ho : ∀ k, k ≠ b → (w.setCell ⟨b, 0, none⟩ (.string t)).heap[k]? = w.heap[k]? := fun k hk => Below.heap_setCell w ⟨b, 0, none⟩ _ k hk
 have nb : ∀ k o, w.heap[k]? = some o → (∀ C fr, o ≠ Obj.cells C 159 fr) → k ≠ b := fun k o hh ht e => by
  subst e
  rw [hfh] at hh
  exact ht _ _ (Option.some.inj hh).symm
 have fct : ∀ (C : Array Value) (t : TypeId) (fr : Nat × Nat), t ≠ 159 → ∀ C' fr', (Obj.cells C t fr) ≠ .cells C' 159 fr' := fun C t fr ht C' fr' e => ht (by cases e; rfl)
 have all : ∀ k o, w.heap[k]? = some o → (∀ C fr, o ≠ Obj.cells C 159 fr) → (w.setCell ⟨b, 0, none⟩ (.string t)).heap[k]? = w.heap[k]? := fun k o hh h1 => ho k (nb k o hh h1)
 have fl : ∀ c g, (S.file b ⟨t, f.row, f.zs⟩).fl c = some g → (c = b ∧ g = ⟨t, f.row, f.zs⟩) ∨ (c ≠ b ∧ S.fl c = some g) := fun c g hc => by
  have hc' : (if c = b then some (⟨t, f.row, f.zs⟩ : Fil) else S.fl c) = some g := hc
  split at hc'
  ·
   rename_i e; cases hc'; exact .inl ⟨e, rfl⟩
  ·
   rename_i e; exact .inr ⟨e, hc'⟩
 have up : ∀ c g, S.fl c = some g → ∃ g', (S.file b ⟨t, f.row, f.zs⟩).fl c = some g' := fun c g hc => by
  by_cases e : c = b
  ·
   exact ⟨⟨t, f.row, f.zs⟩, by show (if _ then _ else _) = _; rw [if_pos e]⟩
  ·
   exact ⟨g, by show (if _ then _ else _) = _; rw [if_neg e]; exact hc⟩
 refine ⟨⟨(cell_of_row w b 0 _ _ _ hfh).trans rfl, frozen_of_row w b 0 _ _ hfh⟩, ⟨h.base, ?_, ⟨?_, fun c g hc => ?_, fun c c' g g' k hc hc' hk hk' => ?_, fun x => ?_, ?_, fun c hc => ?_⟩⟩, rfl, rfl, rfl, ?_, fun k hk hn => ?_, fun k hk => ?_⟩
 ·
  exact (all d _ h.hd (fct _ _ _ (by decide))).trans h.hd
 ·
  rcases h.rest.hm with h0 | ⟨m, h1, h2, h3⟩
  ·
   exact .inl h0
  ·
   obtain ⟨es, cl, hh⟩ := map_block h3
   exact .inr ⟨m, h1, h2, map_keep h3 (all m _ hh (fun C fr e => by cases e))⟩
 ·
  rcases fl c g hc with ⟨rfl, rfl⟩ | ⟨hne, hc⟩
  ·
   refine ⟨hfB, row_set hfh (.string t) (o := 0) (by show 0 < 2; omega), row_keep hfr fun k hk => ?_, hfz⟩
   obtain ⟨_, cur, hh⟩ := row_block hfr hk
   exact all k _ hh (fct _ _ _ (by decide))
  ·
   obtain ⟨h1, h2, h3, h4⟩ := h.rest.hf c g hc
   refine ⟨h1, (ho c hne).trans h2, row_keep h3 fun k hk => ?_, h4⟩
   obtain ⟨_, cur, hh⟩ := row_block h3 hk
   exact all k _ hh (fct _ _ _ (by decide))
 ·
  have un : ∀ c g, (S.file b ⟨t, f.row, f.zs⟩).fl c = some g → ∃ g0, S.fl c = some g0 ∧ g0.row = g.row := fun c g hc => by
   rcases fl c g hc with ⟨e1, e2⟩ | ⟨_, hc⟩
   ·
    rw [e1, e2]; exact ⟨f, hf, rfl⟩
   ·
    exact ⟨g, hc, rfl⟩
  obtain ⟨g0, k0, k1⟩ := un c g hc
  obtain ⟨g1, k2, k3⟩ := un c' g' hc'
  exact h.rest.ha c c' g0 g1 k k0 k2 (by rw [k1]; exact hk) (by rw [k3]; exact hk')
 ·
  rcases h.rest.hr x with h0 | ⟨c, g, h1, h2, h3⟩
  ·
   exact .inl h0
  ·
   have hx : S.at x = some c := by unfold Dsk.at; rw [h1]; simp
   have hcb : c ≠ b := fun e => hno x (by rw [hx, e])
   exact .inr ⟨c, g, h1, by show (if _ then _ else _) = _; rw [if_neg hcb]; exact h2, h3⟩
 ·
  refine row_keep h.rest.hl fun k hk => ?_
  obtain ⟨_, cur, hh⟩ := row_block h.rest.hl hk
  exact all k _ hh (fct _ _ _ (by decide))
 ·
  obtain ⟨⟨g, h1⟩, h2⟩ := h.rest.hc c hc
  exact ⟨up _ g h1, fun b' hb' => by obtain ⟨g2, h3⟩ := h2 b' hb'; exact up _ g2 h3⟩
 ·
  show w.heap.size ≤ (w.setCell ⟨b, 0, none⟩ (.string t)).heap.size
  simp [World.setCell]
 ·
  exact ho k fun e => hn (.inr (.inr (.inl ⟨f, by rw [e]; exact hf⟩)))
 ·
  rcases hk with hk | hk | ⟨g, hk⟩ | ⟨c, g, hc, hk⟩ | hk
  ·
   exact .inl (.inl hk)
  ·
   exact .inl (.inr (.inl hk))
  ·
   rcases fl k g hk with ⟨rfl, rfl⟩ | ⟨_, hk⟩
   ·
    exact .inl (.inr (.inr (.inl ⟨f, hf⟩)))
   ·
    exact .inl (.inr (.inr (.inl ⟨g, hk⟩)))
  ·
   rcases fl c g hc with ⟨rfl, rfl⟩ | ⟨_, hc⟩
   ·
    exact .inl (.inr (.inr (.inr (.inl ⟨c, f, hf, hk⟩))))
   ·
    exact .inl (.inr (.inr (.inr (.inl ⟨c, g, hc, hk⟩))))
  ·
   exact .inl (.inr (.inr (.inr (.inr hk))))
theorem run_cellsX (W : World) (X : Nat) (k1 : Int) (b : Nat) (n : Int) (nm : ByteArray) (p : Option Addr) (h : W.cell? ⟨X, 0, none⟩ = some (.int .i64 k1) ∧ W.cell? ⟨X, 1, none⟩ = some (.pointer (some ⟨b, 0, none⟩)) ∧ W.cell? ⟨X, 2, none⟩ = some (.int .i64 n) ∧ W.cell? ⟨X, 3, none⟩ = some (.string nm) ∧ W.cell? ⟨X, 4, none⟩ = some (.pointer p)) :
  (Instr.loadAt 145 (.pointer (some ⟨X, 0, none⟩))).run Tryz.prog W = .ok (.agg #[.int .i64 k1, .pointer (some ⟨b, 0, none⟩), .int .i64 n, .string nm, .pointer p]) W := by
 obtain ⟨h0, h1, h2, h3, h4⟩ := h
 go_simp
theorem wp_bsG {w : World} {op : Oper} {a : Act} {K : Act → World → Prop} {Q : Exit → Act → World → Prop} (x : Operand) (ho : op.op = .buildSlice 78 1 #[(0, x)]) (k1 : Int) (b : Nat) (n : Int) (nm : ByteArray) (p : Option Addr) (hx : a.eval x = .agg #[.int .i64 k1, .pointer (some ⟨b, 0, none⟩), .int .i64 n, .string nm, .pointer p])
  (k : K (a.put op.dst (.slice (some ⟨w.heap.size, 0, none⟩) 1 1)) (w.alloc (.cells #[.int .i64 k1, .pointer (some ⟨b, 0, none⟩), .int .i64 n, .string nm, .pointer p] 145))) : op.wp Tryz.prog a w K Q := by
 unfold Oper.wp execOp
 simp only [ho, List.map_toArray, List.map_cons, List.map_nil, hx]
 go_simp
 exact k
/-- what Rename leaves, S0 being what it is behind the drops -/
def Dsk.named (S0 : Dsk) (f : Fil) (b : Nat) (t : ByteArray) (m : Nat) (v : Value) (rp : Option Nat) : Dsk := ((S0.file b ⟨t, f.row, f.zs⟩).put m b ⟨t, f.row, f.zs⟩).more v ⟨3, b, 0, f.nm, rp⟩
theorem DK.keepX {B d X : Nat} {S : Dsk} {w w' : World} (h : DK B d S w) (hX : ¬ S.own d X) (ho : ∀ k, k ≠ X → w'.heap[k]? = w.heap[k]?) : DK B d S w' := h.keep fun k hk => ho k fun e => hX (by rw [← e]; exact hk)
theorem Mov.keepX {S : Dsk} {d X : Nat} {w : World} (o : Nat) (v : Value) (S0 : Dsk) (w0 : World) (hm : Mov S0 d S w0 w) (hX : w0.heap.size ≤ X) : Mov S0 d S w0 (w.setCell ⟨X, o, none⟩ v) :=
 ⟨hm.os, hm.tape, hm.output, by show w0.heap.size ≤ (w.setCell ⟨X, o, none⟩ v).heap.size; simp only [World.setCell, Array.size_modify]; exact hm.size, fun k hk hn => (Below.heap_setCell w ⟨X, o, none⟩ v k (by show k ≠ X; omega)).trans (hm.block k hk hn), hm.own⟩
set_option maxRecDepth 100000 in
set_option maxHeartbeats 8000000 in
theorem drename_ok {B d b : Nat} {S : Dsk} {f : Fil} {w : World} (h : DK B d S w) (s t : ByteArray) (hs : s.size ≤ maxLen) (ht : t.size ≤ maxLen) (hd : S.down = false) (ha : S.at s = some b) (hfl : S.fl b = some f) (hn : isNm t = true) (hf : S.fuse ≠ 0) (hn1 : S.n < 1000000000) (hl : S.loose.length < 1000000000) (hr : (S.drop f).at t = none) :
  Calls Tryz.prog 52 #[.pointer (some ⟨d, 0, none⟩), .string s, .string t] w fun e w' => e = .returned (.int .i64 0) ∧ ∃ m v, DK B d ((S.step.1.drop f).named f b t m v none) w' ∧ Mov S d ((S.step.1.drop f).named f b t m v none) w w' := by
 have hfs : f.nm = s := by
  obtain ⟨g, h1, h2⟩ := h.rest.at ha
  rw [hfl] at h1
  cases h1
  exact h2
 have ht2 : t.size ≤ 160 := by
  unfold isNm at hn
  simp only [Bool.and_eq_true, decide_eq_true_eq] at hn
  exact hn.2
 have hst : S.step.2 = 0 ∧ S.step.1.n = S.n ∧ S.step.1.fl = S.fl ∧ S.step.1.loose = S.loose ∧ S.step.1.D = S.D := by
  unfold Dsk.step
  rw [if_neg hf]
  split <;> exact ⟨rfl, rfl, rfl, rfl, rfl⟩
 have hat : ∀ x, S.step.1.at x = S.at x := fun x => by unfold Dsk.at; rw [hst.2.2.2.2]
 have hat2 : ∀ x, (S.step.1.drop f).at x = (S.drop f).at x := fun x => by rw [at_drop, at_drop, hat]
 have HST := Lib.hid (dstep_c h)
 rw [hst.1] at HST
 have HE := Lib.hid hst.2
 have HF := Lib.hid (dfind_c h s hs)
 rw [show S.find s = (some b, 0) from by unfold Dsk.find; rw [hd, ha]; rfl] at HF
 simp only [ptrOf, Option.map_some] at HF
 have HI := Lib.hid (isname_c t w ht)
 rw [show (decide (1 ≤ t.size) && decide (t.size ≤ 160)) = true from hn] at HI
 have HNS := Lib.hid (show f.nm.size ≤ maxLen by rw [hfs]; exact hs)
 have HFL := Lib.hid (show S.step.1.fl b = some f by rw [hst.2.2.1]; exact hfl)
 have HR := Lib.hid (show (S.step.1.drop f).at t = none by rw [hat2]; exact hr)
 have HNO := Lib.hid (show ∀ x, (S.step.1.drop f).at x ≠ some b from fun x hx => by
  rw [hat2, at_drop] at hx
  split at hx
  ·
   cases hx
  ·
   rename_i e
   obtain ⟨g', h1, h2⟩ := h.rest.at hx
   rw [hfl] at h1
   cases h1
   exact e h2.symm)
 clear h hst ha hfs hat hat2 hr  hfl hn hf
 go_enter Tryz.func52, Tryz.ntmps52
 go_wp2_with fail
 refine HF.out.mono ?_
 rintro e1 w1 ⟨rfl, rfl⟩
 go_wp2_with fail
 refine HI.out.mono ?_
 rintro e2 w2 ⟨rfl, rfl⟩
 go_wp2_with fail
 refine HST.out.mono ?_
 rintro e3 w3 ⟨rfl, hk3, hm3⟩
 have n3 := (hk3.rest.fcells HFL.out).1
 obtain ⟨X, hX⟩ : ∃ X, X = w3.heap.size := ⟨_, rfl⟩
 obtain ⟨w4, hw4⟩ : ∃ w4, w4 = w3.alloc (.cells #[.int .i64 3, .pointer (some ⟨b, 0, none⟩), .int .i64 0, .string f.nm, .pointer none] 145) := ⟨_, rfl⟩
 have hx4 : w4.heap[X]? = some (.cells #[.int .i64 3, .pointer (some ⟨b, 0, none⟩), .int .i64 0, .string f.nm, .pointer none] 145 (0, 0)) := by rw [hw4, hX]; exact heap_alloc_new w3 _
 have hk4 : DK B d S.step.1 w4 := by rw [hw4]; exact hk3.alloc _
 have hm4 : Mov S d S.step.1 w2 w4 := by rw [hw4]; exact hm3.trans (Mov.ofBelow ((Below.refl _ _).alloc (Nat.le_refl _) _))
 have hX1 : w2.heap.size ≤ X := by rw [hX]; exact hm3.size
 have hXn : ¬ S.step.1.own d X := fun ho => by have := (hk3.ownLt ho).2; omega
 have hXs : X < w4.heap.size := (Array.getElem?_eq_some_iff.1 hx4).1
 have HX1 := Lib.hid hX1
 have HD := Lib.hid (ddrop_c hk4 (b := b) (f := f) HFL.out HNS.out)
 have HX4 := Lib.hid hx4
 have HM4 := Lib.hid hm4
 have HXN := Lib.hid hXn
 have HXS := Lib.hid hXs
 clear HF HI HST hk3 hm3 hx4 hk4 hm4 hX1 hXn hXs
 go_wp2_with fail
 rw [← hX]
 rw [← hw4]
 refine HD.out.mono ?_
 rintro e5 w5 ⟨rfl, hk5, hm5⟩
 have hx5 := (hm5.block X HXS.out HXN.out).trans HX4.out
 have c1 := hk5.cells.2.1
 have hlk := hk5.rest.look ht
 rw [HR.out] at hlk
 simp only [ptrOf, Option.map_none] at hlk
 have x4 := (cell_of_row w5 X 4 _ _ _ hx5).trans rfl
 have z4 := frozen_of_row w5 X 4 _ _ hx5
 have hm5' := HM4.out.trans hm5
 have HXN5 := Lib.hid (hm5.own0 HXS.out HXN.out)
 have HXS5 := Lib.hid (show X < w5.heap.size from (Array.getElem?_eq_some_iff.1 hx5).1)
 obtain ⟨w6, hw6⟩ : ∃ w6, w6 = w5.setCell ⟨X, 4, none⟩ (.pointer none) := ⟨_, rfl⟩
 have hk6 : DK B d (S.step.1.drop f) w6 := by rw [hw6]; exact hk5.keepX HXN5.out fun k hk => Below.heap_setCell w5 ⟨X, 4, none⟩ _ k hk
 have hm6 : Mov S d (S.step.1.drop f) w2 w6 := by rw [hw6]; exact hm5'.keepX 4 _ _ _ HX1.out
 have hx6 : w6.heap[X]? = some (.cells #[.int .i64 3, .pointer (some ⟨b, 0, none⟩), .int .i64 0, .string f.nm, .pointer none] 145 (0, 0)) := by rw [hw6]; exact row_set hx5 _ (o := 4) (by show 4 < 5; omega)
 have HK6 := Lib.hid hk6
 have HM6 := Lib.hid hm6
 have HX6 := Lib.hid hx6
 clear hk5 hm5 hx5 hm5' hk6 hm6 hx6 HX4 HXN HM4 hX hw4 n3 HD HXS
 go_wp2_with fail
 rw [← hw6]
 clear hw6 hlk c1 x4 z4
 refine (clone_c t w6 ht ht2).mono ?_
 rintro e7 w7 ⟨rfl, hb7⟩
 have hk7 := HK6.out.below hb7
 obtain ⟨⟨nc, nz⟩, hk8, hm8⟩ := hk7.nameSet (b := b) (f := f) HFL.out HNO.out t
 have hx7 := (hb7.block X (Array.getElem?_eq_some_iff.1 HX6.out).1).trans HX6.out
 have hXb : X ≠ b := fun e => HXN5.out (.inr (.inr (.inl ⟨f, by rw [e]; exact HFL.out⟩)))
 have HX8 := Lib.hid ((Below.heap_setCell w7 ⟨b, 0, none⟩ (.string t) X hXb).trans hx7)
 have HM8 := Lib.hid ((HM6.out.trans (Mov.ofBelow hb7)).trans hm8)
 have HXN8 := Lib.hid (show ¬ ((S.step.1.drop f).file b ⟨t, f.row, f.zs⟩).own d X from fun ho => by
  rcases hm8.own X ho with h1 | h1
  ·
   exact HXN5.out h1
  ·
   have := (Array.getElem?_eq_some_iff.1 hx7).1
   omega)
 have hn8 : ((S.step.1.drop f).file b ⟨t, f.row, f.zs⟩).n < maxLen := by
  show S.step.1.n < maxLen
  rw [HE.out.1]
  unfold maxLen
  omega
 have HP := Lib.hid (dput_c hk8 (b := b) (f := ⟨t, f.row, f.zs⟩) (by show (if _ then _ else _) = _; rw [if_pos rfl]) ht hn8)
 obtain ⟨w8, hw8⟩ : ∃ w8, w8 = w7.setCell ⟨b, 0, none⟩ (.string t) := ⟨_, rfl⟩
 rw [← hw8] at HP HX8 HM8
 clear hk7 hk8 hm8 hx7 hb7 HK6 HM6 HX6 hn8 hXb
 go_wp2_with fail
 rw [← hw8]
 clear hw8 nc nz
 refine HP.out.mono ?_
 rintro e9 w9 ⟨rfl, m, hk9, hm9⟩
 have hx9 := (hm9.block X (Array.getElem?_eq_some_iff.1 HX8.out).1 HXN8.out).trans HX8.out
 have HK9 := Lib.hid hk9
 have HM9 := Lib.hid (HM8.out.trans hm9)
 have c3 := hk9.cells.2.2.2.1
 have HX9 := Lib.hid hx9
 obtain ⟨SX, hSX⟩ : ∃ SX, SX = ((S.step.1.drop f).file b ⟨t, f.row, f.zs⟩).put m b ⟨t, f.row, f.zs⟩ := ⟨_, rfl⟩
 have HLL := Lib.hid (show SX.loose.length + 1 ≤ 1000000000 by
  rw [hSX]
  show S.step.1.loose.length + 1 ≤ _
  rw [HE.out.2.2.1]
  omega)
 have HC := Lib.hid (show (∃ f, SX.fl b = some f) ∧ ∀ b', (none : Option Nat) = some b' → ∃ f, SX.fl b' = some f from by
  rw [hSX]
  refine ⟨⟨⟨t, f.row, f.zs⟩, by show (if _ then _ else _) = _; rw [if_pos rfl]⟩, fun b' hb => ?_⟩
  cases hb)
 rw [← hSX] at HK9 HM9 c3
 have HSX := Lib.hid hSX
 have HXN9 := Lib.hid (hm9.own0 (Array.getElem?_eq_some_iff.1 HX8.out).1 HXN8.out)
 clear hk9 hm9 hx9 HX8 HM8 HXN8 HP hSX
 go_wp2_with fail
 (try dsimp only [Act.put, sT, sZ, sS])
 obtain ⟨la, ln, lc, hlv⟩ : ∃ la ln lc, SX.lv = .slice la ln lc := by
  rcases HK9.out.rest.hl.2 with ⟨h1, _⟩ | ⟨g, cap, cur, h1, _⟩
  ·
   exact ⟨_, _, _, h1⟩
  ·
   exact ⟨_, _, _, h1⟩
 have HLV := Lib.hid hlv
 have HK9 := Lib.hid (HK9.out.below (Below.refl _ _).drew)
 have HM9 := Lib.hid (HM9.out.trans (Mov.ofBelow (S := SX) (d := d) (Below.refl _ _).drew))
 obtain ⟨w9d, hw9⟩ : ∃ w9d, w9d = w9.drew := ⟨_, rfl⟩
 have HX9 := Lib.hid (show w9d.heap[X]? = some (.cells #[.int .i64 3, .pointer (some ⟨b, 0, none⟩), .int .i64 0, .string f.nm, .pointer none] 145 (0, 0)) from by rw [hw9]; exact HX9.out)
 rw [← hw9] at HK9 HM9
 have HXS9 := Lib.hid (show X < w9d.heap.size from (Array.getElem?_eq_some_iff.1 HX9.out).1)
 have HXN9 := Lib.hid (show ¬ SX.own d X from by rw [HSX.out]; exact HXN9.out)
 have HS := Lib.hid (show World.cell? w9d ⟨X, 0, none⟩ = some (.int .i64 3) ∧ World.cell? w9d ⟨X, 1, none⟩ = some (.pointer (some ⟨b, 0, none⟩)) ∧ World.cell? w9d ⟨X, 2, none⟩ = some (.int .i64 0) ∧ World.cell? w9d ⟨X, 3, none⟩ = some (.string f.nm) ∧ World.cell? w9d ⟨X, 4, none⟩ = some (.pointer none) from ⟨(cell_of_row w9d X 0 _ _ _ HX9.out).trans rfl, (cell_of_row w9d X 1 _ _ _ HX9.out).trans rfl, (cell_of_row w9d X 2 _ _ _ HX9.out).trans rfl, (cell_of_row w9d X 3 _ _ _ HX9.out).trans rfl, (cell_of_row w9d X 4 _ _ _ HX9.out).trans rfl⟩)
 have HL1 := Lib.hid (fun W (hW : World.cell? W ⟨X, 0, none⟩ = some (.int .i64 3) ∧ World.cell? W ⟨X, 1, none⟩ = some (.pointer (some ⟨b, 0, none⟩)) ∧ World.cell? W ⟨X, 2, none⟩ = some (.int .i64 0) ∧ World.cell? W ⟨X, 3, none⟩ = some (.string f.nm) ∧ World.cell? W ⟨X, 4, none⟩ = some (.pointer none)) => run_cellsX W X 3 b 0 f.nm none hW)
 refine anyH_begin (S := fun W => World.cell? W ⟨X, 0, none⟩ = some (.int .i64 3) ∧ World.cell? W ⟨X, 1, none⟩ = some (.pointer (some ⟨b, 0, none⟩)) ∧ World.cell? W ⟨X, 2, none⟩ = some (.int .i64 0) ∧ World.cell? W ⟨X, 3, none⟩ = some (.string f.nm) ∧ World.cell? W ⟨X, 4, none⟩ = some (.pointer none)) (by kernel_rfl) ?_
 rw [← hw9]
 clear hlv hw9 c3
 refine aP 0 (d := 61) (op := .move (.tmp 0)) (.pointer (some ⟨d, 0, none⟩)) HS.out ?_
 simp only [Act.put, sT, sZ, sS]
 refine aP 1 (d := 62) (op := .move (.tmp 0)) (.pointer (some ⟨d, 0, none⟩)) HS.out ?_
 simp only [Act.put, sT, sZ, sS]
 refine aP 2 (d := 63) (op := .nilCheck (.tmp 62)) (.pointer (some ⟨d, 0, none⟩)) HS.out ?_
 simp only [Act.put, sT, sZ, sS]
 refine aP 3 (d := 64) (op := .fieldAddr 80 (.tmp 63) 3) (.pointer (some ⟨d, 3, none⟩)) HS.out ?_
 simp only [Act.put, sT, sZ, sS]
 refine aL 5 (d := 66) (ty := 145) (x := (.tmp 10)) (p := .pointer (some ⟨X, 0, none⟩)) (.agg #[.int .i64 3, .pointer (some ⟨b, 0, none⟩), .int .i64 0, .string f.nm, .pointer none]) HL1.out HS.out ?_
 simp only [Act.put, sT, sZ, sS]
 refine wpAnyH_all (rs := [4, 6]) (by kernel_rfl) (by simp) ?_
 intro k hk
 simp only [List.mem_cons, List.not_mem_nil, or_false] at hk
 rcases hk with rfl | rfl
 ·
  refine op_atJ 4 (d := some 65) (op := .load 78 (.tmp 64)) (by rfl) ?_
  intro o4 hod4 hoo4
  refine wp_load_g 78 (.tmp 64) hoo4 (.pointer (some ⟨d, 3, none⟩)) (.slice la ln lc) (by rfl) (run_cell_chgs _ ⟨d, 3, none⟩ _ _ _ (HK9.out.cells.2.2.2.1.trans (congrArg some HLV.out))) ?_
  rw [hod4]
  clear hod4 hoo4
  simp only [Act.put, sT, sZ, sS]
  refine ⟨HS.out, ?_⟩
  refine wpAnyH_all (rs := [6]) (by kernel_rfl) (by simp) ?_
  intro k hk; simp only [List.mem_cons, List.not_mem_nil, or_false] at hk; subst hk
  refine op_atJ 6 (d := some 67) (op := .buildSlice 78 1 #[(0, (.tmp 66))]) (by rfl) ?_
  intro o5 hod5 hoo5
  refine wp_bsG (.tmp 66) hoo5 3 b 0 f.nm none (by rfl) ?_
  rw [hod5]
  clear hod5 hoo5
  simp only [Act.put, sT, sZ, sS]
  refine ⟨(show World.cell? _ ⟨X, 0, none⟩ = some (.int .i64 3) ∧ World.cell? _ ⟨X, 1, none⟩ = some (.pointer (some ⟨b, 0, none⟩)) ∧ World.cell? _ ⟨X, 2, none⟩ = some (.int .i64 0) ∧ World.cell? _ ⟨X, 3, none⟩ = some (.string f.nm) ∧ World.cell? _ ⟨X, 4, none⟩ = some (.pointer none) from by obtain ⟨y0, y1, y2, y3, y4⟩ := HS.out; have hb := (Below.refl _ _).alloc (Nat.le_refl w9d.heap.size) (.cells #[.int .i64 3, .pointer (some ⟨b, 0, none⟩), .int .i64 0, .string f.nm, .pointer none] 145); exact ⟨(hb.cell (p := ⟨X, 0, none⟩) HXS9.out).trans y0, (hb.cell (p := ⟨X, 1, none⟩) HXS9.out).trans y1, (hb.cell (p := ⟨X, 2, none⟩) HXS9.out).trans y2, (hb.cell (p := ⟨X, 3, none⟩) HXS9.out).trans y3, (hb.cell (p := ⟨X, 4, none⟩) HXS9.out).trans y4⟩), ?_⟩
  clear HS
  refine wpAnyH_all (rs := [7]) (by kernel_rfl) (by simp) ?_
  intro k hk; simp only [List.mem_cons, List.not_mem_nil, or_false] at hk; subst hk
  refine op_atJ 7 (d := some 68) (op := .call { callee := .builtin .append, args := #[(.tmp 65), (.tmp 67)], argTypes := #[78, 78] }) (by rfl) ?_
  intro o6 hod6 hoo6
  refine wp_pushC (.tmp 65) (.tmp 67) hoo6 B d SX ⟨3, b, 0, f.nm, none⟩ HK9.out HLV.out.symm (by rfl) HLL.out HC.out ?_
  intro va vn vc w10 c10 f10 hk10 hm10
  have HK10 := Lib.hid hk10
  have HM10 := Lib.hid (HM9.out.trans hm10)
  have HT7 := Lib.hid (show w10.there d 3 1 from fun j hj => by
   obtain rfl : j = 0 := by omega
   exact ⟨by rw [Nat.add_zero, c10]; rfl, f10⟩)
  have HS := Lib.hid (show World.cell? w10 ⟨X, 0, none⟩ = some (.int .i64 3) ∧ World.cell? w10 ⟨X, 1, none⟩ = some (.pointer (some ⟨b, 0, none⟩)) ∧ World.cell? w10 ⟨X, 2, none⟩ = some (.int .i64 0) ∧ World.cell? w10 ⟨X, 3, none⟩ = some (.string f.nm) ∧ World.cell? w10 ⟨X, 4, none⟩ = some (.pointer none) from by
   have e9 := hm10.block X HXS9.out HXN9.out
   rw [Below.heap_setCell w10 ⟨d, 3, none⟩ _ X (show X ≠ d from fun e => HXN9.out (.inl e))] at e9
   have q : ∀ i, w10.cell? ⟨X, i, none⟩ = w9d.cell? ⟨X, i, none⟩ := fun i => World.cell?_of_block e9
   have hx := HX9.out
   exact ⟨(q 0).trans ((cell_of_row w9d X 0 _ _ _ hx).trans rfl), (q 1).trans ((cell_of_row w9d X 1 _ _ _ hx).trans rfl), (q 2).trans ((cell_of_row w9d X 2 _ _ _ hx).trans rfl), (q 3).trans ((cell_of_row w9d X 3 _ _ _ hx).trans rfl), (q 4).trans ((cell_of_row w9d X 4 _ _ _ hx).trans rfl)⟩)
  have HXD := Lib.hid (show X ≠ d from fun e => HXN9.out (.inl e))
  rw [hod6]
  clear hod6 hoo6 hk10 hm10 c10 f10
  simp only [Act.put, sT, sZ, sS]
  refine ⟨HS.out, ?_⟩
  refine aP 8 (d := 69) (op := .nilCheck (.tmp 61)) (.pointer (some ⟨d, 0, none⟩)) HS.out ?_
  simp only [Act.put, sT, sZ, sS]
  refine aP 9 (d := 70) (op := .fieldAddr 80 (.tmp 69) 3) (.pointer (some ⟨d, 3, none⟩)) HS.out ?_
  simp only [Act.put, sT, sZ, sS]
  refine wpAnyH_all (rs := [10]) (by kernel_rfl) (by simp) ?_
  intro k hk; simp only [List.mem_cons, List.not_mem_nil, or_false] at hk; subst hk
  refine op_atJ 10 (d := none) (op := .store 78 (.tmp 70) (.tmp 68)) (by rfl) ?_
  intro o7 hod7 hoo7
  refine wp_store_one 78 (.tmp 70) (.tmp 68) hoo7 d 3 (.slice va vn vc) (by rfl) (by rfl) HT7.out (by kernel_rfl) (by rfl) (by rfl) ?_
  rw [hod7]
  clear hod7 hoo7
  simp only [Act.put, sT, sZ, sS]
  refine ⟨by obtain ⟨y0, y1, y2, y3, y4⟩ := HS.out; have q : ∀ i, (w10.setCells d 3 [.slice va vn vc]).cell? ⟨X, i, none⟩ = w10.cell? ⟨X, i, none⟩ := fun i => World.cell?_of_block (one_heap HXD.out); exact ⟨(q 0).trans y0, (q 1).trans y1, (q 2).trans y2, (q 3).trans y3, (q 4).trans y4⟩, ?_⟩
  refine wpAnyH_done (by kernel_rfl) ?_ _
  clear HS HT7 HL1
  obtain ⟨w11, hw11⟩ : ∃ w11, w11 = w10.setCells d 3 [.slice va vn vc] := ⟨_, rfl⟩
  have HK11 := Lib.hid (show DK B d (SX.more (.slice va vn vc) ⟨3, b, 0, f.nm, none⟩) w11 from by rw [hw11]; exact HK10.out)
  have HM11 := Lib.hid (show Mov S d (SX.more (.slice va vn vc) ⟨3, b, 0, f.nm, none⟩) _ w11 from by rw [hw11]; exact HM10.out)
  rw [← hw11]
  clear hw11 HK10 HM10 HK9 HM9
  go_wp2_with fail
  go_ret
  refine ⟨rfl, m, .slice va vn vc, ?_, ?_⟩
  ·
   have := HK11.out
   rw [HSX.out] at this
   exact this
  ·
   have := HM11.out
   rw [HSX.out] at this
   exact this
 ·
  refine op_atJ 6 (d := some 67) (op := .buildSlice 78 1 #[(0, (.tmp 66))]) (by rfl) ?_
  intro o5 hod5 hoo5
  refine wp_bsG (.tmp 66) hoo5 3 b 0 f.nm none (by rfl) ?_
  rw [hod5]
  clear hod5 hoo5
  simp only [Act.put, sT, sZ, sS]
  refine ⟨(show World.cell? _ ⟨X, 0, none⟩ = some (.int .i64 3) ∧ World.cell? _ ⟨X, 1, none⟩ = some (.pointer (some ⟨b, 0, none⟩)) ∧ World.cell? _ ⟨X, 2, none⟩ = some (.int .i64 0) ∧ World.cell? _ ⟨X, 3, none⟩ = some (.string f.nm) ∧ World.cell? _ ⟨X, 4, none⟩ = some (.pointer none) from by obtain ⟨y0, y1, y2, y3, y4⟩ := HS.out; have hb := (Below.refl _ _).alloc (Nat.le_refl w9d.heap.size) (.cells #[.int .i64 3, .pointer (some ⟨b, 0, none⟩), .int .i64 0, .string f.nm, .pointer none] 145); exact ⟨(hb.cell (p := ⟨X, 0, none⟩) HXS9.out).trans y0, (hb.cell (p := ⟨X, 1, none⟩) HXS9.out).trans y1, (hb.cell (p := ⟨X, 2, none⟩) HXS9.out).trans y2, (hb.cell (p := ⟨X, 3, none⟩) HXS9.out).trans y3, (hb.cell (p := ⟨X, 4, none⟩) HXS9.out).trans y4⟩), ?_⟩
  refine wpAnyH_all (rs := [4]) (by kernel_rfl) (by simp) ?_
  intro k hk; simp only [List.mem_cons, List.not_mem_nil, or_false] at hk; subst hk
  refine op_atJ 4 (d := some 65) (op := .load 78 (.tmp 64)) (by rfl) ?_
  intro o4 hod4 hoo4
  refine wp_load_g 78 (.tmp 64) hoo4 (.pointer (some ⟨d, 3, none⟩)) (.slice la ln lc) (by rfl) (run_cell_chgs _ ⟨d, 3, none⟩ _ _ _ ((HK9.out.alloc (.cells #[.int .i64 3, .pointer (some ⟨b, 0, none⟩), .int .i64 0, .string f.nm, .pointer none] 145)).cells.2.2.2.1.trans (congrArg some HLV.out))) ?_
  rw [hod4]
  clear hod4 hoo4
  simp only [Act.put, sT, sZ, sS]
  refine ⟨(show World.cell? _ ⟨X, 0, none⟩ = some (.int .i64 3) ∧ World.cell? _ ⟨X, 1, none⟩ = some (.pointer (some ⟨b, 0, none⟩)) ∧ World.cell? _ ⟨X, 2, none⟩ = some (.int .i64 0) ∧ World.cell? _ ⟨X, 3, none⟩ = some (.string f.nm) ∧ World.cell? _ ⟨X, 4, none⟩ = some (.pointer none) from by obtain ⟨y0, y1, y2, y3, y4⟩ := HS.out; have hb := (Below.refl _ _).alloc (Nat.le_refl w9d.heap.size) (.cells #[.int .i64 3, .pointer (some ⟨b, 0, none⟩), .int .i64 0, .string f.nm, .pointer none] 145); exact ⟨(hb.cell (p := ⟨X, 0, none⟩) HXS9.out).trans y0, (hb.cell (p := ⟨X, 1, none⟩) HXS9.out).trans y1, (hb.cell (p := ⟨X, 2, none⟩) HXS9.out).trans y2, (hb.cell (p := ⟨X, 3, none⟩) HXS9.out).trans y3, (hb.cell (p := ⟨X, 4, none⟩) HXS9.out).trans y4⟩), ?_⟩
  clear HS
  refine wpAnyH_all (rs := [7]) (by kernel_rfl) (by simp) ?_
  intro k hk; simp only [List.mem_cons, List.not_mem_nil, or_false] at hk; subst hk
  refine op_atJ 7 (d := some 68) (op := .call { callee := .builtin .append, args := #[(.tmp 65), (.tmp 67)], argTypes := #[78, 78] }) (by rfl) ?_
  intro o6 hod6 hoo6
  refine wp_pushC (.tmp 65) (.tmp 67) hoo6 B d SX ⟨3, b, 0, f.nm, none⟩ HK9.out HLV.out.symm (by rfl) HLL.out HC.out ?_
  intro va vn vc w10 c10 f10 hk10 hm10
  have HK10 := Lib.hid hk10
  have HM10 := Lib.hid (HM9.out.trans hm10)
  have HT7 := Lib.hid (show w10.there d 3 1 from fun j hj => by
   obtain rfl : j = 0 := by omega
   exact ⟨by rw [Nat.add_zero, c10]; rfl, f10⟩)
  have HS := Lib.hid (show World.cell? w10 ⟨X, 0, none⟩ = some (.int .i64 3) ∧ World.cell? w10 ⟨X, 1, none⟩ = some (.pointer (some ⟨b, 0, none⟩)) ∧ World.cell? w10 ⟨X, 2, none⟩ = some (.int .i64 0) ∧ World.cell? w10 ⟨X, 3, none⟩ = some (.string f.nm) ∧ World.cell? w10 ⟨X, 4, none⟩ = some (.pointer none) from by
   have e9 := hm10.block X HXS9.out HXN9.out
   rw [Below.heap_setCell w10 ⟨d, 3, none⟩ _ X (show X ≠ d from fun e => HXN9.out (.inl e))] at e9
   have q : ∀ i, w10.cell? ⟨X, i, none⟩ = w9d.cell? ⟨X, i, none⟩ := fun i => World.cell?_of_block e9
   have hx := HX9.out
   exact ⟨(q 0).trans ((cell_of_row w9d X 0 _ _ _ hx).trans rfl), (q 1).trans ((cell_of_row w9d X 1 _ _ _ hx).trans rfl), (q 2).trans ((cell_of_row w9d X 2 _ _ _ hx).trans rfl), (q 3).trans ((cell_of_row w9d X 3 _ _ _ hx).trans rfl), (q 4).trans ((cell_of_row w9d X 4 _ _ _ hx).trans rfl)⟩)
  have HXD := Lib.hid (show X ≠ d from fun e => HXN9.out (.inl e))
  rw [hod6]
  clear hod6 hoo6 hk10 hm10 c10 f10
  simp only [Act.put, sT, sZ, sS]
  refine ⟨HS.out, ?_⟩
  refine aP 8 (d := 69) (op := .nilCheck (.tmp 61)) (.pointer (some ⟨d, 0, none⟩)) HS.out ?_
  simp only [Act.put, sT, sZ, sS]
  refine aP 9 (d := 70) (op := .fieldAddr 80 (.tmp 69) 3) (.pointer (some ⟨d, 3, none⟩)) HS.out ?_
  simp only [Act.put, sT, sZ, sS]
  refine wpAnyH_all (rs := [10]) (by kernel_rfl) (by simp) ?_
  intro k hk; simp only [List.mem_cons, List.not_mem_nil, or_false] at hk; subst hk
  refine op_atJ 10 (d := none) (op := .store 78 (.tmp 70) (.tmp 68)) (by rfl) ?_
  intro o7 hod7 hoo7
  refine wp_store_one 78 (.tmp 70) (.tmp 68) hoo7 d 3 (.slice va vn vc) (by rfl) (by rfl) HT7.out (by kernel_rfl) (by rfl) (by rfl) ?_
  rw [hod7]
  clear hod7 hoo7
  simp only [Act.put, sT, sZ, sS]
  refine ⟨by obtain ⟨y0, y1, y2, y3, y4⟩ := HS.out; have q : ∀ i, (w10.setCells d 3 [.slice va vn vc]).cell? ⟨X, i, none⟩ = w10.cell? ⟨X, i, none⟩ := fun i => World.cell?_of_block (one_heap HXD.out); exact ⟨(q 0).trans y0, (q 1).trans y1, (q 2).trans y2, (q 3).trans y3, (q 4).trans y4⟩, ?_⟩
  refine wpAnyH_done (by kernel_rfl) ?_ _
  clear HS HT7 HL1
  obtain ⟨w11, hw11⟩ : ∃ w11, w11 = w10.setCells d 3 [.slice va vn vc] := ⟨_, rfl⟩
  have HK11 := Lib.hid (show DK B d (SX.more (.slice va vn vc) ⟨3, b, 0, f.nm, none⟩) w11 from by rw [hw11]; exact HK10.out)
  have HM11 := Lib.hid (show Mov S d (SX.more (.slice va vn vc) ⟨3, b, 0, f.nm, none⟩) _ w11 from by rw [hw11]; exact HM10.out)
  rw [← hw11]
  clear hw11 HK10 HM10 HK9 HM9
  go_wp2_with fail
  go_ret
  refine ⟨rfl, m, .slice va vn vc, ?_, ?_⟩
  ·
   have := HK11.out
   rw [HSX.out] at this
   exact this
  ·
   have := HM11.out
   rw [HSX.out] at this
   exact this
set_option maxRecDepth 100000 in
set_option maxHeartbeats 8000000 in
theorem drename_over {B d b : Nat} {S : Dsk} {f : Fil} {w : World} (h : DK B d S w) (s t : ByteArray) (hs : s.size ≤ maxLen) (ht : t.size ≤ maxLen) (hd : S.down = false) (ha : S.at s = some b) (hfl : S.fl b = some f) (hn : isNm t = true) (hf : S.fuse ≠ 0) (hn1 : S.n < 1000000000) (hl : S.loose.length < 1000000000) {r : Nat} {g : Fil} (hr : (S.drop f).at t = some r) (hrf : S.fl r = some g) :
  Calls Tryz.prog 52 #[.pointer (some ⟨d, 0, none⟩), .string s, .string t] w fun e w' => e = .returned (.int .i64 0) ∧ ∃ m v, DK B d (((S.step.1.drop f).drop g).named f b t m v (some r)) w' ∧ Mov S d (((S.step.1.drop f).drop g).named f b t m v (some r)) w w' := by
 have hfs : f.nm = s := by
  obtain ⟨g, h1, h2⟩ := h.rest.at ha
  rw [hfl] at h1
  cases h1
  exact h2
 have ht2 : t.size ≤ 160 := by
  unfold isNm at hn
  simp only [Bool.and_eq_true, decide_eq_true_eq] at hn
  exact hn.2
 have hst : S.step.2 = 0 ∧ S.step.1.n = S.n ∧ S.step.1.fl = S.fl ∧ S.step.1.loose = S.loose ∧ S.step.1.D = S.D := by
  unfold Dsk.step
  rw [if_neg hf]
  split <;> exact ⟨rfl, rfl, rfl, rfl, rfl⟩
 have hat : ∀ x, S.step.1.at x = S.at x := fun x => by unfold Dsk.at; rw [hst.2.2.2.2]
 have hat2 : ∀ x, (S.step.1.drop f).at x = (S.drop f).at x := fun x => by rw [at_drop, at_drop, hat]
 have HST := Lib.hid (dstep_c h)
 rw [hst.1] at HST
 have HE := Lib.hid hst.2
 have HF := Lib.hid (dfind_c h s hs)
 rw [show S.find s = (some b, 0) from by unfold Dsk.find; rw [hd, ha]; rfl] at HF
 simp only [ptrOf, Option.map_some] at HF
 have HI := Lib.hid (isname_c t w ht)
 rw [show (decide (1 ≤ t.size) && decide (t.size ≤ 160)) = true from hn] at HI
 have HNS := Lib.hid (show f.nm.size ≤ maxLen by rw [hfs]; exact hs)
 have HFL := Lib.hid (show S.step.1.fl b = some f by rw [hst.2.2.1]; exact hfl)
 have HR := Lib.hid (show (S.step.1.drop f).at t = some r by rw [hat2]; exact hr)
 have HRF := Lib.hid (show S.step.1.fl r = some g by rw [hst.2.2.1]; exact hrf)
 have hgn : g.nm = t := by
  rw [at_drop] at hr
  split at hr
  ·
   cases hr
  ·
   obtain ⟨g', h1, h2⟩ := h.rest.at hr
   rw [hrf] at h1
   cases h1
   exact h2
 have HGN := Lib.hid (show g.nm.size ≤ maxLen by rw [hgn]; exact ht)
 have HNO := Lib.hid (show ∀ x, ((S.step.1.drop f).drop g).at x ≠ some b from fun x hx => by
  rw [at_drop] at hx
  split at hx
  ·
   cases hx
  ·
   rw [hat2, at_drop] at hx
   split at hx
   ·
    cases hx
   ·
    rename_i e
    obtain ⟨g', h1, h2⟩ := h.rest.at hx
    rw [hfl] at h1
    cases h1
    exact e h2.symm)
 clear h hst ha hfs hat hat2 hr hrf hgn hfl hn hf
 go_enter Tryz.func52, Tryz.ntmps52
 go_wp2_with fail
 refine HF.out.mono ?_
 rintro e1 w1 ⟨rfl, rfl⟩
 go_wp2_with fail
 refine HI.out.mono ?_
 rintro e2 w2 ⟨rfl, rfl⟩
 go_wp2_with fail
 refine HST.out.mono ?_
 rintro e3 w3 ⟨rfl, hk3, hm3⟩
 have n3 := (hk3.rest.fcells HFL.out).1
 obtain ⟨X, hX⟩ : ∃ X, X = w3.heap.size := ⟨_, rfl⟩
 obtain ⟨w4, hw4⟩ : ∃ w4, w4 = w3.alloc (.cells #[.int .i64 3, .pointer (some ⟨b, 0, none⟩), .int .i64 0, .string f.nm, .pointer none] 145) := ⟨_, rfl⟩
 have hx4 : w4.heap[X]? = some (.cells #[.int .i64 3, .pointer (some ⟨b, 0, none⟩), .int .i64 0, .string f.nm, .pointer none] 145 (0, 0)) := by rw [hw4, hX]; exact heap_alloc_new w3 _
 have hk4 : DK B d S.step.1 w4 := by rw [hw4]; exact hk3.alloc _
 have hm4 : Mov S d S.step.1 w2 w4 := by rw [hw4]; exact hm3.trans (Mov.ofBelow ((Below.refl _ _).alloc (Nat.le_refl _) _))
 have hX1 : w2.heap.size ≤ X := by rw [hX]; exact hm3.size
 have hXn : ¬ S.step.1.own d X := fun ho => by have := (hk3.ownLt ho).2; omega
 have hXs : X < w4.heap.size := (Array.getElem?_eq_some_iff.1 hx4).1
 have HX1 := Lib.hid hX1
 have HD := Lib.hid (ddrop_c hk4 (b := b) (f := f) HFL.out HNS.out)
 have HX4 := Lib.hid hx4
 have HM4 := Lib.hid hm4
 have HXN := Lib.hid hXn
 have HXS := Lib.hid hXs
 clear HF HI HST hk3 hm3 hx4 hk4 hm4 hX1 hXn hXs
 go_wp2_with fail
 rw [← hX]
 rw [← hw4]
 refine HD.out.mono ?_
 rintro e5 w5 ⟨rfl, hk5, hm5⟩
 have hx5 := (hm5.block X HXS.out HXN.out).trans HX4.out
 have c1 := hk5.cells.2.1
 have hlk := hk5.rest.look ht
 rw [HR.out] at hlk
 simp only [ptrOf, Option.map_some] at hlk
 have x4 := (cell_of_row w5 X 4 _ _ _ hx5).trans rfl
 have z4 := frozen_of_row w5 X 4 _ _ hx5
 have hm5' := HM4.out.trans hm5
 have HXN5 := Lib.hid (hm5.own0 HXS.out HXN.out)
 have HXS5 := Lib.hid (show X < w5.heap.size from (Array.getElem?_eq_some_iff.1 hx5).1)
 obtain ⟨w6, hw6⟩ : ∃ w6, w6 = w5.setCell ⟨X, 4, none⟩ (.pointer (some ⟨r, 0, none⟩)) := ⟨_, rfl⟩
 have hk6 : DK B d (S.step.1.drop f) w6 := by rw [hw6]; exact hk5.keepX HXN5.out fun k hk => Below.heap_setCell w5 ⟨X, 4, none⟩ _ k hk
 have hm6 : Mov S d (S.step.1.drop f) w2 w6 := by rw [hw6]; exact hm5'.keepX 4 _ _ _ HX1.out
 have hx6 : w6.heap[X]? = some (.cells #[.int .i64 3, .pointer (some ⟨b, 0, none⟩), .int .i64 0, .string f.nm, .pointer (some ⟨r, 0, none⟩)] 145 (0, 0)) := by rw [hw6]; exact row_set hx5 _ (o := 4) (by show 4 < 5; omega)
 have HK6 := Lib.hid hk6
 have HM6 := Lib.hid hm6
 have HX6 := Lib.hid hx6
 clear hk5 hm5 hx5 hm5' hk6 hm6 hx6 HX4 HXN HM4 hX hw4 n3 HD HXS
 go_wp2_with fail
 rw [← hw6]
 clear hw6 hlk c1 x4 z4
 have HD2 := Lib.hid (ddrop_c HK6.out (b := r) (f := g) HRF.out HGN.out)
 refine HD2.out.mono ?_
 rintro e6 w61 ⟨rfl, hk61, hm61⟩
 have HX6' := Lib.hid ((hm61.block X (Array.getElem?_eq_some_iff.1 HX6.out).1 HXN5.out).trans HX6.out)
 have HM6' := Lib.hid (HM6.out.trans hm61)
 have HK6' := Lib.hid hk61
 have HXN6 := Lib.hid (hm61.own0 (Array.getElem?_eq_some_iff.1 HX6.out).1 HXN5.out)
 clear hk61 hm61 HK6 HM6 HX6 HD2 HXN5
 have HK6 := HK6'
 have HM6 := HM6'
 have HX6 := HX6'
 have HXN5 := HXN6
 clear HK6' HM6' HX6' HXN6
 go_wp2_with fail
 refine (clone_c t w61 ht ht2).mono ?_
 rintro e7 w7 ⟨rfl, hb7⟩
 have hk7 := HK6.out.below hb7
 obtain ⟨⟨nc, nz⟩, hk8, hm8⟩ := hk7.nameSet (b := b) (f := f) HFL.out HNO.out t
 have hx7 := (hb7.block X (Array.getElem?_eq_some_iff.1 HX6.out).1).trans HX6.out
 have hXb : X ≠ b := fun e => HXN5.out (.inr (.inr (.inl ⟨f, by rw [e]; exact HFL.out⟩)))
 have HX8 := Lib.hid ((Below.heap_setCell w7 ⟨b, 0, none⟩ (.string t) X hXb).trans hx7)
 have HM8 := Lib.hid ((HM6.out.trans (Mov.ofBelow hb7)).trans hm8)
 have HXN8 := Lib.hid (show ¬ (((S.step.1.drop f).drop g).file b ⟨t, f.row, f.zs⟩).own d X from fun ho => by
  rcases hm8.own X ho with h1 | h1
  ·
   exact HXN5.out h1
  ·
   have := (Array.getElem?_eq_some_iff.1 hx7).1
   omega)
 have hn8 : (((S.step.1.drop f).drop g).file b ⟨t, f.row, f.zs⟩).n < maxLen := by
  show S.step.1.n < maxLen
  rw [HE.out.1]
  unfold maxLen
  omega
 have HP := Lib.hid (dput_c hk8 (b := b) (f := ⟨t, f.row, f.zs⟩) (by show (if _ then _ else _) = _; rw [if_pos rfl]) ht hn8)
 obtain ⟨w8, hw8⟩ : ∃ w8, w8 = w7.setCell ⟨b, 0, none⟩ (.string t) := ⟨_, rfl⟩
 rw [← hw8] at HP HX8 HM8
 clear hk7 hk8 hm8 hx7 hb7 HK6 HM6 HX6 hn8 hXb
 go_wp2_with fail
 rw [← hw8]
 clear hw8 nc nz
 refine HP.out.mono ?_
 rintro e9 w9 ⟨rfl, m, hk9, hm9⟩
 have hx9 := (hm9.block X (Array.getElem?_eq_some_iff.1 HX8.out).1 HXN8.out).trans HX8.out
 have HK9 := Lib.hid hk9
 have HM9 := Lib.hid (HM8.out.trans hm9)
 have c3 := hk9.cells.2.2.2.1
 have HX9 := Lib.hid hx9
 obtain ⟨SX, hSX⟩ : ∃ SX, SX = (((S.step.1.drop f).drop g).file b ⟨t, f.row, f.zs⟩).put m b ⟨t, f.row, f.zs⟩ := ⟨_, rfl⟩
 have HLL := Lib.hid (show SX.loose.length + 1 ≤ 1000000000 by
  rw [hSX]
  show S.step.1.loose.length + 1 ≤ _
  rw [HE.out.2.2.1]
  omega)
 have HC := Lib.hid (show (∃ f, SX.fl b = some f) ∧ ∀ b', ((some r) : Option Nat) = some b' → ∃ f, SX.fl b' = some f from by
  rw [hSX]
  refine ⟨⟨⟨t, f.row, f.zs⟩, by show (if _ then _ else _) = _; rw [if_pos rfl]⟩, fun b' hb => ?_⟩
  cases hb
  by_cases e : r = b
  ·
   exact ⟨⟨t, f.row, f.zs⟩, by show (if _ then _ else _) = _; rw [if_pos e]⟩
  ·
   exact ⟨g, by show (if _ then _ else S.step.1.fl r) = _; rw [if_neg e]; exact HRF.out⟩)
 rw [← hSX] at HK9 HM9 c3
 have HSX := Lib.hid hSX
 have HXN9 := Lib.hid (hm9.own0 (Array.getElem?_eq_some_iff.1 HX8.out).1 HXN8.out)
 clear hk9 hm9 hx9 HX8 HM8 HXN8 HP hSX
 go_wp2_with fail
 (try dsimp only [Act.put, sT, sZ, sS])
 obtain ⟨la, ln, lc, hlv⟩ : ∃ la ln lc, SX.lv = .slice la ln lc := by
  rcases HK9.out.rest.hl.2 with ⟨h1, _⟩ | ⟨g, cap, cur, h1, _⟩
  ·
   exact ⟨_, _, _, h1⟩
  ·
   exact ⟨_, _, _, h1⟩
 have HLV := Lib.hid hlv
 have HK9 := Lib.hid (HK9.out.below (Below.refl _ _).drew)
 have HM9 := Lib.hid (HM9.out.trans (Mov.ofBelow (S := SX) (d := d) (Below.refl _ _).drew))
 obtain ⟨w9d, hw9⟩ : ∃ w9d, w9d = w9.drew := ⟨_, rfl⟩
 have HX9 := Lib.hid (show w9d.heap[X]? = some (.cells #[.int .i64 3, .pointer (some ⟨b, 0, none⟩), .int .i64 0, .string f.nm, .pointer (some ⟨r, 0, none⟩)] 145 (0, 0)) from by rw [hw9]; exact HX9.out)
 rw [← hw9] at HK9 HM9
 have HXS9 := Lib.hid (show X < w9d.heap.size from (Array.getElem?_eq_some_iff.1 HX9.out).1)
 have HXN9 := Lib.hid (show ¬ SX.own d X from by rw [HSX.out]; exact HXN9.out)
 have HS := Lib.hid (show World.cell? w9d ⟨X, 0, none⟩ = some (.int .i64 3) ∧ World.cell? w9d ⟨X, 1, none⟩ = some (.pointer (some ⟨b, 0, none⟩)) ∧ World.cell? w9d ⟨X, 2, none⟩ = some (.int .i64 0) ∧ World.cell? w9d ⟨X, 3, none⟩ = some (.string f.nm) ∧ World.cell? w9d ⟨X, 4, none⟩ = some (.pointer (some ⟨r, 0, none⟩)) from ⟨(cell_of_row w9d X 0 _ _ _ HX9.out).trans rfl, (cell_of_row w9d X 1 _ _ _ HX9.out).trans rfl, (cell_of_row w9d X 2 _ _ _ HX9.out).trans rfl, (cell_of_row w9d X 3 _ _ _ HX9.out).trans rfl, (cell_of_row w9d X 4 _ _ _ HX9.out).trans rfl⟩)
 have HL1 := Lib.hid (fun W (hW : World.cell? W ⟨X, 0, none⟩ = some (.int .i64 3) ∧ World.cell? W ⟨X, 1, none⟩ = some (.pointer (some ⟨b, 0, none⟩)) ∧ World.cell? W ⟨X, 2, none⟩ = some (.int .i64 0) ∧ World.cell? W ⟨X, 3, none⟩ = some (.string f.nm) ∧ World.cell? W ⟨X, 4, none⟩ = some (.pointer (some ⟨r, 0, none⟩))) => run_cellsX W X 3 b 0 f.nm (some ⟨r, 0, none⟩) hW)
 refine anyH_begin (S := fun W => World.cell? W ⟨X, 0, none⟩ = some (.int .i64 3) ∧ World.cell? W ⟨X, 1, none⟩ = some (.pointer (some ⟨b, 0, none⟩)) ∧ World.cell? W ⟨X, 2, none⟩ = some (.int .i64 0) ∧ World.cell? W ⟨X, 3, none⟩ = some (.string f.nm) ∧ World.cell? W ⟨X, 4, none⟩ = some (.pointer (some ⟨r, 0, none⟩))) (by kernel_rfl) ?_
 rw [← hw9]
 clear hlv hw9 c3
 refine aP 0 (d := 61) (op := .move (.tmp 0)) (.pointer (some ⟨d, 0, none⟩)) HS.out ?_
 simp only [Act.put, sT, sZ, sS]
 refine aP 1 (d := 62) (op := .move (.tmp 0)) (.pointer (some ⟨d, 0, none⟩)) HS.out ?_
 simp only [Act.put, sT, sZ, sS]
 refine aP 2 (d := 63) (op := .nilCheck (.tmp 62)) (.pointer (some ⟨d, 0, none⟩)) HS.out ?_
 simp only [Act.put, sT, sZ, sS]
 refine aP 3 (d := 64) (op := .fieldAddr 80 (.tmp 63) 3) (.pointer (some ⟨d, 3, none⟩)) HS.out ?_
 simp only [Act.put, sT, sZ, sS]
 refine aL 5 (d := 66) (ty := 145) (x := (.tmp 10)) (p := .pointer (some ⟨X, 0, none⟩)) (.agg #[.int .i64 3, .pointer (some ⟨b, 0, none⟩), .int .i64 0, .string f.nm, .pointer (some ⟨r, 0, none⟩)]) HL1.out HS.out ?_
 simp only [Act.put, sT, sZ, sS]
 refine wpAnyH_all (rs := [4, 6]) (by kernel_rfl) (by simp) ?_
 intro k hk
 simp only [List.mem_cons, List.not_mem_nil, or_false] at hk
 rcases hk with rfl | rfl
 ·
  refine op_atJ 4 (d := some 65) (op := .load 78 (.tmp 64)) (by rfl) ?_
  intro o4 hod4 hoo4
  refine wp_load_g 78 (.tmp 64) hoo4 (.pointer (some ⟨d, 3, none⟩)) (.slice la ln lc) (by rfl) (run_cell_chgs _ ⟨d, 3, none⟩ _ _ _ (HK9.out.cells.2.2.2.1.trans (congrArg some HLV.out))) ?_
  rw [hod4]
  clear hod4 hoo4
  simp only [Act.put, sT, sZ, sS]
  refine ⟨HS.out, ?_⟩
  refine wpAnyH_all (rs := [6]) (by kernel_rfl) (by simp) ?_
  intro k hk; simp only [List.mem_cons, List.not_mem_nil, or_false] at hk; subst hk
  refine op_atJ 6 (d := some 67) (op := .buildSlice 78 1 #[(0, (.tmp 66))]) (by rfl) ?_
  intro o5 hod5 hoo5
  refine wp_bsG (.tmp 66) hoo5 3 b 0 f.nm (some ⟨r, 0, none⟩) (by rfl) ?_
  rw [hod5]
  clear hod5 hoo5
  simp only [Act.put, sT, sZ, sS]
  refine ⟨(show World.cell? _ ⟨X, 0, none⟩ = some (.int .i64 3) ∧ World.cell? _ ⟨X, 1, none⟩ = some (.pointer (some ⟨b, 0, none⟩)) ∧ World.cell? _ ⟨X, 2, none⟩ = some (.int .i64 0) ∧ World.cell? _ ⟨X, 3, none⟩ = some (.string f.nm) ∧ World.cell? _ ⟨X, 4, none⟩ = some (.pointer (some ⟨r, 0, none⟩)) from by obtain ⟨y0, y1, y2, y3, y4⟩ := HS.out; have hb := (Below.refl _ _).alloc (Nat.le_refl w9d.heap.size) (.cells #[.int .i64 3, .pointer (some ⟨b, 0, none⟩), .int .i64 0, .string f.nm, .pointer (some ⟨r, 0, none⟩)] 145); exact ⟨(hb.cell (p := ⟨X, 0, none⟩) HXS9.out).trans y0, (hb.cell (p := ⟨X, 1, none⟩) HXS9.out).trans y1, (hb.cell (p := ⟨X, 2, none⟩) HXS9.out).trans y2, (hb.cell (p := ⟨X, 3, none⟩) HXS9.out).trans y3, (hb.cell (p := ⟨X, 4, none⟩) HXS9.out).trans y4⟩), ?_⟩
  clear HS
  refine wpAnyH_all (rs := [7]) (by kernel_rfl) (by simp) ?_
  intro k hk; simp only [List.mem_cons, List.not_mem_nil, or_false] at hk; subst hk
  refine op_atJ 7 (d := some 68) (op := .call { callee := .builtin .append, args := #[(.tmp 65), (.tmp 67)], argTypes := #[78, 78] }) (by rfl) ?_
  intro o6 hod6 hoo6
  refine wp_pushC (.tmp 65) (.tmp 67) hoo6 B d SX ⟨3, b, 0, f.nm, (some r)⟩ HK9.out HLV.out.symm (by rfl) HLL.out HC.out ?_
  intro va vn vc w10 c10 f10 hk10 hm10
  have HK10 := Lib.hid hk10
  have HM10 := Lib.hid (HM9.out.trans hm10)
  have HT7 := Lib.hid (show w10.there d 3 1 from fun j hj => by
   obtain rfl : j = 0 := by omega
   exact ⟨by rw [Nat.add_zero, c10]; rfl, f10⟩)
  have HS := Lib.hid (show World.cell? w10 ⟨X, 0, none⟩ = some (.int .i64 3) ∧ World.cell? w10 ⟨X, 1, none⟩ = some (.pointer (some ⟨b, 0, none⟩)) ∧ World.cell? w10 ⟨X, 2, none⟩ = some (.int .i64 0) ∧ World.cell? w10 ⟨X, 3, none⟩ = some (.string f.nm) ∧ World.cell? w10 ⟨X, 4, none⟩ = some (.pointer (some ⟨r, 0, none⟩)) from by
   have e9 := hm10.block X HXS9.out HXN9.out
   rw [Below.heap_setCell w10 ⟨d, 3, none⟩ _ X (show X ≠ d from fun e => HXN9.out (.inl e))] at e9
   have q : ∀ i, w10.cell? ⟨X, i, none⟩ = w9d.cell? ⟨X, i, none⟩ := fun i => World.cell?_of_block e9
   have hx := HX9.out
   exact ⟨(q 0).trans ((cell_of_row w9d X 0 _ _ _ hx).trans rfl), (q 1).trans ((cell_of_row w9d X 1 _ _ _ hx).trans rfl), (q 2).trans ((cell_of_row w9d X 2 _ _ _ hx).trans rfl), (q 3).trans ((cell_of_row w9d X 3 _ _ _ hx).trans rfl), (q 4).trans ((cell_of_row w9d X 4 _ _ _ hx).trans rfl)⟩)
  have HXD := Lib.hid (show X ≠ d from fun e => HXN9.out (.inl e))
  rw [hod6]
  clear hod6 hoo6 hk10 hm10 c10 f10
  simp only [Act.put, sT, sZ, sS]
  refine ⟨HS.out, ?_⟩
  refine aP 8 (d := 69) (op := .nilCheck (.tmp 61)) (.pointer (some ⟨d, 0, none⟩)) HS.out ?_
  simp only [Act.put, sT, sZ, sS]
  refine aP 9 (d := 70) (op := .fieldAddr 80 (.tmp 69) 3) (.pointer (some ⟨d, 3, none⟩)) HS.out ?_
  simp only [Act.put, sT, sZ, sS]
  refine wpAnyH_all (rs := [10]) (by kernel_rfl) (by simp) ?_
  intro k hk; simp only [List.mem_cons, List.not_mem_nil, or_false] at hk; subst hk
  refine op_atJ 10 (d := none) (op := .store 78 (.tmp 70) (.tmp 68)) (by rfl) ?_
  intro o7 hod7 hoo7
  refine wp_store_one 78 (.tmp 70) (.tmp 68) hoo7 d 3 (.slice va vn vc) (by rfl) (by rfl) HT7.out (by kernel_rfl) (by rfl) (by rfl) ?_
  rw [hod7]
  clear hod7 hoo7
  simp only [Act.put, sT, sZ, sS]
  refine ⟨by obtain ⟨y0, y1, y2, y3, y4⟩ := HS.out; have q : ∀ i, (w10.setCells d 3 [.slice va vn vc]).cell? ⟨X, i, none⟩ = w10.cell? ⟨X, i, none⟩ := fun i => World.cell?_of_block (one_heap HXD.out); exact ⟨(q 0).trans y0, (q 1).trans y1, (q 2).trans y2, (q 3).trans y3, (q 4).trans y4⟩, ?_⟩
  refine wpAnyH_done (by kernel_rfl) ?_ _
  clear HS HT7 HL1
  obtain ⟨w11, hw11⟩ : ∃ w11, w11 = w10.setCells d 3 [.slice va vn vc] := ⟨_, rfl⟩
  have HK11 := Lib.hid (show DK B d (SX.more (.slice va vn vc) ⟨3, b, 0, f.nm, (some r)⟩) w11 from by rw [hw11]; exact HK10.out)
  have HM11 := Lib.hid (show Mov S d (SX.more (.slice va vn vc) ⟨3, b, 0, f.nm, (some r)⟩) _ w11 from by rw [hw11]; exact HM10.out)
  rw [← hw11]
  clear hw11 HK10 HM10 HK9 HM9
  go_wp2_with fail
  go_ret
  refine ⟨rfl, m, .slice va vn vc, ?_, ?_⟩
  ·
   have := HK11.out
   rw [HSX.out] at this
   exact this
  ·
   have := HM11.out
   rw [HSX.out] at this
   exact this
 ·
  refine op_atJ 6 (d := some 67) (op := .buildSlice 78 1 #[(0, (.tmp 66))]) (by rfl) ?_
  intro o5 hod5 hoo5
  refine wp_bsG (.tmp 66) hoo5 3 b 0 f.nm (some ⟨r, 0, none⟩) (by rfl) ?_
  rw [hod5]
  clear hod5 hoo5
  simp only [Act.put, sT, sZ, sS]
  refine ⟨(show World.cell? _ ⟨X, 0, none⟩ = some (.int .i64 3) ∧ World.cell? _ ⟨X, 1, none⟩ = some (.pointer (some ⟨b, 0, none⟩)) ∧ World.cell? _ ⟨X, 2, none⟩ = some (.int .i64 0) ∧ World.cell? _ ⟨X, 3, none⟩ = some (.string f.nm) ∧ World.cell? _ ⟨X, 4, none⟩ = some (.pointer (some ⟨r, 0, none⟩)) from by obtain ⟨y0, y1, y2, y3, y4⟩ := HS.out; have hb := (Below.refl _ _).alloc (Nat.le_refl w9d.heap.size) (.cells #[.int .i64 3, .pointer (some ⟨b, 0, none⟩), .int .i64 0, .string f.nm, .pointer (some ⟨r, 0, none⟩)] 145); exact ⟨(hb.cell (p := ⟨X, 0, none⟩) HXS9.out).trans y0, (hb.cell (p := ⟨X, 1, none⟩) HXS9.out).trans y1, (hb.cell (p := ⟨X, 2, none⟩) HXS9.out).trans y2, (hb.cell (p := ⟨X, 3, none⟩) HXS9.out).trans y3, (hb.cell (p := ⟨X, 4, none⟩) HXS9.out).trans y4⟩), ?_⟩
  refine wpAnyH_all (rs := [4]) (by kernel_rfl) (by simp) ?_
  intro k hk; simp only [List.mem_cons, List.not_mem_nil, or_false] at hk; subst hk
  refine op_atJ 4 (d := some 65) (op := .load 78 (.tmp 64)) (by rfl) ?_
  intro o4 hod4 hoo4
  refine wp_load_g 78 (.tmp 64) hoo4 (.pointer (some ⟨d, 3, none⟩)) (.slice la ln lc) (by rfl) (run_cell_chgs _ ⟨d, 3, none⟩ _ _ _ ((HK9.out.alloc (.cells #[.int .i64 3, .pointer (some ⟨b, 0, none⟩), .int .i64 0, .string f.nm, .pointer (some ⟨r, 0, none⟩)] 145)).cells.2.2.2.1.trans (congrArg some HLV.out))) ?_
  rw [hod4]
  clear hod4 hoo4
  simp only [Act.put, sT, sZ, sS]
  refine ⟨(show World.cell? _ ⟨X, 0, none⟩ = some (.int .i64 3) ∧ World.cell? _ ⟨X, 1, none⟩ = some (.pointer (some ⟨b, 0, none⟩)) ∧ World.cell? _ ⟨X, 2, none⟩ = some (.int .i64 0) ∧ World.cell? _ ⟨X, 3, none⟩ = some (.string f.nm) ∧ World.cell? _ ⟨X, 4, none⟩ = some (.pointer (some ⟨r, 0, none⟩)) from by obtain ⟨y0, y1, y2, y3, y4⟩ := HS.out; have hb := (Below.refl _ _).alloc (Nat.le_refl w9d.heap.size) (.cells #[.int .i64 3, .pointer (some ⟨b, 0, none⟩), .int .i64 0, .string f.nm, .pointer (some ⟨r, 0, none⟩)] 145); exact ⟨(hb.cell (p := ⟨X, 0, none⟩) HXS9.out).trans y0, (hb.cell (p := ⟨X, 1, none⟩) HXS9.out).trans y1, (hb.cell (p := ⟨X, 2, none⟩) HXS9.out).trans y2, (hb.cell (p := ⟨X, 3, none⟩) HXS9.out).trans y3, (hb.cell (p := ⟨X, 4, none⟩) HXS9.out).trans y4⟩), ?_⟩
  clear HS
  refine wpAnyH_all (rs := [7]) (by kernel_rfl) (by simp) ?_
  intro k hk; simp only [List.mem_cons, List.not_mem_nil, or_false] at hk; subst hk
  refine op_atJ 7 (d := some 68) (op := .call { callee := .builtin .append, args := #[(.tmp 65), (.tmp 67)], argTypes := #[78, 78] }) (by rfl) ?_
  intro o6 hod6 hoo6
  refine wp_pushC (.tmp 65) (.tmp 67) hoo6 B d SX ⟨3, b, 0, f.nm, (some r)⟩ HK9.out HLV.out.symm (by rfl) HLL.out HC.out ?_
  intro va vn vc w10 c10 f10 hk10 hm10
  have HK10 := Lib.hid hk10
  have HM10 := Lib.hid (HM9.out.trans hm10)
  have HT7 := Lib.hid (show w10.there d 3 1 from fun j hj => by
   obtain rfl : j = 0 := by omega
   exact ⟨by rw [Nat.add_zero, c10]; rfl, f10⟩)
  have HS := Lib.hid (show World.cell? w10 ⟨X, 0, none⟩ = some (.int .i64 3) ∧ World.cell? w10 ⟨X, 1, none⟩ = some (.pointer (some ⟨b, 0, none⟩)) ∧ World.cell? w10 ⟨X, 2, none⟩ = some (.int .i64 0) ∧ World.cell? w10 ⟨X, 3, none⟩ = some (.string f.nm) ∧ World.cell? w10 ⟨X, 4, none⟩ = some (.pointer (some ⟨r, 0, none⟩)) from by
   have e9 := hm10.block X HXS9.out HXN9.out
   rw [Below.heap_setCell w10 ⟨d, 3, none⟩ _ X (show X ≠ d from fun e => HXN9.out (.inl e))] at e9
   have q : ∀ i, w10.cell? ⟨X, i, none⟩ = w9d.cell? ⟨X, i, none⟩ := fun i => World.cell?_of_block e9
   have hx := HX9.out
   exact ⟨(q 0).trans ((cell_of_row w9d X 0 _ _ _ hx).trans rfl), (q 1).trans ((cell_of_row w9d X 1 _ _ _ hx).trans rfl), (q 2).trans ((cell_of_row w9d X 2 _ _ _ hx).trans rfl), (q 3).trans ((cell_of_row w9d X 3 _ _ _ hx).trans rfl), (q 4).trans ((cell_of_row w9d X 4 _ _ _ hx).trans rfl)⟩)
  have HXD := Lib.hid (show X ≠ d from fun e => HXN9.out (.inl e))
  rw [hod6]
  clear hod6 hoo6 hk10 hm10 c10 f10
  simp only [Act.put, sT, sZ, sS]
  refine ⟨HS.out, ?_⟩
  refine aP 8 (d := 69) (op := .nilCheck (.tmp 61)) (.pointer (some ⟨d, 0, none⟩)) HS.out ?_
  simp only [Act.put, sT, sZ, sS]
  refine aP 9 (d := 70) (op := .fieldAddr 80 (.tmp 69) 3) (.pointer (some ⟨d, 3, none⟩)) HS.out ?_
  simp only [Act.put, sT, sZ, sS]
  refine wpAnyH_all (rs := [10]) (by kernel_rfl) (by simp) ?_
  intro k hk; simp only [List.mem_cons, List.not_mem_nil, or_false] at hk; subst hk
  refine op_atJ 10 (d := none) (op := .store 78 (.tmp 70) (.tmp 68)) (by rfl) ?_
  intro o7 hod7 hoo7
  refine wp_store_one 78 (.tmp 70) (.tmp 68) hoo7 d 3 (.slice va vn vc) (by rfl) (by rfl) HT7.out (by kernel_rfl) (by rfl) (by rfl) ?_
  rw [hod7]
  clear hod7 hoo7
  simp only [Act.put, sT, sZ, sS]
  refine ⟨by obtain ⟨y0, y1, y2, y3, y4⟩ := HS.out; have q : ∀ i, (w10.setCells d 3 [.slice va vn vc]).cell? ⟨X, i, none⟩ = w10.cell? ⟨X, i, none⟩ := fun i => World.cell?_of_block (one_heap HXD.out); exact ⟨(q 0).trans y0, (q 1).trans y1, (q 2).trans y2, (q 3).trans y3, (q 4).trans y4⟩, ?_⟩
  refine wpAnyH_done (by kernel_rfl) ?_ _
  clear HS HT7 HL1
  obtain ⟨w11, hw11⟩ : ∃ w11, w11 = w10.setCells d 3 [.slice va vn vc] := ⟨_, rfl⟩
  have HK11 := Lib.hid (show DK B d (SX.more (.slice va vn vc) ⟨3, b, 0, f.nm, (some r)⟩) w11 from by rw [hw11]; exact HK10.out)
  have HM11 := Lib.hid (show Mov S d (SX.more (.slice va vn vc) ⟨3, b, 0, f.nm, (some r)⟩) _ w11 from by rw [hw11]; exact HM10.out)
  rw [← hw11]
  clear hw11 HK10 HM10 HK9 HM9
  go_wp2_with fail
  go_ret
  refine ⟨rfl, m, .slice va vn vc, ?_, ?_⟩
  ·
   have := HK11.out
   rw [HSX.out] at this
   exact this
  ·
   have := HM11.out
   rw [HSX.out] at this
   exact this
set_option maxRecDepth 100000 in
set_option maxHeartbeats 8000000 in
theorem drename_no {B d : Nat} {S : Dsk} {w : World} (h : DK B d S w) (s t : ByteArray) (hs : s.size ≤ maxLen) (ht : t.size ≤ maxLen) (hn : (S.find s).2 ≠ 0) : Calls Tryz.prog 52 #[.pointer (some ⟨d, 0, none⟩), .string s, .string t] w fun e w' => e = .returned (.int .i64 (S.find s).2) ∧ w' = w := by
 have HF := Lib.hid (dfind_c h s hs)
 have hn' : ((S.find s).2 == 0) = false := beq_eq_false_iff_ne.2 hn
 clear h
 obtain ⟨x, hx⟩ : ∃ x, x = (S.find s).2 := ⟨_, rfl⟩
 obtain ⟨y, hy⟩ : ∃ y, y = ptrOf (S.find s).1 := ⟨_, rfl⟩
 rw [← hx] at HF hn hn' ⊢
 rw [← hy] at HF
 clear hx
 have hy' : ∃ z, y = .pointer z := ⟨_, hy⟩
 obtain ⟨z, rfl⟩ := hy'
 clear hy
 go_enter Tryz.func52, Tryz.ntmps52
 go_wp2_with fail
 refine HF.out.mono ?_
 rintro e1 w1 ⟨rfl, rfl⟩
 go_wp2_with fail
 go_ret
 exact ⟨rfl, rfl⟩
set_option maxRecDepth 100000 in
set_option maxHeartbeats 8000000 in
theorem drename_bad {B d : Nat} {S : Dsk} {w : World} (h : DK B d S w) (s t : ByteArray) (hs : s.size ≤ maxLen) (ht : t.size ≤ maxLen) (hd : S.down = false) {b : Nat} (ha : S.at s = some b) (hn : isNm t = false) : Calls Tryz.prog 52 #[.pointer (some ⟨d, 0, none⟩), .string s, .string t] w fun e w' => e = .returned (.int .i64 1) ∧ w' = w := by
 have HF := Lib.hid (dfind_c h s hs)
 rw [show S.find s = (some b, 0) from by unfold Dsk.find; rw [hd, ha]; rfl] at HF
 simp only [ptrOf, Option.map_some] at HF
 have HI := Lib.hid (isname_c t w ht)
 rw [show (decide (1 ≤ t.size) && decide (t.size ≤ 160)) = false from hn] at HI
 clear h hn
 go_enter Tryz.func52, Tryz.ntmps52
 go_wp2_with fail
 refine HF.out.mono ?_
 rintro e1 w1 ⟨rfl, rfl⟩
 go_wp2_with fail
 refine HI.out.mono ?_
 rintro e2 w2 ⟨rfl, rfl⟩
 go_wp2_with fail
 go_ret
 exact ⟨rfl, rfl⟩
set_option maxRecDepth 100000 in
set_option maxHeartbeats 8000000 in
theorem drename_power {B d : Nat} {S : Dsk} {w : World} (h : DK B d S w) (s t : ByteArray) (hs : s.size ≤ maxLen) (ht : t.size ≤ maxLen) (hd : S.down = false) {b : Nat} (ha : S.at s = some b) (hn : isNm t = true) (hf : S.fuse = 0) : Calls Tryz.prog 52 #[.pointer (some ⟨d, 0, none⟩), .string s, .string t] w fun e w' => e = .returned (.int .i64 5) ∧ DK B d { S with down := true } w' ∧ Mov S d { S with down := true } w w' := by
 have HF := Lib.hid (dfind_c h s hs)
 rw [show S.find s = (some b, 0) from by unfold Dsk.find; rw [hd, ha]; rfl] at HF
 simp only [ptrOf, Option.map_some] at HF
 have HI := Lib.hid (isname_c t w ht)
 rw [show (decide (1 ≤ t.size) && decide (t.size ≤ 160)) = true from hn] at HI
 have hst : S.step = ({ S with down := true }, 5) := by
  unfold Dsk.step
  rw [if_pos hf]
 have HST := Lib.hid (dstep_c h)
 rw [hst] at HST
 clear h hn hst
 go_enter Tryz.func52, Tryz.ntmps52
 go_wp2_with fail
 refine HF.out.mono ?_
 rintro e1 w1 ⟨rfl, rfl⟩
 go_wp2_with fail
 refine HI.out.mono ?_
 rintro e2 w2 ⟨rfl, rfl⟩
 go_wp2_with fail
 refine HST.out.mono ?_
 rintro e3 w3 ⟨rfl, hk3, hm3⟩
 have HK3 := Lib.hid hk3
 have HM3 := Lib.hid hm3
 clear hk3 hm3
 go_wp2_with fail
 go_ret
 exact ⟨rfl, HK3.out, HM3.out⟩
end Go.Proofs.YtihbgigledmliaaGreat
namespace Go.Proofs.YtihbgigledmliaaGreat
open Go.RowKit Go.Maps
set_option linter.unusedVariables false
theorem boxc {w : World} {X : Nat} {k z : Int} {b : Nat} {nm : ByteArray} {rp : Option Addr} (hh : w.heap[X]? = some (.cells #[.int .i64 k, .pointer (some ⟨b, 0, none⟩), .int .i64 z, .string nm, .pointer rp] 145 (0, 0))) :
  w.cell? ⟨X, 0, none⟩ = some (.int .i64 k) ∧ w.cell? ⟨X, 1, none⟩ = some (.pointer (some ⟨b, 0, none⟩)) ∧ w.cell? ⟨X, 2, none⟩ = some (.int .i64 z) ∧ w.cell? ⟨X, 3, none⟩ = some (.string nm) ∧ w.cell? ⟨X, 4, none⟩ = some (.pointer rp) :=
 ⟨(cell_of_row w X 0 _ _ _ hh).trans rfl, (cell_of_row w X 1 _ _ _ hh).trans rfl, (cell_of_row w X 2 _ _ _ hh).trans rfl, (cell_of_row w X 3 _ _ _ hh).trans rfl, (cell_of_row w X 4 _ _ _ hh).trans rfl⟩
set_option maxRecDepth 100000 in
set_option maxHeartbeats 8000000 in
theorem dundo_created {B d b : Nat} {S : Dsk} {f : Fil} {w : World} (h : DK B d S w) (hf : S.fl b = some f) (z stay : Int) (nm : ByteArray) (rp : Option Addr) (hs : f.nm.size ≤ maxLen)  :
  Calls Tryz.prog 79 #[.pointer (some ⟨d, 0, none⟩), .agg #[.int .i64 0, .pointer (some ⟨b, 0, none⟩), .int .i64 z, .string nm, .pointer rp], .int .i64 stay] w fun e w' => e = .returned (.tuple #[]) ∧ DK B d (S.drop f) w' ∧ Mov S d (S.drop f) w w' := by
 obtain ⟨X, hX⟩ : ∃ X, X = w.heap.size := ⟨_, rfl⟩
 obtain ⟨w1, hw⟩ : ∃ w1, w1 = w.alloc (.cells #[.int .i64 0, .pointer (some ⟨b, 0, none⟩), .int .i64 z, .string nm, .pointer rp] 145) := ⟨_, rfl⟩
 have hh : w1.heap[X]? = some (.cells #[.int .i64 0, .pointer (some ⟨b, 0, none⟩), .int .i64 z, .string nm, .pointer rp] 145 (0, 0)) := by rw [hw, hX]; exact heap_alloc_new w _
 obtain ⟨b0, b1, b2, b3, b4⟩ := boxc hh
 have hk1 : DK B d S w1 := by rw [hw]; exact h.alloc _
 have HXN := Lib.hid (show ¬ S.own d X from fun ho => by have := (h.ownLt ho).2; omega)
 have HM1 := Lib.hid (show Mov S d S w w1 from by rw [hw]; exact Mov.ofBelow ((Below.refl _ _).alloc (Nat.le_refl _) _))
 have HXW := Lib.hid (show w.heap.size ≤ X from by omega)
 have HH := Lib.hid hh
 have HD := Lib.hid (ddrop_c hk1 (b := b) (f := f) hf hs)
 clear hk1 hh h b4 b3 b2
 go_enter Tryz.func79, Tryz.ntmps79
 go_upto_region 1 with fail
 rw [← hX]
 rw [← hw]
 clear hX hw
 go_wp2_with fail
 refine HD.out.mono ?_
 rintro e2 w2 ⟨rfl, hk2, hm2⟩
 have HK2 := Lib.hid hk2
 have HM2 := Lib.hid (HM1.out.trans hm2)
 clear hk2 hm2
 go_wp2_with fail
 go_end0
 exact ⟨rfl, HK2.out, HM2.out⟩
set_option maxRecDepth 100000 in
set_option maxHeartbeats 8000000 in
theorem dundo_removed {B d b : Nat} {S : Dsk} {f : Fil} {w : World} (h : DK B d S w) (hf : S.fl b = some f) (z stay : Int) (nm : ByteArray) (rp : Option Addr) (hs : f.nm.size ≤ maxLen) (hn : S.n < maxLen) :
  Calls Tryz.prog 79 #[.pointer (some ⟨d, 0, none⟩), .agg #[.int .i64 2, .pointer (some ⟨b, 0, none⟩), .int .i64 z, .string nm, .pointer rp], .int .i64 stay] w fun e w' => e = .returned (.tuple #[]) ∧ ∃ m, DK B d (S.put m b f) w' ∧ Mov S d (S.put m b f) w w' := by
 obtain ⟨X, hX⟩ : ∃ X, X = w.heap.size := ⟨_, rfl⟩
 obtain ⟨w1, hw⟩ : ∃ w1, w1 = w.alloc (.cells #[.int .i64 2, .pointer (some ⟨b, 0, none⟩), .int .i64 z, .string nm, .pointer rp] 145) := ⟨_, rfl⟩
 have hh : w1.heap[X]? = some (.cells #[.int .i64 2, .pointer (some ⟨b, 0, none⟩), .int .i64 z, .string nm, .pointer rp] 145 (0, 0)) := by rw [hw, hX]; exact heap_alloc_new w _
 obtain ⟨b0, b1, b2, b3, b4⟩ := boxc hh
 have hk1 : DK B d S w1 := by rw [hw]; exact h.alloc _
 have HXN := Lib.hid (show ¬ S.own d X from fun ho => by have := (h.ownLt ho).2; omega)
 have HM1 := Lib.hid (show Mov S d S w w1 from by rw [hw]; exact Mov.ofBelow ((Below.refl _ _).alloc (Nat.le_refl _) _))
 have HXW := Lib.hid (show w.heap.size ≤ X from by omega)
 have HH := Lib.hid hh
 have HD := Lib.hid (dput_c hk1 (b := b) (f := f) hf hs hn)
 clear hk1 hh h b4 b3 b2
 go_enter Tryz.func79, Tryz.ntmps79
 go_upto_region 1 with fail
 rw [← hX]
 rw [← hw]
 clear hX hw
 go_wp2_with fail
 refine HD.out.mono ?_
 rintro e2 w2 ⟨rfl, m, hk2, hm2⟩
 have HK2 := Lib.hid hk2
 have HM2 := Lib.hid (HM1.out.trans hm2)
 clear hk2 hm2
 go_wp2_with fail
 go_end0
 exact ⟨rfl, m, HK2.out, HM2.out⟩
set_option maxRecDepth 100000 in
set_option maxHeartbeats 8000000 in
theorem dundo_renamed {B d b : Nat} {S : Dsk} {f : Fil} {w : World} (h : DK B d S w) (hf : S.fl b = some f) (z stay : Int) (nm : ByteArray) (hs : f.nm.size ≤ maxLen) (hnm : nm.size ≤ maxLen) (hn : S.n + 1 < maxLen) (hno : ∀ x, S.at x = some b → x = f.nm) :
  Calls Tryz.prog 79 #[.pointer (some ⟨d, 0, none⟩), .agg #[.int .i64 3, .pointer (some ⟨b, 0, none⟩), .int .i64 z, .string nm, .pointer none], .int .i64 stay] w fun e w' => e = .returned (.tuple #[]) ∧ ∃ m, DK B d (((S.drop f).file b ⟨nm, f.row, f.zs⟩).put m b ⟨nm, f.row, f.zs⟩) w' ∧ Mov S d (((S.drop f).file b ⟨nm, f.row, f.zs⟩).put m b ⟨nm, f.row, f.zs⟩) w w' := by
 obtain ⟨X, hX⟩ : ∃ X, X = w.heap.size := ⟨_, rfl⟩
 obtain ⟨w1, hw⟩ : ∃ w1, w1 = w.alloc (.cells #[.int .i64 3, .pointer (some ⟨b, 0, none⟩), .int .i64 z, .string nm, .pointer none] 145) := ⟨_, rfl⟩
 have hh : w1.heap[X]? = some (.cells #[.int .i64 3, .pointer (some ⟨b, 0, none⟩), .int .i64 z, .string nm, .pointer none] 145 (0, 0)) := by rw [hw, hX]; exact heap_alloc_new w _
 obtain ⟨b0, b1, b2, b3, b4⟩ := boxc hh
 have hk1 : DK B d S w1 := by rw [hw]; exact h.alloc _
 have HXN := Lib.hid (show ¬ S.own d X from fun ho => by have := (h.ownLt ho).2; omega)
 have HM1 := Lib.hid (show Mov S d S w w1 from by rw [hw]; exact Mov.ofBelow ((Below.refl _ _).alloc (Nat.le_refl _) _))
 have HXW := Lib.hid (show w.heap.size ≤ X from by omega)
 have HH := Lib.hid hh
 have HD := Lib.hid (ddrop_c hk1 (b := b) (f := f) hf hs)
 have HF := Lib.hid hf
 have HNO := Lib.hid (show ∀ x, (S.drop f).at x ≠ some b from fun x hx => by
  rw [at_drop] at hx
  split at hx
  ·
   cases hx
  ·
   rename_i e
   exact e (hno x hx))
 clear hk1 hh h hno hf 
 go_enter Tryz.func79, Tryz.ntmps79
 go_upto_region 1 with fail
 rw [← hX]
 rw [← hw]
 clear hX hw
 go_wp2_with fail
 refine HD.out.mono ?_
 rintro e2 w2 ⟨rfl, hk2, hm2⟩
 have hx2 := (hm2.block X (Array.getElem?_eq_some_iff.1 HH.out).1 HXN.out).trans HH.out
 have hxn2 := hm2.own0 (Array.getElem?_eq_some_iff.1 HH.out).1 HXN.out
 obtain ⟨b0, b1, b2, b3, b4⟩ := boxc hx2
 obtain ⟨⟨nc, nz⟩, hk3, hm3⟩ := hk2.nameSet (b := b) (f := f) HF.out HNO.out nm
 have hXb : X ≠ b := fun e => hxn2 (.inr (.inr (.inl ⟨f, by rw [e]; exact HF.out⟩)))
 have HX3 := Lib.hid ((Below.heap_setCell w2 ⟨b, 0, none⟩ (.string nm) X hXb).trans hx2)
 have HXN3 := Lib.hid (hm3.own0 (Array.getElem?_eq_some_iff.1 hx2).1 hxn2)
 have HM3 := Lib.hid ((HM1.out.trans hm2).trans hm3)
 have HP := Lib.hid (dput_c hk3 (b := b) (f := ⟨nm, f.row, f.zs⟩) (by show (if _ then _ else _) = _; rw [if_pos rfl]) hnm (by show S.n < maxLen; omega))
 obtain ⟨w3, hw3⟩ : ∃ w3, w3 = w2.setCell ⟨b, 0, none⟩ (.string nm) := ⟨_, rfl⟩
 rw [← hw3] at HP HX3 HM3
 obtain ⟨q0, q1, q2, q3, q4⟩ := boxc HX3.out
 clear hk2 hm2 hx2 hxn2 hk3 hm3 HD HM1 HH HXN
 go_wp2_with (rw [← hw3])
 clear nc nz b0 b1 b2 b3 b4
 refine HP.out.mono ?_
 rintro e4 w4 ⟨rfl, m, hk4, hm4⟩
 have hx4 := (hm4.block X (Array.getElem?_eq_some_iff.1 HX3.out).1 HXN3.out).trans HX3.out
 obtain ⟨b0, b1, b2, b3, b4⟩ := boxc hx4
 have HK4 := Lib.hid hk4
 have HM4 := Lib.hid (HM3.out.trans hm4)
 clear hk4 hm4 hx4 HP HX3 HM3 HXN3 q0 q1 q2 q3 q4 hw3
 go_wp2_with fail
 go_end0
 exact ⟨rfl, m, HK4.out, HM4.out⟩
set_option maxRecDepth 100000 in
set_option maxHeartbeats 8000000 in
theorem dundo_renamed2 {B d b : Nat} {S : Dsk} {f : Fil} {w : World} (h : DK B d S w) (hf : S.fl b = some f) (z stay : Int) (nm : ByteArray) (hs : f.nm.size ≤ maxLen) (hnm : nm.size ≤ maxLen) (hn : S.n + 1 < maxLen) (hno : ∀ x, S.at x = some b → x = f.nm) {r : Nat} {g : Fil} (hrf : S.fl r = some g) (hrb : r ≠ b) (hgs : g.nm.size ≤ maxLen) :
  Calls Tryz.prog 79 #[.pointer (some ⟨d, 0, none⟩), .agg #[.int .i64 3, .pointer (some ⟨b, 0, none⟩), .int .i64 z, .string nm, .pointer (some ⟨r, 0, none⟩)], .int .i64 stay] w fun e w' => e = .returned (.tuple #[]) ∧ ∃ m m2, DK B d ((((S.drop f).file b ⟨nm, f.row, f.zs⟩).put m b ⟨nm, f.row, f.zs⟩).put m2 r g) w' ∧ Mov S d ((((S.drop f).file b ⟨nm, f.row, f.zs⟩).put m b ⟨nm, f.row, f.zs⟩).put m2 r g) w w' := by
 obtain ⟨X, hX⟩ : ∃ X, X = w.heap.size := ⟨_, rfl⟩
 obtain ⟨w1, hw⟩ : ∃ w1, w1 = w.alloc (.cells #[.int .i64 3, .pointer (some ⟨b, 0, none⟩), .int .i64 z, .string nm, .pointer (some ⟨r, 0, none⟩)] 145) := ⟨_, rfl⟩
 have hh : w1.heap[X]? = some (.cells #[.int .i64 3, .pointer (some ⟨b, 0, none⟩), .int .i64 z, .string nm, .pointer (some ⟨r, 0, none⟩)] 145 (0, 0)) := by rw [hw, hX]; exact heap_alloc_new w _
 obtain ⟨b0, b1, b2, b3, b4⟩ := boxc hh
 have hk1 : DK B d S w1 := by rw [hw]; exact h.alloc _
 have HXN := Lib.hid (show ¬ S.own d X from fun ho => by have := (h.ownLt ho).2; omega)
 have HM1 := Lib.hid (show Mov S d S w w1 from by rw [hw]; exact Mov.ofBelow ((Below.refl _ _).alloc (Nat.le_refl _) _))
 have HXW := Lib.hid (show w.heap.size ≤ X from by omega)
 have HH := Lib.hid hh
 have HD := Lib.hid (ddrop_c hk1 (b := b) (f := f) hf hs)
 have HF := Lib.hid hf
 have HNO := Lib.hid (show ∀ x, (S.drop f).at x ≠ some b from fun x hx => by
  rw [at_drop] at hx
  split at hx
  ·
   cases hx
  ·
   rename_i e
   exact e (hno x hx))
 have HRF := Lib.hid hrf
 clear hk1 hh h hno hf hrf
 go_enter Tryz.func79, Tryz.ntmps79
 go_upto_region 1 with fail
 rw [← hX]
 rw [← hw]
 clear hX hw
 go_wp2_with fail
 refine HD.out.mono ?_
 rintro e2 w2 ⟨rfl, hk2, hm2⟩
 have hx2 := (hm2.block X (Array.getElem?_eq_some_iff.1 HH.out).1 HXN.out).trans HH.out
 have hxn2 := hm2.own0 (Array.getElem?_eq_some_iff.1 HH.out).1 HXN.out
 obtain ⟨b0, b1, b2, b3, b4⟩ := boxc hx2
 obtain ⟨⟨nc, nz⟩, hk3, hm3⟩ := hk2.nameSet (b := b) (f := f) HF.out HNO.out nm
 have hXb : X ≠ b := fun e => hxn2 (.inr (.inr (.inl ⟨f, by rw [e]; exact HF.out⟩)))
 have HX3 := Lib.hid ((Below.heap_setCell w2 ⟨b, 0, none⟩ (.string nm) X hXb).trans hx2)
 have HXN3 := Lib.hid (hm3.own0 (Array.getElem?_eq_some_iff.1 hx2).1 hxn2)
 have HM3 := Lib.hid ((HM1.out.trans hm2).trans hm3)
 have HP := Lib.hid (dput_c hk3 (b := b) (f := ⟨nm, f.row, f.zs⟩) (by show (if _ then _ else _) = _; rw [if_pos rfl]) hnm (by show S.n < maxLen; omega))
 obtain ⟨w3, hw3⟩ : ∃ w3, w3 = w2.setCell ⟨b, 0, none⟩ (.string nm) := ⟨_, rfl⟩
 rw [← hw3] at HP HX3 HM3
 obtain ⟨q0, q1, q2, q3, q4⟩ := boxc HX3.out
 clear hk2 hm2 hx2 hxn2 hk3 hm3 HD HM1 HH HXN
 go_wp2_with (rw [← hw3])
 clear nc nz b0 b1 b2 b3 b4
 refine HP.out.mono ?_
 rintro e4 w4 ⟨rfl, m, hk4, hm4⟩
 have hx4 := (hm4.block X (Array.getElem?_eq_some_iff.1 HX3.out).1 HXN3.out).trans HX3.out
 obtain ⟨b0, b1, b2, b3, b4⟩ := boxc hx4
 have HK4 := Lib.hid hk4
 have HM4 := Lib.hid (HM3.out.trans hm4)
 have HQ := Lib.hid (dput_c hk4 (b := r) (f := g) (by show (if _ then _ else S.fl r) = _; rw [if_neg hrb]; exact HRF.out) hgs (by show S.n + 1 < maxLen; exact hn))
 clear hk4 hm4 hx4 HP HX3 HM3 HXN3 q0 q1 q2 q3 q4 hw3
 go_wp2_with fail
 refine HQ.out.mono ?_
 rintro e5 w5 ⟨rfl, m2, hk5, hm5⟩
 have HK5 := Lib.hid hk5
 have HM5 := Lib.hid (HM4.out.trans hm5)
 clear hk5 hm5
 go_wp2_with fail
 go_end0
 exact ⟨rfl, m, m2, HK5.out, HM5.out⟩
end Go.Proofs.YtihbgigledmliaaGreat
namespace Go.Proofs.YtihbgigledmliaaGreat
open Go.RowKit Go.Maps
set_option linter.unusedVariables false
def Dsk.zsOf (S : Dsk) (b : Nat) : List Nat := match S.fl b with
 | some f => f.zs
 | none => []
def Dsk.nmOf (S : Dsk) (b : Nat) : ByteArray := match S.fl b with
 | some f => f.nm
 | none => ⟨#[]⟩
def Dsk.vw (S : Dsk) : Vw := ⟨S.at, S.zsOf, S.nmOf⟩
theorem Dsk.vw_of {S S' : Dsk} (h1 : S'.D = S.D) (h2 : S'.fl = S.fl) : S'.vw = S.vw := by
 unfold Dsk.vw
 refine Vw.ext3 ?_ ?_ ?_
 ·
  funext s; show S'.at s = S.at s; unfold Dsk.at; rw [h1]
 ·
  funext b; show S'.zsOf b = S.zsOf b; unfold Dsk.zsOf; rw [h2]
 ·
  funext b; show S'.nmOf b = S.nmOf b; unfold Dsk.nmOf; rw [h2]
theorem Dsk.vw_step (S : Dsk) : S.step.1.vw = S.vw := by
 unfold Dsk.step
 split
 ·
  exact Dsk.vw_of rfl rfl
 ·
  split
  ·
   exact Dsk.vw_of rfl rfl
  ·
   rfl
theorem Dsk.vw_drop (S : Dsk) (f : Fil) : (S.drop f).vw = S.vw.set f.nm none :=
 Vw.ext3 (by funext x; exact at_drop f x) rfl rfl
theorem Dsk.vw_put {S : Dsk} (h : IsMap S.D) (m b : Nat) (f : Fil) : (S.put m b f).vw = S.vw.set f.nm (some b) :=
 Vw.ext3 (by funext x; exact at_put h m b f x) rfl rfl
theorem Dsk.vw_file (S : Dsk) (b : Nat) (f : Fil) : (S.file b f).vw = (S.vw.bytes b f.zs).name b f.nm := by
 refine Vw.ext3 rfl ?_ ?_
 ·
  funext c
  show (match (if c = b then some f else S.fl c) with | some f => f.zs | none => []) = if c = b then f.zs else S.zsOf c
  by_cases e : c = b
  ·
   rw [if_pos e, if_pos e]
  ·
   rw [if_neg e, if_neg e]; rfl
 ·
  funext c
  show (match (if c = b then some f else S.fl c) with | some f => f.nm | none => ⟨#[]⟩) = if c = b then f.nm else S.nmOf c
  by_cases e : c = b
  ·
   rw [if_pos e, if_pos e]
  ·
   rw [if_neg e, if_neg e]; rfl
theorem Dsk.zs_of {S : Dsk} {b : Nat} {f : Fil} (h : S.fl b = some f) : S.vw.zs b = f.zs := by show S.zsOf b = _; unfold Dsk.zsOf; rw [h]
theorem Dsk.nm_of {S : Dsk} {b : Nat} {f : Fil} (h : S.fl b = some f) : S.vw.nm b = f.nm := by show S.nmOf b = _; unfold Dsk.nmOf; rw [h]
/-- the map's keys are the names -/
structure Td (S : Dsk) : Prop where
 tidy : Tidy S.D
 has : ∀ s, Maps.has S.D (keyS s) = (S.at s).isSome
theorem Td.same {S S' : Dsk} (h : Td S) (e : S'.D = S.D) : Td S' := ⟨by rw [e]; exact h.tidy, fun s => by unfold Dsk.at; rw [e]; exact h.has s⟩
theorem Td.drop {S : Dsk} (h : Td S) (f : Fil) : Td (S.drop f) := ⟨h.tidy.del _, fun s => by
 rw [at_drop]
 show Maps.has (S.D.del (keyS f.nm)) (keyS s) = _
 by_cases e : s = f.nm
 ·
  rw [if_pos e, e, has_del_same]; rfl
 ·
  rw [if_neg e, has_del_other (fun k => e (keyS_inj k))]; exact h.has s⟩
theorem Td.put {S : Dsk} (h : Td S) (m b : Nat) (f : Fil) : Td (S.put m b f) := ⟨h.tidy.put (by trivial) _, fun s => by
 rw [at_put h.tidy.isMap]
 show Maps.has (S.D.put (keyS f.nm) _) (keyS s) = _
 by_cases e : s = f.nm
 ·
  rw [if_pos e, e, has_put_same h.tidy.isMap (by trivial)]; rfl
 ·
  rw [if_neg e, has_put_other (fun k => e (keyS_inj k))]; exact h.has s⟩
/-- what is told of the files -/
structure JS (S : Dsk) (l : Fls) : Prop where
 ab : Ab S.vw l
 used : S.used = (usedF l : Int)
 size : Maps.size S.D = l.length
theorem JS.uniq {S : Dsk} {l m : Fls} (h : JS S l) (k : Ab S.vw m) : l = m := srt_ext h.ab.srt k.srt fun n => (h.ab.look n).symm.trans (k.look n)
theorem JS.same {S S' : Dsk} {l : Fls} (h : JS S l) (h1 : S'.D = S.D) (h2 : S'.fl = S.fl) (h3 : S'.used = S.used) : JS S' l :=
 ⟨by rw [Dsk.vw_of h1 h2]; exact h.ab, h3.trans h.used, by rw [h1]; exact h.size⟩
theorem JS.drop {S : Dsk} {l : Fls} {b : Nat} {f : Fil} (h : JS S l) (hk : Td S) (hf : S.fl b = some f) (ha : S.at f.nm = some b) (hu : usedF l ≤ 67108864) : JS (S.drop f) (withoutF l f.nm) := by
 have hlk : lookF l f.nm = some f.zs := by rw [h.ab.has (s := f.nm) (b := b) ha, Dsk.zs_of hf]
 have h1 := used_without (n := f.nm) h.ab.srt
 have h2 := length_without (n := f.nm) h.ab.srt
 rw [hlk] at h1 h2
 simp only [Option.getD_some, Option.isSome_some, if_true] at h1 h2
 refine ⟨by rw [Dsk.vw_drop]; exact h.ab.remove f.nm, ?_, ?_⟩
 ·
  show wrap64 (S.used - (f.zs.length : Int)) = _
  rw [h.used, wrap64_id (by omega) (by omega)]
  omega
 ·
  have h3 := size_del (k := keyS f.nm) hk.tidy
  rw [hk.has, ha] at h3
  simp only [Option.isSome_some, if_true] at h3
  have h4 := h.size
  show Maps.size (S.D.del (keyS f.nm)) = _
  omega
theorem JS.put {S : Dsk} {l : Fls} {b : Nat} {f : Fil} (h : JS S l) (hk : Td S) (hf : S.fl b = some f) (ha : S.at f.nm = none) (m : Nat) (hb : ∀ x, S.at x ≠ some b) (hu : usedF l + f.zs.length ≤ 1000000000) : JS (S.put m b f) (withF l (f.nm, f.zs)) := by
 have hn := h.ab.lacks (s := f.nm) ha
 refine ⟨?_, ?_, ?_⟩
 ·
  rw [Dsk.vw_put hk.tidy.isMap]
  refine ⟨fun t => ?_, fun t c hc => ?_, srt_with h.ab.srt (lookF_none hn)⟩
  ·
   rw [look_with t hn]
   show (if t = f.nm then some b else S.at t).map S.vw.zs = _
   by_cases e : t = f.nm
   ·
    rw [if_pos e, if_pos e, Option.map_some, Dsk.zs_of hf]
   ·
    rw [if_neg e, if_neg e]; exact h.ab.look t
  ·
   have hc' : (if t = f.nm then some b else S.at t) = some c := hc
   show S.vw.nm c = t
   split at hc'
   ·
    rename_i e; cases hc'; rw [Dsk.nm_of hf, e]
   ·
    exact h.ab.nm t c hc'
 ·
  show wrap64 (S.used + (f.zs.length : Int)) = _
  rw [h.used, used_with, wrap64_id (by omega) (by omega)]
  show _ = ((usedF l + f.zs.length : Nat) : Int)
  omega
 ·
  show Maps.size (S.D.put (keyS f.nm) _) = _
  rw [size_put hk.tidy, hk.has, ha, length_with, h.size]
  rfl
/-- a file that no name leads to gets another name, other bytes -/
theorem JS.file {S : Dsk} {l : Fls} {b : Nat} (h : JS S l) (hb : ∀ x, S.at x ≠ some b) (f : Fil) : JS (S.file b f) l := by
 refine ⟨?_, h.used, h.size⟩
 rw [Dsk.vw_file]
 refine ⟨fun t => ?_, fun t c hc => ?_, h.ab.srt⟩
 ·
  rw [← h.ab.look]
  show (S.at t).map (fun c => if c = b then f.zs else S.vw.zs c) = (S.at t).map S.vw.zs
  cases e : S.at t with
  | none => rfl
  | some c =>
   have hc : c ≠ b := fun k => hb t (by rw [e, k])
   simp only [Option.map_some]
   rw [if_neg hc]
 ·
  have hcb : c ≠ b := fun k => hb t (by rw [← k]; exact hc)
  show (if c = b then f.nm else S.vw.nm c) = t
  rw [if_neg hcb]
  exact h.ab.nm t c hc
/-- a file's bytes become others -/
theorem JS.bytes {S S' : Dsk} {l : Fls} {s : ByteArray} {b : Nat} {f : Fil} {v : Value} {zs : List Nat} (h : JS S l) (hf : S.fl b = some f) (ha : S.at s = some b) (h1 : S'.D = S.D) (h2 : S'.fl = (S.file b ⟨f.nm, v, zs⟩).fl) (h3 : S'.used = S.used - (f.zs.length : Int) + (zs.length : Int)) :
  JS S' (withF (withoutF l s) (s, zs)) ∧ S'.vw = S.vw.bytes b zs := by
 have hv : S'.vw = S.vw.bytes b zs := by
  have e : S'.vw = (S.file b ⟨f.nm, v, zs⟩).vw := Dsk.vw_of h1 h2
  rw [e, Dsk.vw_file]
  refine Vw.ext3 rfl rfl ?_
  funext c
  show (if c = b then f.nm else S.vw.nm c) = S.vw.nm c
  by_cases e : c = b
  ·
   rw [if_pos e, e, Dsk.nm_of hf]
  ·
   rw [if_neg e]
 have hlk : lookF l s = some f.zs := by rw [h.ab.has (s := s) (b := b) ha, Dsk.zs_of hf]
 have k1 := used_without (n := s) h.ab.srt
 have k2 := length_without (n := s) h.ab.srt
 rw [hlk] at k1 k2
 simp only [Option.getD_some, Option.isSome_some, if_true] at k1 k2
 have hn : lookF (withoutF l s) s = none := by rw [look_without, if_pos rfl]
 refine ⟨⟨?_, ?_, ?_⟩, hv⟩
 ·
  rw [hv]
  refine ⟨fun t => ?_, fun t c hc => h.ab.nm t c hc, srt_with (srt_without h.ab.srt) fun x hx => (mem_withoutF.1 hx).2⟩
  rw [look_with t hn, look_without]
  show (S.at t).map (fun c => if c = b then zs else S.vw.zs c) = _
  by_cases e : t = s
  ·
   rw [if_pos e, e, ha]; simp
  ·
   rw [if_neg e, if_neg e, ← h.ab.look]
   show _ = (S.at t).map S.vw.zs
   cases ev : S.at t with
   | none => rfl
   | some c =>
    have hc : c ≠ b := fun k => e (h.ab.inj (s := t) (t := s) ev (by rw [k]; exact ha))
    simp only [Option.map_some]
    rw [if_neg hc]
 ·
  rw [h3, h.used, used_with]
  show _ = ((usedF (withoutF l s) + zs.length : Nat) : Int)
  omega
 ·
  rw [h1, h.size, length_with]
  omega
end Go.Proofs.YtihbgigledmliaaGreat
namespace Go.Proofs.YtihbgigledmliaaGreat
open Go.RowKit Go.Maps
set_option linter.unusedVariables false
/-- the document's disk -/
structure Ad where
 room : Int
 fuse : Int
 down : Bool
 now : Fls
 sure : Fls
 loose : List DCh
def Ad.may (A : Ad) (c : DCh) : Int :=
 if c.kind = 0 then (if isNm c.a = false then 1 else if (lookF A.now c.a).isSome then 7 else if 4096 ≤ A.now.length then 4 else 0)
 else if (lookF A.now c.a).isNone then 6
 else if c.kind = 1 then (if 1048576 < c.p.length then 8 else if A.room - (usedF A.now : Int) < (c.p.length : Int) then 4 else 0)
 else if c.kind = 3 ∧ isNm c.b = false then 1 else 0
def Ad.off (A : Ad) : Ad := { A with down := true }
def Ad.spent (A : Ad) : Ad := { A with fuse := if 0 < A.fuse then A.fuse - 1 else A.fuse }
def Ad.did (A : Ad) (c : DCh) : Ad := { A.spent with now := doF A.now c, loose := A.loose ++ [c] }
def Ad.step (A : Ad) (c : DCh) : Ad × Int := if A.down then (A, 5) else if A.may c ≠ 0 then (A, A.may c) else if A.fuse = 0 then (A.off, 5) else (A.did c, 0)
def Ad.sync (A : Ad) : Ad × Int := if A.down then (A, 5) else if A.fuse = 0 then (A.off, 5) else ({ A.spent with sure := A.now, loose := [] }, 0)
structure RA (N : Nat) (S : Dsk) (A : Ad) : Prop where
 room : S.room = A.room
 r0 : 0 ≤ A.room
 r1 : A.room ≤ 67108864
 fuse : A.fuse = max S.fuse (-1)
 fb : S.fuse ≤ 9223372036854775807
 down : S.down = A.down
 used : S.used = (usedF A.now : Int)
 size : Maps.size S.D = A.now.length
 td : Td S
 chn : Chn A.room.toNat S.vw S.loose.reverse A.now A.loose.reverse A.sure
 big : S.n + 2 * S.loose.length ≤ N
 nms : ∀ b f, S.fl b = some f → f.nm.size ≤ 160
 cnm : ∀ c ∈ S.loose, c.name.size ≤ 160
 zsl : ∀ b f, S.fl b = some f → f.zs.length ≤ 67108864
theorem RA.mono {N M : Nat} {S : Dsk} {A : Ad} (h : RA N S A) (hM : N ≤ M) : RA M S A := { h with big := Nat.le_trans h.big hM }
theorem RA.js {N : Nat} {S : Dsk} {A : Ad} (h : RA N S A) : JS S A.now := ⟨h.chn.ab, h.used, h.size⟩
theorem RA.uR {N : Nat} {S : Dsk} {A : Ad} (h : RA N S A) : usedF A.now ≤ 67108864 := by have := h.chn.used; have := h.r1; omega
theorem RA.look {N : Nat} {S : Dsk} {A : Ad} (h : RA N S A) (s : ByteArray) : lookF A.now s = (S.at s).map S.vw.zs := (h.chn.ab.look s).symm
theorem RA.fuse0 {N : Nat} {S : Dsk} {A : Ad} (h : RA N S A) : S.fuse = 0 ↔ A.fuse = 0 := by have := h.fuse; omega
theorem RA.offS {N : Nat} {S : Dsk} {A : Ad} (h : RA N S A) : RA N { S with down := true } A.off :=
 ⟨h.room, h.r0, h.r1, h.fuse, h.fb, rfl, h.used, h.size, h.td.same rfl, by
  have e : ({ S with down := true } : Dsk).vw = S.vw := Dsk.vw_of rfl rfl
  rw [e]; exact h.chn, h.big, h.nms, h.cnm, h.zsl⟩
theorem step_facts (S : Dsk) (hf : S.fuse ≠ 0) : S.step.2 = 0 ∧ S.step.1.n = S.n ∧ S.step.1.fl = S.fl ∧ S.step.1.loose = S.loose ∧ S.step.1.D = S.D ∧ S.step.1.room = S.room ∧ S.step.1.used = S.used ∧ S.step.1.down = S.down ∧ S.step.1.mb = S.mb ∧ S.step.1.lv = S.lv := by
 unfold Dsk.step
 rw [if_neg hf]
 split <;> exact ⟨rfl, rfl, rfl, rfl, rfl, rfl, rfl, rfl, rfl, rfl⟩
theorem RA.stepped {N : Nat} {S : Dsk} {A : Ad} (h : RA N S A) (hf : S.fuse ≠ 0) : RA N S.step.1 A.spent := by
 obtain ⟨_, h2, h3, h4, h5, h6, h7, h8, _, _⟩ := step_facts S hf
 have hfu : A.spent.fuse = max S.step.1.fuse (-1) ∧ S.step.1.fuse ≤ 9223372036854775807 := by
  have h0 := h.fuse
  have h1 := h.fb
  unfold Ad.spent Dsk.step
  rw [if_neg hf]
  by_cases hp : 0 < S.fuse
  ·
   rw [if_pos hp]
   show (if 0 < A.fuse then A.fuse - 1 else A.fuse) = max (wrap64 (S.fuse - 1)) (-1) ∧ wrap64 (S.fuse - 1) ≤ _
   rw [wrap64_id (by omega) (by omega)]
   split <;> omega
  ·
   rw [if_neg hp]
   show (if 0 < A.fuse then A.fuse - 1 else A.fuse) = max S.fuse (-1) ∧ S.fuse ≤ _
   split <;> omega
 exact ⟨h6.trans h.room, h.r0, h.r1, hfu.1, hfu.2, h8.trans h.down, h7.trans h.used, by rw [h5]; exact h.size, h.td.same h5, by
  rw [Dsk.vw_step, h4]; exact h.chn, by rw [h2, h4]; exact h.big, by rw [h3]; exact h.nms, by rw [h4]; exact h.cnm, by rw [h3]; exact h.zsl⟩
/-- what a call leaves -/
def Did (B d N : Nat) (S : Dsk) (w : World) (A' : Ad) (w' : World) : Prop := ∃ S', DK B d S' w' ∧ RA N S' A' ∧ Mov S d S' w w'
theorem Did.same {B d N : Nat} {S : Dsk} {w : World} {A : Ad} (h : DK B d S w) (r : RA N S A) (k : Nat) : Did B d (N + k) S w A w := ⟨S, h, r.mono (Nat.le_add_right _ _), Mov.refl _ _ _⟩
theorem Did.off {B d N : Nat} {S : Dsk} {w w' : World} {A : Ad} (h : DK B d { S with down := true } w') (r : RA N S A) (m : Mov S d { S with down := true } w w') (k : Nat) : Did B d (N + k) S w A.off w' := ⟨_, h, r.offS.mono (Nat.le_add_right _ _), m⟩
theorem DK.inX {B d : Nat} {S : Dsk} {w : World} (h : DK B d S w) : (∀ c ∈ S.loose.reverse, inX (fun b => (S.fl b).isSome = true) c) ∧ ∀ s b, S.vw.ix s = some b → (S.fl b).isSome = true := by
 refine ⟨fun c hc => ?_, fun s b hb => ?_⟩
 ·
  obtain ⟨⟨f, h1⟩, h2⟩ := h.rest.hc c (List.mem_reverse.1 hc)
  exact ⟨by show (S.fl c.file).isSome = true; rw [h1]; rfl, fun r hr => by obtain ⟨g, h3⟩ := h2 r hr; show (S.fl r).isSome = true; rw [h3]; rfl⟩
 ·
  obtain ⟨f, h1, _⟩ := h.rest.at hb
  rw [h1]; rfl
theorem RA.create {B d N : Nat} {S : Dsk} {A : Ad} {w : World} (h : DK B d S w) (r : RA N S A) (s : ByteArray) (hn : isNm s = true) (ha : S.at s = none) (hf : S.fuse ≠ 0) (b m : Nat) (v : Value) (hb : S.fl b = none) : RA (N + 3) (S.step.1.made s b m v) (A.did ⟨0, s, ⟨#[]⟩, []⟩) := by
 obtain ⟨_, h2, h3, h4, h5, h6, h7, h8, _, _⟩ := step_facts S hf
 have r1 := r.stepped hf
 have hs : s.size ≤ 160 := by
  unfold isNm at hn
  simp only [Bool.and_eq_true, decide_eq_true_eq] at hn
  exact hn.2
 obtain ⟨x1, x2⟩ := h.inX
 have hnb : ∀ x, S.step.1.at x ≠ some b := fun x hx => by
  have hx' : S.at x = some b := by unfold Dsk.at at hx ⊢; rw [h5] at hx; exact hx
  obtain ⟨f, k1, _⟩ := h.rest.at hx'
  rw [hb] at k1; cases k1
 have ha1 : S.step.1.at s = none := by unfold Dsk.at at ha ⊢; rw [h5]; exact ha
 have j1 : JS S.step.1 A.now := r1.js
 have j2 := j1.file hnb ⟨s, .slice none 0 0, []⟩
 have td2 : Td (S.step.1.file b ⟨s, .slice none 0 0, []⟩) := r1.td.same rfl
 have hfb : (S.step.1.file b ⟨s, .slice none 0 0, []⟩).fl b = some ⟨s, .slice none 0 0, []⟩ := by show (if _ then _ else _) = _; rw [if_pos rfl]
 have j3 := j2.put td2 hfb (by exact ha1) m (by exact hnb) (by show usedF A.now + 0 ≤ _; have := r.uR; omega)
 have td3 := td2.put m b ⟨s, .slice none 0 0, []⟩
 have hv : (S.step.1.made s b m v).vw = ((S.vw.bytes b []).name b s).set s (some b) := by
  have e1 : (S.step.1.made s b m v).vw = ((S.step.1.file b ⟨s, .slice none 0 0, []⟩).put m b ⟨s, .slice none 0 0, []⟩).vw := Dsk.vw_of rfl rfl
  rw [e1, Dsk.vw_put td2.tidy.isMap, Dsk.vw_file, Dsk.vw_step]
 have hl : (S.step.1.made s b m v).loose = S.loose ++ [⟨0, b, 0, ⟨#[]⟩, none⟩] := by
  show S.step.1.loose ++ [_] = _
  rw [h4]
 have hc := r.chn.create x1 x2 s b ha (by rw [hb]; exact fun e => by cases e) 0 ⟨#[]⟩ none
 have hbig := r.big
 refine ⟨r1.room, r.r0, r.r1, r1.fuse, r1.fb, r1.down, j3.used, j3.size, td3.same rfl, ?_, ?_, fun c f hc => ?_, fun c hc => ?_, fun c f hc => ?_⟩
 ·
  rw [hv, hl, List.reverse_append, List.reverse_singleton, List.singleton_append]
  show Chn _ _ _ _ (A.loose ++ [_]).reverse _
  rw [List.reverse_append, List.reverse_singleton, List.singleton_append]
  exact hc
 ·
  rw [hl, List.length_append, List.length_singleton]
  show S.step.1.n + 1 + 2 * (S.loose.length + 1) ≤ N + 3
  rw [h2]
  omega
 ·
  have hc' : (if c = b then some (⟨s, .slice none 0 0, []⟩ : Fil) else S.step.1.fl c) = some f := hc
  split at hc'
  ·
   cases hc'; exact hs
  ·
   rw [h3] at hc'; exact r.nms c f hc'
 ·
  rw [hl] at hc
  rcases List.mem_append.1 hc with hc | hc
  ·
   exact r.cnm c hc
  ·
   rw [List.mem_singleton] at hc; subst hc; show (0 : Nat) ≤ 160; omega
 ·
  have hc' : (if c = b then some (⟨s, .slice none 0 0, []⟩ : Fil) else S.step.1.fl c) = some f := hc
  split at hc'
  ·
   cases hc'; show (0 : Nat) ≤ _; omega
  ·
   rw [h3] at hc'; exact r.zsl c f hc'
theorem RA.append {N : Nat} {S : Dsk} {A : Ad} (r : RA N S A) (s : ByteArray) {b : Nat} {f : Fil} (ha : S.at s = some b) (hfl : S.fl b = some f) (ps : List Nat) (hp : ps.length ≤ 1048576) (hR : (usedF A.now : Int) + (ps.length : Int) ≤ A.room) (hf : S.fuse ≠ 0) (v v' : Value) : RA (N + 3) (S.step.1.laid b f v v' ps) (A.did ⟨1, s, ⟨#[]⟩, ps⟩) := by
 obtain ⟨_, h2, h3, h4, h5, h6, h7, h8, _, _⟩ := step_facts S hf
 have r1 := r.stepped hf
 have ha1 : S.step.1.at s = some b := by unfold Dsk.at at ha ⊢; rw [h5]; exact ha
 have hfl1 : S.step.1.fl b = some f := by rw [h3]; exact hfl
 have hu := r.uR
 have hrr := r.r1
 obtain ⟨j2, hv⟩ := r1.js.bytes (S' := S.step.1.laid b f v v' ps) (v := v') (zs := f.zs ++ ps) hfl1 ha1 rfl rfl (by
  show wrap64 (S.step.1.used + (ps.length : Int)) = S.step.1.used - (f.zs.length : Int) + ((f.zs ++ ps).length : Int)
  rw [h7, r.used, wrap64_id (by omega) (by omega), List.length_append]
  omega)
 rw [Dsk.vw_step] at hv
 have hzs : S.vw.zs b = f.zs := Dsk.zs_of hfl
 have hc := r.chn.append s b ps ha (by have := r.r0; omega) (by omega) hp ⟨#[]⟩ none
 rw [hzs] at hc
 have hdo : doF A.now ⟨1, s, ⟨#[]⟩, ps⟩ = withF (withoutF A.now s) (s, f.zs ++ ps) := by
  rw [doF1, r.look, ha, Option.map_some, hzs]; rfl
 have hl : (S.step.1.laid b f v v' ps).loose = S.loose ++ [⟨1, b, (f.zs.length : Int), ⟨#[]⟩, none⟩] := by
  show S.step.1.loose ++ [_] = _
  rw [h4]
 have hbig := r.big
 have hlz : f.zs.length + ps.length ≤ 67108864 := by
  have h9 := used_without (n := s) r.chn.ab.srt
  rw [r.look, ha, Option.map_some, hzs] at h9
  simp only [Option.getD_some] at h9
  omega
 have j3 : JS (S.step.1.laid b f v v' ps) (doF A.now ⟨1, s, ⟨#[]⟩, ps⟩) := by rw [hdo]; exact j2
 refine ⟨r1.room, r.r0, r.r1, r1.fuse, r1.fb, r1.down, j3.used, j3.size, r1.td.same rfl, ?_, ?_, fun c g hc => ?_, fun c hc => ?_, fun c g hc => ?_⟩
 ·
  rw [hv, hl, List.reverse_append, List.reverse_singleton, List.singleton_append]
  show Chn _ _ _ _ (A.loose ++ [_]).reverse _
  rw [List.reverse_append, List.reverse_singleton, List.singleton_append]
  exact hc
 ·
  rw [hl, List.length_append, List.length_singleton]
  show S.step.1.n + 2 * (S.loose.length + 1) ≤ N + 3
  rw [h2]
  omega
 ·
  have hc' : (if c = b then some (⟨f.nm, v', f.zs ++ ps⟩ : Fil) else S.step.1.fl c) = some g := hc
  split at hc'
  ·
   cases hc'; exact r.nms b f hfl
  ·
   rw [h3] at hc'; exact r.nms c g hc'
 ·
  rw [hl] at hc
  rcases List.mem_append.1 hc with hc | hc
  ·
   exact r.cnm c hc
  ·
   rw [List.mem_singleton] at hc; subst hc; show (0 : Nat) ≤ 160; omega
 ·
  have hc' : (if c = b then some (⟨f.nm, v', f.zs ++ ps⟩ : Fil) else S.step.1.fl c) = some g := hc
  split at hc'
  ·
   cases hc'; show (f.zs ++ ps).length ≤ _; rw [List.length_append]; exact hlz
  ·
   rw [h3] at hc'; exact r.zsl c g hc'
theorem RA.remove {N : Nat} {S : Dsk} {A : Ad} (r : RA N S A) (s : ByteArray) {b : Nat} {f : Fil} (ha : S.at s = some b) (hfl : S.fl b = some f) (hfs : f.nm = s) (hf : S.fuse ≠ 0) (v : Value) : RA (N + 3) (S.step.1.gone f b v) (A.did ⟨2, s, ⟨#[]⟩, []⟩) := by
 obtain ⟨_, h2, h3, h4, h5, h6, h7, h8, _, _⟩ := step_facts S hf
 have r1 := r.stepped hf
 have ha1 : S.step.1.at f.nm = some b := by rw [hfs]; unfold Dsk.at at ha ⊢; rw [h5]; exact ha
 have hfl1 : S.step.1.fl b = some f := by rw [h3]; exact hfl
 have j2 := r1.js.drop r1.td hfl1 ha1 r.uR
 have hl : (S.step.1.gone f b v).loose = S.loose ++ [⟨2, b, 0, ⟨#[]⟩, none⟩] := by
  show S.step.1.loose ++ [_] = _
  rw [h4]
 have hv : (S.step.1.gone f b v).vw = S.vw.set s none := by
  have e1 : (S.step.1.gone f b v).vw = (S.step.1.drop f).vw := Dsk.vw_of rfl rfl
  rw [e1, Dsk.vw_drop, Dsk.vw_step, hfs]
 have hc := r.chn.remove s b ha 0 ⟨#[]⟩ none
 have hbig := r.big
 have j3 : JS (S.step.1.drop f) (doF A.now ⟨2, s, ⟨#[]⟩, []⟩) := by rw [doF2, ← hfs]; exact j2
 refine ⟨r1.room, r.r0, r.r1, r1.fuse, r1.fb, r1.down, j3.used, j3.size, (r1.td.drop f).same rfl, ?_, ?_, fun c g hc => r.nms c g (by rw [← h3]; exact hc), fun c hc => ?_, fun c g hc => r.zsl c g (by rw [← h3]; exact hc)⟩
 ·
  rw [hv, hl, List.reverse_append, List.reverse_singleton, List.singleton_append]
  show Chn _ _ _ _ (A.loose ++ [_]).reverse _
  rw [List.reverse_append, List.reverse_singleton, List.singleton_append]
  exact hc
 ·
  rw [hl, List.length_append, List.length_singleton]
  show S.step.1.n + 2 * (S.loose.length + 1) ≤ N + 3
  rw [h2]
  omega
 ·
  rw [hl] at hc
  rcases List.mem_append.1 hc with hc | hc
  ·
   exact r.cnm c hc
  ·
   rw [List.mem_singleton] at hc; subst hc; show (0 : Nat) ≤ 160; omega
theorem RA.sync {N : Nat} {S : Dsk} {A : Ad} (r : RA N S A) (hf : S.fuse ≠ 0) : RA N S.step.1.sure { A.spent with sure := A.now, loose := [] } := by
 have r1 := r.stepped hf
 have hbig := r1.big
 refine ⟨r1.room, r.r0, r.r1, r1.fuse, r1.fb, r1.down, r1.used, r1.size, r1.td.same rfl, ?_, ?_, r1.nms, fun c hc => (by cases hc), r1.zsl⟩
 ·
  have e1 : S.step.1.sure.vw = S.step.1.vw := Dsk.vw_of rfl rfl
  rw [e1]
  exact .nil r1.chn.ab r.chn.used
 ·
  show S.step.1.n + 0 ≤ N
  omega
theorem RA.rename {N : Nat} {S : Dsk} {A : Ad} (r : RA N S A) (s t : ByteArray) (hn : isNm t = true) {b : Nat} {f : Fil} (ha : S.at s = some b) (hfl : S.fl b = some f) (hfs : f.nm = s) (hf : S.fuse ≠ 0) (S0 : Dsk) (rp : Option Nat) (m : Nat) (v : Value)
  (h0 : (rp = none ∧ S0 = S.step.1.drop f ∧ (S.drop f).at t = none) ∨ ∃ x g, rp = some x ∧ S0 = (S.step.1.drop f).drop g ∧ (S.drop f).at t = some x ∧ S.fl x = some g ∧ g.nm = t) : RA (N + 3) (S0.named f b t m v rp) (A.did ⟨3, s, t, []⟩) := by
 obtain ⟨_, h2, h3, h4, h5, h6, h7, h8, _, _⟩ := step_facts S hf
 have r1 := r.stepped hf
 have hat : ∀ x, S.step.1.at x = S.at x := fun x => by unfold Dsk.at; rw [h5]
 have ha1 : S.step.1.at f.nm = some b := by rw [hfs, hat]; exact ha
 have hfl1 : S.step.1.fl b = some f := by rw [h3]; exact hfl
 have hu := r.uR
 have j2 : JS (S.step.1.drop f) (withoutF A.now f.nm) := r1.js.drop r1.td hfl1 ha1 hu
 have td2 := r1.td.drop f
 have hzs : S.vw.zs b = f.zs := Dsk.zs_of hfl
 have hud := used_without (n := f.nm) r.chn.ab.srt
 have e1 : (S.step.1.drop f).vw = S.vw.set s none := by rw [Dsk.vw_drop, Dsk.vw_step, hfs]
 have hat2 : ∀ x, (S.step.1.drop f).at x = if x = s then none else S.at x := fun x => by rw [at_drop, hat, hfs]
 have hrp : rp = (S.vw.set s none).ix t := by
  have e : (S.vw.set s none).ix t = (S.drop f).at t := by
   rw [at_drop, hfs]; rfl
  rw [e]
  rcases h0 with ⟨k1, _, k3⟩ | ⟨x, g, k1, _, k3, _⟩
  ·
   rw [k1, k3]
  ·
   rw [k1, k3]
 have hno : ∀ x, (S.step.1.drop f).at x ≠ some b := fun x hx => by
  rw [hat2] at hx
  split at hx
  ·
   cases hx
  ·
   rename_i e
   exact e (r.chn.ab.inj (s := x) (t := s) (b := b) hx ha)
 -- behind the drops
 have hS0 : S0.fl = S.fl ∧ S0.n = S.n ∧ S0.loose = S.loose ∧ S0.room = S.room ∧ S0.fuse = S.step.1.fuse ∧ S0.down = S.step.1.down ∧ Td S0 ∧ (∃ l0, JS S0 l0 ∧ usedF l0 ≤ 67108864) ∧ (∀ x, S0.at x = if x = t then none else if x = s then none else S.at x) ∧ S0.vw.zs = S.vw.zs ∧ S0.vw.nm = S.vw.nm := by
  rcases h0 with ⟨_, k2, k3⟩ | ⟨x, g, _, k2, k3, k4, k5⟩
  ·
   rw [k2]
   refine ⟨h3, h2, h4, h6, rfl, rfl, td2, ⟨_, j2, by omega⟩, fun y => ?_, by rw [e1]; rfl, by rw [e1]; rfl⟩
   rw [hat2]
   by_cases e : y = t
   ·
    rw [if_pos e, e]
    rw [at_drop, hfs] at k3
    exact k3
   ·
    rw [if_neg e]
  ·
   rw [k2]
   have hg1 : (S.step.1.drop f).fl x = some g := by show S.step.1.fl x = _; rw [h3]; exact k4
   have hg2 : (S.step.1.drop f).at g.nm = some x := by
    rw [hat2, k5]
    rw [at_drop, hfs] at k3
    exact k3
   have hud2 := used_without (n := g.nm) (srt_without (n := f.nm) r.chn.ab.srt)
   refine ⟨h3, h2, h4, h6, rfl, rfl, td2.drop g, ⟨_, j2.drop td2 hg1 hg2 (by omega), by omega⟩, fun y => ?_, by rw [Dsk.vw_drop, e1]; rfl, by rw [Dsk.vw_drop, e1]; rfl⟩
   rw [at_drop, hat2, k5]
 obtain ⟨q1, q2, q3, q4, q5, q6, q7, ⟨l0, q8, q8'⟩, q9, q10, q11⟩ := hS0
 have hno0 : ∀ x, S0.at x ≠ some b := fun x hx => by
  rw [q9] at hx
  split at hx
  ·
   cases hx
  ·
   split at hx
   ·
    cases hx
   ·
    rename_i _ e
    exact e (r.chn.ab.inj (s := x) (t := s) (b := b) hx ha)
 have j3 := q8.file hno0 ⟨t, f.row, f.zs⟩
 have td3 : Td (S0.file b ⟨t, f.row, f.zs⟩) := q7.same rfl
 have hzl := r.zsl b f hfl
 have j4 := j3.put td3 (f := ⟨t, f.row, f.zs⟩) (by show (if _ then _ else _) = _; rw [if_pos rfl]) (by show S0.at t = none; rw [q9, if_pos rfl]) m (by exact hno0) (by show usedF l0 + f.zs.length ≤ _; omega)
 have hv : (S0.named f b t m v rp).vw = ((S.vw.set s none).name b t).set t (some b) := by
  have e2 : (S0.named f b t m v rp).vw = ((S0.file b ⟨t, f.row, f.zs⟩).put m b ⟨t, f.row, f.zs⟩).vw := Dsk.vw_of rfl rfl
  rw [e2, Dsk.vw_put td3.tidy.isMap, Dsk.vw_file]
  refine Vw.ext3 ?_ ?_ ?_
  ·
   funext x
   show (if x = t then some b else S0.at x) = (if x = t then some b else if x = s then none else S.at x)
   rw [q9]
   by_cases e : x = t
   ·
    rw [if_pos e, if_pos e]
   ·
    rw [if_neg e, if_neg e, if_neg e]
  ·
   funext c
   show (if c = b then f.zs else S0.vw.zs c) = S.vw.zs c
   rw [q10]
   by_cases e : c = b
   ·
    rw [if_pos e, e, hzs]
   ·
    rw [if_neg e]
  ·
   funext c
   show (if c = b then t else S0.vw.nm c) = (if c = b then t else S.vw.nm c)
   rw [q11]
 have hc := r.chn.rename s t b ha 0
 rw [← hrp] at hc
 have hl : (S0.named f b t m v rp).loose = S.loose ++ [⟨3, b, 0, s, rp⟩] := by
  show S0.loose ++ [⟨3, b, 0, f.nm, rp⟩] = _
  rw [q3, hfs]
 have j5 : JS (S0.named f b t m v rp) (doF A.now ⟨3, s, t, []⟩) := by
  have j5 : JS (S0.named f b t m v rp) (withF l0 (t, f.zs)) := j4.same rfl rfl rfl
  have e := j5.uniq (m := doF A.now ⟨3, s, t, []⟩) (by rw [hv]; exact hc.ab)
  rw [← e]; exact j5
 have hbig := r.big
 have ht : t.size ≤ 160 := by
  unfold isNm at hn
  simp only [Bool.and_eq_true, decide_eq_true_eq] at hn
  exact hn.2
 refine ⟨q4.trans r.room, r.r0, r.r1, by show A.spent.fuse = max S0.fuse (-1); rw [q5]; exact r1.fuse, by show S0.fuse ≤ _; rw [q5]; exact r1.fb, by show S0.down = _; rw [q6]; exact r1.down, j5.used, j5.size, (td3.put m b _).same rfl, ?_, ?_, fun c g hc => ?_, fun c hc => ?_, fun c g hc => ?_⟩
 ·
  rw [hv, hl, List.reverse_append, List.reverse_singleton, List.singleton_append]
  show Chn _ _ _ _ (A.loose ++ [_]).reverse _
  rw [List.reverse_append, List.reverse_singleton, List.singleton_append]
  exact hc
 ·
  rw [hl, List.length_append, List.length_singleton]
  show S0.n + 1 + 2 * (S.loose.length + 1) ≤ N + 3
  rw [q2]
  omega
 ·
  have hc' : (if c = b then some (⟨t, f.row, f.zs⟩ : Fil) else S0.fl c) = some g := hc
  split at hc'
  ·
   cases hc'; exact ht
  ·
   rw [q1] at hc'; exact r.nms c g hc'
 ·
  rw [hl] at hc
  rcases List.mem_append.1 hc with hc | hc
  ·
   exact r.cnm c hc
  ·
   rw [List.mem_singleton] at hc; subst hc; show s.size ≤ 160; rw [← hfs]; exact r.nms b f hfl
 ·
  have hc' : (if c = b then some (⟨t, f.row, f.zs⟩ : Fil) else S0.fl c) = some g := hc
  split at hc'
  ·
   cases hc'; exact hzl
  ·
   rw [q1] at hc'; exact r.zsl c g hc'
end Go.Proofs.YtihbgigledmliaaGreat

namespace Go.Proofs.YtihbgigledmliaaGreat
open Go.RowKit Go.Maps
set_option linter.unusedVariables false
set_option maxRecDepth 100000 in
set_option maxHeartbeats 8000000 in
theorem dappend_power {B d : Nat} {S : Dsk} {w : World} (h : DK B d S w) (s : ByteArray) (hs : s.size ≤ maxLen) (pa : Option Addr) (n c : Nat) (hd : S.down = false) {b : Nat} (ha : S.at s = some b) (hl : n ≤ 1048576) (hc : ¬ wrap64 (S.room - S.used) < (n : Int)) (hf : S.fuse = 0) : Calls Tryz.prog 44 #[.pointer (some ⟨d, 0, none⟩), .string s, .slice pa n c] w fun e w' => e = .returned (.int .i64 5) ∧ DK B d { S with down := true } w' ∧ Mov S d { S with down := true } w w' := by
 have HF := Lib.hid (dfind_c h s hs)
 rw [show S.find s = (some b, 0) from by unfold Dsk.find; rw [hd, ha]; rfl] at HF
 simp only [ptrOf, Option.map_some] at HF
 have i1 : ¬ (1048576 : Int) < (n : Int) := by omega
 have hfit : decide (wrap64 (S.room - S.used) < (n : Int)) = false := decide_eq_false hc
 clear hc
 have hst : S.step = ({ S with down := true }, 5) := by
  unfold Dsk.step
  rw [if_pos hf]
 have HST := Lib.hid (dstep_c (h.below (Below.refl _ _).drew))
 rw [hst] at HST
 go_enter Tryz.func44, Tryz.ntmps44
 go_wp2_with fail
 refine HF.out.mono ?_
 rintro e1 w1 ⟨rfl, rfl⟩
 go_wp2_with fail
 (try dsimp only [Act.put, sT, sZ, sS])
 have HS := Lib.hid (show World.cell? _ ⟨d, 0, none⟩ = some (.int .i64 S.room) ∧ World.cell? _ ⟨d, 2, none⟩ = some (.int .i64 S.used) from ⟨(h.below (Below.refl _ _).drew).cells.1, (h.below (Below.refl _ _).drew).cells.2.2.1⟩)
 have HL0 := Lib.hid (fun W (hW : World.cell? W ⟨d, 0, none⟩ = some (.int .i64 S.room) ∧ World.cell? W ⟨d, 2, none⟩ = some (.int .i64 S.used)) => run_cell_i W ⟨d, 0, none⟩ _ hW.1)
 have HL2 := Lib.hid (fun W (hW : World.cell? W ⟨d, 0, none⟩ = some (.int .i64 S.room) ∧ World.cell? W ⟨d, 2, none⟩ = some (.int .i64 S.used)) => run_cell_i W ⟨d, 2, none⟩ _ hW.2)
 refine anyH_begin (S := fun W => W.cell? ⟨d, 0, none⟩ = some (.int .i64 S.room) ∧ W.cell? ⟨d, 2, none⟩ = some (.int .i64 S.used)) (by kernel_rfl) ?_
 refine aP 0 (d := 25) (op := .move (.tmp 2)) (.slice pa n c) HS.out ?_
 simp only [Act.put, sT, sZ, sS]
 refine aP 1 (d := 26) (op := .call { callee := .builtin .len, args := #[(.tmp 25)], argTypes := #[38] }) (.int .i64 (n : Int)) HS.out ?_
 simp only [Act.put, sT, sZ, sS]
 refine aP 2 (d := 27) (op := .move (.tmp 0)) (.pointer (some ⟨d, 0, none⟩)) HS.out ?_
 simp only [Act.put, sT, sZ, sS]
 refine aP 3 (d := 28) (op := .nilCheck (.tmp 27)) (.pointer (some ⟨d, 0, none⟩)) HS.out ?_
 simp only [Act.put, sT, sZ, sS]
 refine aP 4 (d := 29) (op := .fieldAddr 80 (.tmp 28) 0) (.pointer (some ⟨d, 0, none⟩)) HS.out ?_
 simp only [Act.put, sT, sZ, sS]
 refine aL 5 (d := 30) (ty := 3) (x := (.tmp 29)) (p := .pointer (some ⟨d, 0, none⟩)) (.int .i64 S.room) HL0.out HS.out ?_
 simp only [Act.put, sT, sZ, sS]
 refine aP 6 (d := 31) (op := .move (.tmp 0)) (.pointer (some ⟨d, 0, none⟩)) HS.out ?_
 simp only [Act.put, sT, sZ, sS]
 refine aP 7 (d := 32) (op := .nilCheck (.tmp 31)) (.pointer (some ⟨d, 0, none⟩)) HS.out ?_
 simp only [Act.put, sT, sZ, sS]
 refine aP 8 (d := 33) (op := .fieldAddr 80 (.tmp 32) 2) (.pointer (some ⟨d, 2, none⟩)) HS.out ?_
 simp only [Act.put, sT, sZ, sS]
 refine aL 9 (d := 34) (ty := 3) (x := (.tmp 33)) (p := .pointer (some ⟨d, 2, none⟩)) (.int .i64 S.used) HL2.out HS.out ?_
 simp only [Act.put, sT, sZ, sS]
 refine anyH_pureG 10 (d := 35) (op := .binOp .sub 3 (.tmp 30) (.tmp 34) 3) (gd := none) (.int .i64 (wrap64 (S.room - S.used))) (by rfl) wantedP (by kernel_rfl) (by kernel_rfl) (by kernel_rfl) (fun _ _ _ h => h) (fun o ho W hW => by unfold execOp; simp only [ho]; go_simp; rw [IntKind.wrap_i64]; unfold wrap64; rfl) HS.out ?_
 simp only [Act.put, sT, sZ, sS]
 refine anyH_pureG 11 (d := 36) (op := .binOp .gtr 3 (.tmp 26) (.tmp 35) 3) (gd := none) (.bool false) (by rfl) wantedP (by kernel_rfl) (by kernel_rfl) (by kernel_rfl) (fun _ _ _ h => h) (fun o ho W hW => by unfold execOp; simp only [ho]; go_simp; try exact hfit) HS.out ?_
 simp only [Act.put, sT, sZ, sS]
 refine aP 12 (d := 24) (op := .assign (.tmp 36)) (.bool false) HS.out ?_
 simp only [Act.put, sT, sZ, sS]
 refine wpAnyH_done (by kernel_rfl) ?_ _
 clear HS HL0 HL2 hfit
 go_wp2_with fail
 refine HST.out.mono ?_
 rintro e3 w3 ⟨rfl, hk3, hm3⟩
 have HM3 := Lib.hid ((Mov.ofBelow (Below.refl _ _).drew).trans hm3)
 have HK3 := Lib.hid hk3
 clear h hk3 hm3 HST HF
 go_wp2_with fail
 go_ret
 exact ⟨rfl, HK3.out, HM3.out⟩
set_option maxRecDepth 100000 in
set_option maxHeartbeats 8000000 in
theorem ddown_c {B d : Nat} {S : Dsk} {w : World} (h : DK B d S w) : Calls Tryz.prog 57 #[.pointer (some ⟨d, 0, none⟩)] w fun e w' => e = .returned (.bool S.down) ∧ w' = w := by
 have c5 := h.cells.2.2.2.2.2
 clear h
 go_enter Tryz.func57, Tryz.ntmps57
 go_wp2_with fail
 go_ret
 exact ⟨rfl, rfl⟩
set_option maxRecDepth 100000 in
set_option maxHeartbeats 8000000 in
theorem dfuse_down {B d : Nat} {S : Dsk} {w : World} (h : DK B d S w) (n : Int) (hd : S.down = true) : Calls Tryz.prog 30 #[.pointer (some ⟨d, 0, none⟩), .int .i64 n] w fun e w' => e = .returned (.int .i64 5) ∧ w' = w := by
 have HR := Lib.hid (dready_c h)
 rw [hd] at HR
 clear h
 go_enter Tryz.func30, Tryz.ntmps30
 go_wp2_with fail
 refine HR.out.mono ?_
 rintro e1 w1 ⟨rfl, rfl⟩
 go_wp2_with fail
 go_ret
 exact ⟨rfl, rfl⟩
set_option maxRecDepth 100000 in
set_option maxHeartbeats 8000000 in
theorem dfuse_ok {B d : Nat} {S : Dsk} {w : World} (h : DK B d S w) (n : Int) (hd : S.down = false) : Calls Tryz.prog 30 #[.pointer (some ⟨d, 0, none⟩), .int .i64 n] w fun e w' => e = .returned (.int .i64 0) ∧ DK B d { S with fuse := n } w' ∧ Mov S d { S with fuse := n } w w' := by
 have HR := Lib.hid (dready_c h)
 rw [hd] at HR
 obtain ⟨k1, m1, _⟩ := h.cellSet 4 (.int .i64 n) { S with fuse := n } rfl (by omega) rfl ⟨rfl, rfl, rfl⟩
 have HK := Lib.hid k1
 have HM := Lib.hid m1
 have c4 := h.cells.2.2.2.2.1
 have f4 := frozen_of_row w d 4 _ _ h.hd
 clear h k1 m1
 go_enter Tryz.func30, Tryz.ntmps30
 go_wp2_with fail
 refine HR.out.mono ?_
 rintro e1 w1 ⟨rfl, rfl⟩
 go_wp2_with fail
 go_ret
 exact ⟨rfl, HK.out, HM.out⟩
set_option maxRecDepth 100000 in
set_option maxHeartbeats 8000000 in
theorem dsize_ok {B d : Nat} {S : Dsk} {w : World} (h : DK B d S w) (s : ByteArray) (hs : s.size ≤ maxLen) (hd : S.down = false) {b : Nat} {f : Fil} (ha : S.at s = some b) (hfl : S.fl b = some f) : Calls Tryz.prog 62 #[.pointer (some ⟨d, 0, none⟩), .string s] w fun e w' => e = .returned (.tuple #[.int .i64 (f.zs.length : Int), .int .i64 0]) ∧ w' = w := by
 have HF := Lib.hid (dfind_c h s hs)
 rw [show S.find s = (some b, 0) from by unfold Dsk.find; rw [hd, ha]; rfl] at HF
 simp only [ptrOf, Option.map_some] at HF
 obtain ⟨ra, rc, hrow, -, -, -⟩ := ((h.rest.hf b f hfl).2.2.1).rd (h.rest.hf b f hfl).2.2.2
 have c1 := (h.rest.fcells hfl).2.trans (congrArg some hrow)
 clear h hrow
 go_enter Tryz.func62, Tryz.ntmps62
 go_wp2_with fail
 refine HF.out.mono ?_
 rintro e1 w1 ⟨rfl, rfl⟩
 go_wp2_with fail
 go_ret2
 exact ⟨rfl, rfl⟩
set_option maxRecDepth 100000 in
set_option maxHeartbeats 8000000 in
theorem dsize_no {B d : Nat} {S : Dsk} {w : World} (h : DK B d S w) (s : ByteArray) (hs : s.size ≤ maxLen) (hn : (S.find s).2 ≠ 0) : Calls Tryz.prog 62 #[.pointer (some ⟨d, 0, none⟩), .string s] w fun e w' => e = .returned (.tuple #[.int .i64 0, .int .i64 (S.find s).2]) ∧ w' = w := by
 have HF := Lib.hid (dfind_c h s hs)
 have hn' : ((S.find s).2 == 0) = false := beq_eq_false_iff_ne.2 hn
 clear h
 obtain ⟨x, hx⟩ : ∃ x, x = (S.find s).2 := ⟨_, rfl⟩
 obtain ⟨y, hy⟩ : ∃ y, y = ptrOf (S.find s).1 := ⟨_, rfl⟩
 rw [← hx] at HF hn hn' ⊢
 rw [← hy] at HF
 clear hx
 have hy' : ∃ z, y = .pointer z := ⟨_, hy⟩
 obtain ⟨z, rfl⟩ := hy'
 clear hy
 go_enter Tryz.func62, Tryz.ntmps62
 go_wp2_with fail
 refine HF.out.mono ?_
 rintro e1 w1 ⟨rfl, rfl⟩
 go_wp2_with fail
 go_ret2
 exact ⟨rfl, rfl⟩
set_option maxRecDepth 100000 in
set_option maxHeartbeats 8000000 in
theorem dread_no {B d : Nat} {S : Dsk} {w : World} (h : DK B d S w) (s : ByteArray) (hs : s.size ≤ maxLen) (x n : Int) (hn : (S.find s).2 ≠ 0) : Calls Tryz.prog 54 #[.pointer (some ⟨d, 0, none⟩), .string s, .int .i64 x, .int .i64 n] w fun e w' => e = .returned (.tuple #[.slice none 0 0, .int .i64 (S.find s).2]) ∧ w' = w := by
 have HF := Lib.hid (dfind_c h s hs)
 have hn' : ((S.find s).2 == 0) = false := beq_eq_false_iff_ne.2 hn
 clear h
 obtain ⟨k, hx⟩ : ∃ k, k = (S.find s).2 := ⟨_, rfl⟩
 obtain ⟨y, hy⟩ : ∃ y, y = ptrOf (S.find s).1 := ⟨_, rfl⟩
 rw [← hx] at HF hn hn' ⊢
 rw [← hy] at HF
 clear hx
 have hy' : ∃ z, y = .pointer z := ⟨_, hy⟩
 obtain ⟨z, rfl⟩ := hy'
 clear hy
 go_enter Tryz.func54, Tryz.ntmps54
 go_wp2_with fail
 refine HF.out.mono ?_
 rintro e1 w1 ⟨rfl, rfl⟩
 go_wp2_with fail
 go_ret2
 exact ⟨rfl, rfl⟩
set_option maxRecDepth 100000 in
set_option maxHeartbeats 8000000 in
theorem dread_bad {B d : Nat} {S : Dsk} {w : World} (h : DK B d S w) (s : ByteArray) (hs : s.size ≤ maxLen) (x n : Int) (hd : S.down = false) {b : Nat} (ha : S.at s = some b) (hb : x < 0 ∨ n < 0) : Calls Tryz.prog 54 #[.pointer (some ⟨d, 0, none⟩), .string s, .int .i64 x, .int .i64 n] w fun e w' => e = .returned (.tuple #[.slice none 0 0, .int .i64 1]) ∧ w' = w := by
 have HF := Lib.hid (dfind_c h s hs)
 rw [show S.find s = (some b, 0) from by unfold Dsk.find; rw [hd, ha]; rfl] at HF
 simp only [ptrOf, Option.map_some] at HF
 clear h
 by_cases i1 : x < 0
 ·
  clear hb
  go_enter Tryz.func54, Tryz.ntmps54
  go_wp2_with fail
  refine HF.out.mono ?_
  rintro e1 w1 ⟨rfl, rfl⟩
  go_wp2_with fail
  go_ret2
  exact ⟨rfl, rfl⟩
 ·
  have i2 : n < 0 := by omega
  clear hb
  go_enter Tryz.func54, Tryz.ntmps54
  go_wp2_with fail
  refine HF.out.mono ?_
  rintro e1 w1 ⟨rfl, rfl⟩
  go_wp2_with fail
  go_ret2
  exact ⟨rfl, rfl⟩
theorem Ad.step_no {A : Ad} {c : DCh} {x : Int} (hd : A.down = false) (hm : A.may c = x) (hx : x ≠ 0) : A.step c = (A, x) := by
 unfold Ad.step
 rw [hd, hm, if_pos hx]; rfl
theorem Ad.step_off {A : Ad} {c : DCh} (hd : A.down = false) (hm : A.may c = 0) (hf : A.fuse = 0) : A.step c = (A.off, 5) := by
 unfold Ad.step
 rw [hd, hm, if_neg (by simp), if_pos hf]; rfl
theorem Ad.step_did {A : Ad} {c : DCh} (hd : A.down = false) (hm : A.may c = 0) (hf : A.fuse ≠ 0) : A.step c = (A.did c, 0) := by
 unfold Ad.step
 rw [hd, hm, if_neg (by simp), if_neg hf]; rfl
theorem Ad.step_down {A : Ad} (c : DCh) (hd : A.down = true) : A.step c = (A, 5) := by unfold Ad.step; rw [if_pos hd]
theorem RA.none {N : Nat} {S : Dsk} {A : Ad} (r : RA N S A) {s : ByteArray} (h : S.at s = none) : lookF A.now s = none := by rw [r.look, h]; rfl
theorem RA.has {N : Nat} {S : Dsk} {A : Ad} (r : RA N S A) {s : ByteArray} {b : Nat} {f : Fil} (h : S.at s = some b) (hf : S.fl b = some f) : lookF A.now s = some f.zs := by rw [r.look, h, Option.map_some, Dsk.zs_of hf]
theorem down_cases (A : Ad) : A.down = true ∨ A.down = false := by cases A.down <;> simp
theorem isNm_cases (s : ByteArray) : isNm s = true ∨ isNm s = false := by cases isNm s <;> simp
theorem acreate {B d N : Nat} {S : Dsk} {A : Ad} {w : World} (h : DK B d S w) (r : RA N S A) (s : ByteArray) (hs : s.size ≤ maxLen) (hN : N < 1000000000) : Calls Tryz.prog 50 #[.pointer (some ⟨d, 0, none⟩), .string s] w fun e w' => e = .returned (.int .i64 (A.step ⟨0, s, ⟨#[]⟩, []⟩).2) ∧ Did B d (N + 3) S w (A.step ⟨0, s, ⟨#[]⟩, []⟩).1 w' := by
 rcases down_cases A with hd | hd
 ·
  rw [Ad.step_down _ hd]
  refine (dcreate_down h s hs (r.down.trans hd)).mono ?_
  rintro e w' ⟨rfl, rfl⟩
  exact ⟨rfl, Did.same h r 3⟩
 have hdS := r.down.trans hd
 have hbig := r.big
 rcases (isNm_cases s).symm with hn | hn
 ·
  rw [Ad.step_no hd (x := 1) (by unfold Ad.may; rw [if_pos rfl, if_pos hn]) (by decide)]
  refine (dcreate_bad h s hs hdS hn).mono ?_
  rintro e w' ⟨rfl, rfl⟩
  exact ⟨rfl, Did.same h r 3⟩
 cases ha : S.at s with
 | some b =>
  obtain ⟨f, hf, hfs⟩ := h.rest.at ha
  rw [Ad.step_no hd (x := 7) (by unfold Ad.may; rw [if_pos rfl, if_neg (by rw [hn]; decide), r.has ha hf]; rfl) (by decide)]
  refine (dcreate_twice h s hs hdS hn ha).mono ?_
  rintro e w' ⟨rfl, rfl⟩
  exact ⟨rfl, Did.same h r 3⟩
 | none =>
  have hlk := r.none ha
  by_cases hz : 4096 ≤ A.now.length
  ·
   rw [Ad.step_no hd (x := 4) (by unfold Ad.may; rw [if_pos rfl, if_neg (by rw [hn]; decide), if_neg (by rw [hlk]; decide), if_pos hz]) (by decide)]
   refine (dcreate_full h s hs hdS hn ha (by rw [r.size]; exact hz)).mono ?_
   rintro e w' ⟨rfl, rfl⟩
   exact ⟨rfl, Did.same h r 3⟩
  have hm : A.may ⟨0, s, ⟨#[]⟩, []⟩ = 0 := by unfold Ad.may; rw [if_pos rfl, if_neg (by rw [hn]; decide), if_neg (by rw [hlk]; decide), if_neg hz]
  by_cases hf : A.fuse = 0
  ·
   rw [Ad.step_off hd hm hf]
   refine (dcreate_power h s hs hdS hn ha (by rw [r.size]; omega) (r.fuse0.2 hf)).mono ?_
   rintro e w' ⟨rfl, k1, k2⟩
   exact ⟨rfl, Did.off k1 r k2 3⟩
  ·
   rw [Ad.step_did hd hm hf]
   have hfS : S.fuse ≠ 0 := fun e => hf (r.fuse0.1 e)
   refine (dcreate_ok h s hs hdS hn ha (by rw [r.size]; omega) hfS (by omega) (by omega)).mono ?_
   rintro e w' ⟨rfl, b, m, v, hb, k1, k2⟩
   exact ⟨rfl, _, k1, r.create h s hn ha hfS b m v hb, k2⟩
theorem find_none {S : Dsk} {s : ByteArray} (hd : S.down = false) (ha : S.at s = none) : S.find s = (none, 6) := by unfold Dsk.find; rw [hd, ha]; rfl
theorem find_down {S : Dsk} {s : ByteArray} (hd : S.down = true) : S.find s = (none, 5) := by unfold Dsk.find; rw [hd]; rfl
theorem aappend {B d N : Nat} {S : Dsk} {A : Ad} {w : World} (h : DK B d S w) (r : RA N S A) (s : ByteArray) (hs : s.size ≤ maxLen) (pa : Option Addr) (n c : Nat) (ps : List Nat) (hr : RdN S d w pa n c ps) (hN : N < 1000000000) : Calls Tryz.prog 44 #[.pointer (some ⟨d, 0, none⟩), .string s, .slice pa n c] w fun e w' => e = .returned (.int .i64 (A.step ⟨1, s, ⟨#[]⟩, ps⟩).2) ∧ Did B d (N + 3) S w (A.step ⟨1, s, ⟨#[]⟩, ps⟩).1 w' := by
 have hpl : ps.length = n := hr.rd.1
 have hbig := r.big
 rcases down_cases A with hd | hd
 ·
  rw [Ad.step_down _ hd]
  have hf := find_down (s := s) (r.down.trans hd)
  refine (dappend_no h s hs pa n c (by rw [hf]; decide)).mono ?_
  rw [hf]
  rintro e w' ⟨rfl, rfl⟩
  exact ⟨rfl, Did.same h r 3⟩
 have hdS := r.down.trans hd
 cases ha : S.at s with
 | none =>
  rw [Ad.step_no hd (x := 6) (by unfold Ad.may; rw [if_neg (show ¬ (1 : Nat) = 0 by decide), r.none ha]; rfl) (by decide)]
  have hf := find_none hdS ha
  refine (dappend_no h s hs pa n c (by rw [hf]; decide)).mono ?_
  rw [hf]
  rintro e w' ⟨rfl, rfl⟩
  exact ⟨rfl, Did.same h r 3⟩
 | some b =>
  obtain ⟨f, hfl, hfs⟩ := h.rest.at ha
  have hlk := r.has ha hfl
  have m0 : A.may ⟨1, s, ⟨#[]⟩, ps⟩ = (if 1048576 < ps.length then 8 else if A.room - (usedF A.now : Int) < (ps.length : Int) then 4 else 0) := by
   unfold Ad.may
   rw [if_neg (show ¬ (1 : Nat) = 0 by decide), if_neg (by rw [hlk]; simp), if_pos rfl]
  by_cases hl : 1048576 < n
  ·
   rw [Ad.step_no hd (x := 8) (by rw [m0, if_pos (by omega)]) (by decide)]
   refine (dappend_long h s hs pa n c hdS ha hl).mono ?_
   rintro e w' ⟨rfl, rfl⟩
   exact ⟨rfl, Did.same h r 3⟩
  have hu := r.uR
  have hr1 := r.r1
  have hr0 := r.r0
  have hw : wrap64 (S.room - S.used) = A.room - (usedF A.now : Int) := by rw [r.room, r.used, wrap64_id (by omega) (by omega)]
  by_cases hc : A.room - (usedF A.now : Int) < (n : Int)
  ·
   rw [Ad.step_no hd (x := 4) (by rw [m0, if_neg (by omega), if_pos (by omega)]) (by decide)]
   refine (dappend_full h s hs pa n c hdS ha (by omega) (by rw [hw]; exact hc)).mono ?_
   rintro e w' ⟨rfl, hb⟩
   exact ⟨rfl, S, h.below hb, r.mono (by omega), Mov.ofBelow hb⟩
  have hm : A.may ⟨1, s, ⟨#[]⟩, ps⟩ = 0 := by rw [m0, if_neg (by omega), if_neg (by omega)]
  by_cases hf : A.fuse = 0
  ·
   rw [Ad.step_off hd hm hf]
   refine (dappend_power h s hs pa n c hdS ha (by omega) (by rw [hw]; exact hc) (r.fuse0.2 hf)).mono ?_
   rintro e w' ⟨rfl, k1, k2⟩
   exact ⟨rfl, Did.off k1 r k2 3⟩
  ·
   rw [Ad.step_did hd hm hf]
   have hfS : S.fuse ≠ 0 := fun e => hf (r.fuse0.1 e)
   refine (dappend_ok h s hs pa n c ps hdS ha hfl (by omega) (by rw [hw]; exact hc) hfS (by omega) (by have := r.zsl b f hfl; omega) hr).mono ?_
   rintro e w' ⟨rfl, v, v', k1, k2⟩
   exact ⟨rfl, _, k1, r.append s ha hfl ps (by omega) (by omega) hfS v v', k2⟩
theorem aremove {B d N : Nat} {S : Dsk} {A : Ad} {w : World} (h : DK B d S w) (r : RA N S A) (s : ByteArray) (hs : s.size ≤ maxLen) (hN : N < 1000000000) : Calls Tryz.prog 51 #[.pointer (some ⟨d, 0, none⟩), .string s] w fun e w' => e = .returned (.int .i64 (A.step ⟨2, s, ⟨#[]⟩, []⟩).2) ∧ Did B d (N + 3) S w (A.step ⟨2, s, ⟨#[]⟩, []⟩).1 w' := by
 have hbig := r.big
 rcases down_cases A with hd | hd
 ·
  rw [Ad.step_down _ hd]
  have hf := find_down (s := s) (r.down.trans hd)
  refine (dremove_no h s hs (by rw [hf]; decide)).mono ?_
  rw [hf]
  rintro e w' ⟨rfl, rfl⟩
  exact ⟨rfl, Did.same h r 3⟩
 have hdS := r.down.trans hd
 cases ha : S.at s with
 | none =>
  rw [Ad.step_no hd (x := 6) (by unfold Ad.may; rw [if_neg (show ¬ (2 : Nat) = 0 by decide), r.none ha]; rfl) (by decide)]
  have hf := find_none hdS ha
  refine (dremove_no h s hs (by rw [hf]; decide)).mono ?_
  rw [hf]
  rintro e w' ⟨rfl, rfl⟩
  exact ⟨rfl, Did.same h r 3⟩
 | some b =>
  obtain ⟨f, hfl, hfs⟩ := h.rest.at ha
  have hlk := r.has ha hfl
  have hm : A.may ⟨2, s, ⟨#[]⟩, []⟩ = 0 := by
   unfold Ad.may
   rw [if_neg (show ¬ (2 : Nat) = 0 by decide), if_neg (by rw [hlk]; simp), if_neg (show ¬ (2 : Nat) = 1 by decide), if_neg (fun k => absurd k.1 (show ¬ (2 : Nat) = 3 by decide))]
  by_cases hf : A.fuse = 0
  ·
   rw [Ad.step_off hd hm hf]
   refine (dremove_power h s hs hdS ha (r.fuse0.2 hf)).mono ?_
   rintro e w' ⟨rfl, k1, k2⟩
   exact ⟨rfl, Did.off k1 r k2 3⟩
  ·
   rw [Ad.step_did hd hm hf]
   have hfS : S.fuse ≠ 0 := fun e => hf (r.fuse0.1 e)
   refine (dremove_ok h s hs hdS ha hfl hfS (by omega)).mono ?_
   rintro e w' ⟨rfl, v, k1, k2⟩
   exact ⟨rfl, _, k1, r.remove s ha hfl hfs hfS v, k2⟩
theorem arename {B d N : Nat} {S : Dsk} {A : Ad} {w : World} (h : DK B d S w) (r : RA N S A) (s t : ByteArray) (hs : s.size ≤ maxLen) (ht : t.size ≤ maxLen) (hN : N < 1000000000) : Calls Tryz.prog 52 #[.pointer (some ⟨d, 0, none⟩), .string s, .string t] w fun e w' => e = .returned (.int .i64 (A.step ⟨3, s, t, []⟩).2) ∧ Did B d (N + 3) S w (A.step ⟨3, s, t, []⟩).1 w' := by
 have hbig := r.big
 rcases down_cases A with hd | hd
 ·
  rw [Ad.step_down _ hd]
  have hf := find_down (s := s) (r.down.trans hd)
  refine (drename_no h s t hs ht (by rw [hf]; decide)).mono ?_
  rw [hf]
  rintro e w' ⟨rfl, rfl⟩
  exact ⟨rfl, Did.same h r 3⟩
 have hdS := r.down.trans hd
 cases ha : S.at s with
 | none =>
  rw [Ad.step_no hd (x := 6) (by unfold Ad.may; rw [if_neg (show ¬ (3 : Nat) = 0 by decide), r.none ha]; rfl) (by decide)]
  have hf := find_none hdS ha
  refine (drename_no h s t hs ht (by rw [hf]; decide)).mono ?_
  rw [hf]
  rintro e w' ⟨rfl, rfl⟩
  exact ⟨rfl, Did.same h r 3⟩
 | some b =>
  obtain ⟨f, hfl, hfs⟩ := h.rest.at ha
  have hlk := r.has ha hfl
  have m0 : A.may ⟨3, s, t, []⟩ = (if (3 : Nat) = 3 ∧ isNm t = false then 1 else 0) := by
   unfold Ad.may
   rw [if_neg (show ¬ (3 : Nat) = 0 by decide), if_neg (by rw [hlk]; simp), if_neg (show ¬ (3 : Nat) = 1 by decide)]
  rcases (isNm_cases t).symm with hn | hn
  ·
   rw [Ad.step_no hd (x := 1) (by rw [m0, if_pos ⟨rfl, hn⟩]) (by decide)]
   refine (drename_bad h s t hs ht hdS ha hn).mono ?_
   rintro e w' ⟨rfl, rfl⟩
   exact ⟨rfl, Did.same h r 3⟩
  have hm : A.may ⟨3, s, t, []⟩ = 0 := by rw [m0, if_neg (fun k => by rw [hn] at k; exact absurd k.2 (by decide))]
  by_cases hf : A.fuse = 0
  ·
   rw [Ad.step_off hd hm hf]
   refine (drename_power h s t hs ht hdS ha hn (r.fuse0.2 hf)).mono ?_
   rintro e w' ⟨rfl, k1, k2⟩
   exact ⟨rfl, Did.off k1 r k2 3⟩
  ·
   rw [Ad.step_did hd hm hf]
   have hfS : S.fuse ≠ 0 := fun e => hf (r.fuse0.1 e)
   cases hx : (S.drop f).at t with
   | none =>
    refine (drename_ok h s t hs ht hdS ha hfl hn hfS (by omega) (by omega) hx).mono ?_
    rintro e w' ⟨rfl, m, v, k1, k2⟩
    exact ⟨rfl, _, k1, r.rename s t hn ha hfl hfs hfS _ _ m v (.inl ⟨rfl, rfl, hx⟩), k2⟩
   | some x =>
    have hx' : S.at t = some x := by
     rw [at_drop] at hx
     split at hx
     ·
      cases hx
     ·
      exact hx
    obtain ⟨g, hg, hgn⟩ := h.rest.at hx'
    refine (drename_over h s t hs ht hdS ha hfl hn hfS (by omega) (by omega) hx hg).mono ?_
    rintro e w' ⟨rfl, m, v, k1, k2⟩
    exact ⟨rfl, _, k1, r.rename s t hn ha hfl hfs hfS _ _ m v (.inr ⟨x, g, rfl, rfl, hx, hg, hgn⟩), k2⟩
theorem async {B d N : Nat} {S : Dsk} {A : Ad} {w : World} (h : DK B d S w) (r : RA N S A) : Calls Tryz.prog 47 #[.pointer (some ⟨d, 0, none⟩)] w fun e w' => e = .returned (.int .i64 A.sync.2) ∧ Did B d N S w A.sync.1 w' := by
 rcases down_cases A with hd | hd
 ·
  rw [show A.sync = (A, 5) by unfold Ad.sync; rw [if_pos hd]]
  refine (dsync_down h (r.down.trans hd)).mono ?_
  rintro e w' ⟨rfl, rfl⟩
  exact ⟨rfl, Did.same h r 0⟩
 have hdS := r.down.trans hd
 by_cases hf : A.fuse = 0
 ·
  rw [show A.sync = (A.off, 5) by unfold Ad.sync; rw [hd, if_pos hf]; rfl]
  refine (dsync_power h hdS (r.fuse0.2 hf)).mono ?_
  rintro e w' ⟨rfl, k1, k2⟩
  exact ⟨rfl, Did.off k1 r k2 0⟩
 ·
  rw [show A.sync = ({ A.spent with sure := A.now, loose := [] }, 0) by unfold Ad.sync; rw [hd, if_neg hf]; rfl]
  have hfS : S.fuse ≠ 0 := fun e => hf (r.fuse0.1 e)
  refine (dsync_ok h hdS hfS).mono ?_
  rintro e w' ⟨rfl, k1, k2⟩
  exact ⟨rfl, _, k1, r.sync hfS, k2⟩
def Ad.fused (A : Ad) (n : Int) : Ad × Int := if A.down then (A, 5) else ({ A with fuse := max n (-1) }, 0)
theorem afuse {B d N : Nat} {S : Dsk} {A : Ad} {w : World} (h : DK B d S w) (r : RA N S A) (n : Int) (hn : n ≤ 9223372036854775807) : Calls Tryz.prog 30 #[.pointer (some ⟨d, 0, none⟩), .int .i64 n] w fun e w' => e = .returned (.int .i64 (A.fused n).2) ∧ Did B d N S w (A.fused n).1 w' := by
 rcases down_cases A with hd | hd
 ·
  rw [show A.fused n = (A, 5) by unfold Ad.fused; rw [if_pos hd]]
  refine (dfuse_down h n (r.down.trans hd)).mono ?_
  rintro e w' ⟨rfl, rfl⟩
  exact ⟨rfl, Did.same h r 0⟩
 ·
  rw [show A.fused n = ({ A with fuse := max n (-1) }, 0) by unfold Ad.fused; rw [hd]; rfl]
  refine (dfuse_ok h n (r.down.trans hd)).mono ?_
  rintro e w' ⟨rfl, k1, k2⟩
  exact ⟨rfl, _, k1, ⟨r.room, r.r0, r.r1, rfl, hn, r.down, r.used, r.size, r.td.same rfl, by
   have e : ({ S with fuse := n } : Dsk).vw = S.vw := Dsk.vw_of rfl rfl
   rw [e]; exact r.chn, r.big, r.nms, r.cnm, r.zsl⟩, k2⟩
theorem RA.loose {N : Nat} {S : Dsk} {A : Ad} (r : RA N S A) : S.loose.length = A.loose.length := by
 have := r.chn.len
 rwa [List.length_reverse, List.length_reverse] at this
theorem anewS (room : Int) (h0 : 0 ≤ room) (h1 : room ≤ 67108864) : RA 0 (newS room) ⟨room, -1, false, [], [], []⟩ :=
 ⟨rfl, h0, h1, rfl, by show (-1 : Int) ≤ _; omega, rfl, rfl, rfl, ⟨tidy_empty, fun s => rfl⟩, .nil ⟨fun s => rfl, fun s b h => (by cases h), List.Pairwise.nil⟩ (by show (0 : Nat) ≤ _; omega), by show 0 + 2 * 0 ≤ 0; omega, fun b f h => (by cases h), fun c h => (by cases h), fun b f h => (by cases h)⟩
end Go.Proofs.YtihbgigledmliaaGreat

namespace Go.Proofs.YtihbgigledmliaaGreat
open Go.RowKit Go.Maps Go.Sort
set_option linter.unusedVariables false
theorem info_str : (Tryz.prog.info? 9).map (fun i => (i.zero, i.size, i.bytes)) = some (some (.string ⟨#[]⟩), 1, 16) := by kernel_rfl
/-- a row of strings that the call owns -/
abbrev OwnS (w : World) (B : Nat) (v : Value) (cs : List ByteArray) : Prop := w.ownsRow B 9 1 v cs.length (cs.map Value.string)
theorem wpList_pushS {w : World} {ops : Array Oper} {rest : List Oper} {o : Oper} {a : Act} {Q : Exit → Act → World → Prop} (hgd : o.guard = none) (s x : Operand)
  (ho : o.op = .call { callee := .builtin .append, args := #[s, x], argTypes := #[111, 111] })
  (B : Nat) (v : Value) (cs : List ByteArray) (y : ByteArray) (hs : a.eval s = v) (hown : OwnS w B v cs) (hB : B ≤ w.heap.size) (hx : a.eval x = .slice (some ⟨w.heap.size, 0, none⟩) 1 1)
  (hlen : cs.length + 1 ≤ 1000000000)
  (h : ∀ v' w', OwnS w' B v' (cs ++ [y]) → (w.alloc (.cells #[.string y] 9)).grownBy w' v.ownBlock → wpList Tryz.prog ops Q rest (a.put o.dst v') w') :
  wpList Tryz.prog ops Q (o :: rest) a (w.alloc (.cells #[.string y] 9)) := by
 obtain ⟨i0, hi, hz0, hz1, hz2⟩ := info_parts info_str
 have hal : OwnS (w.alloc (.cells #[.string y] 9)) B v cs := World.ownsRow.alloc hown _
 refine wpList_append_own _ hgd s x 111 ho B 9 i0 (.string ⟨#[]⟩) 1 16 Tryz.underlying111 hi hz0 hz1 hz2 rfl (by decide) v cs.length (cs.map Value.string) hs hal ⟨w.heap.size, 0, none⟩ 1 1 [.string y] hx rfl ?_ ?_ (by unfold maxLen; omega) (by omega) (by simp; omega) ?_
 ·
  intro j u hj
  rw [Addr.add_mid, Nat.zero_add, cell_of_row _ _ _ _ _ _ (heap_new _ _)]
  simpa using hj
 ·
  intro u hu
  simp only [List.mem_singleton] at hu
  subst hu; rfl
 ·
  intro v' w' h1 h2 _
  refine h v' w' ?_ h2
  have e : (cs ++ [y]).length = cs.length + 1 := by simp
  unfold OwnS
  rw [e, List.map_append]
  exact h1
def hasP (head s : ByteArray) : Bool := Lib.hasPrefix s.data.toList head.data.toList
/-- the names that begin so, in order -/
def namesF (l : Fls) (head : ByteArray) : List ByteArray := (l.map (·.1)).filter (hasP head)
theorem srt_map : ∀ {l : Fls} (head : ByteArray), Srt l → (namesF l head).Pairwise (fun a b => a.data.toList < b.data.toList)
 | l, head, h => by
  unfold namesF
  exact (List.pairwise_map.2 h).filter _
theorem mem_namesF {l : Fls} {head s : ByteArray} : s ∈ namesF l head ↔ (lookF l s).isSome = true ∧ hasP head s = true := by
 unfold namesF
 rw [List.mem_filter, List.mem_map]
 constructor
 ·
  rintro ⟨⟨x, hx, rfl⟩, hp⟩
  refine ⟨?_, hp⟩
  cases e : lookF l x.1 with
  | some z => rfl
  | none => exact absurd rfl (lookF_none e x hx)
 ·
  rintro ⟨hl, hp⟩
  cases e : lookF l s with
  | none => rw [e] at hl; cases hl
  | some z => exact ⟨⟨(s, z), lookF_mem e, rfl⟩, hp⟩
theorem names_sorted {l : Fls} {head : ByteArray} {cs : List ByteArray} (hs : Srt l) (hn : cs.Nodup) (hm : ∀ s, s ∈ cs ↔ (lookF l s).isSome = true ∧ hasP head s = true) : (cs.map (·.data.toList)).mergeSort (fun x y => decide (x ≤ y)) = (namesF l head).map (·.data.toList) := by
 have inj : ∀ a b : ByteArray, a.data.toList = b.data.toList → a = b := fun a b => ba_ext
 have hp := srt_map head hs
 have hp2 : ((namesF l head).map (·.data.toList)).Pairwise (fun a b => a < b) := List.pairwise_map.2 hp
 have hnd : (namesF l head).Nodup := hp.imp fun {a b} h e => by rw [e] at h; exact List.lt_irrefl _ h
 have hperm : cs.Perm (namesF l head) := (List.perm_ext_iff_of_nodup hn hnd).2 fun s => (hm s).trans mem_namesF.symm
 refine List.Perm.eq_of_pairwise (le := fun a b => decide (a ≤ b) = true) (fun a b _ _ h1 h2 => ?_) (List.pairwise_mergeSort (fun a b c h1 h2 => ?_) (fun a b => ?_) _) (hp2.imp fun {a b} h => ?_) ((List.mergeSort_perm _ _).trans (hperm.map _))
 ·
  simp only [decide_eq_true_eq] at h1 h2
  exact List.le_antisymm h1 h2
 ·
  simp only [decide_eq_true_eq] at h1 h2 ⊢
  exact List.le_trans h1 h2
 ·
  simp only [Bool.or_eq_true, decide_eq_true_eq]
  exact List.le_total a b
 ·
  simp only [decide_eq_true_eq]
  exact List.le_of_lt h
/-- what Names answers -/
def NmT (l : Fls) (head : ByteArray) (w : World) (e : Ending) (w' : World) : Prop := ∃ a n c, e = .returned (.tuple #[.slice a n c, .int .i64 0]) ∧ OwnS w' w.heap.size (.slice a n c) (namesF l head) ∧ n = (namesF l head).length ∧ Below w.heap.size w w'
/-- so far as the map has told its names -/
structure NmR (S : Dsk) (head : ByteArray) (b : Nat) (w : World) (v : Value) (wr : World) : Prop where
 ex : ∃ left cnt cs, wr.ranges Tryz.prog 9 fileR b w.heap.size S.n S.D left cnt ∧ OwnS wr (w.heap.size + 1) v cs ∧ cs.Nodup ∧ (∀ s, s ∈ cs ↔ (S.at s).isSome = true ∧ left (keyS s) = false ∧ hasP head s = true) ∧ cs.length + cnt ≤ Maps.size S.D
 bel : Below w.heap.size w wr
 sz : w.heap.size + 1 ≤ wr.heap.size
theorem keyS_same (s x : ByteArray) : (keyS s).sameKey (keyS x) = decide (s = x) := by
 by_cases e : s = x
 ·
  subst e
  rw [decide_eq_true rfl]
  exact WideAt.sameKey_self (a := keyS s) (by trivial)
 ·
  rw [decide_eq_false e]
  cases h : (keyS s).sameKey (keyS x) with
  | false => rfl
  | true => exact absurd (keyS_inj (WideAt.sameKey_eq h)) e
theorem NmR.start {B d : Nat} {S : Dsk} {b : Nat} {w w0 : World} (head : ByteArray) (h : DK B d S w) (hrg : w0.ranges Tryz.prog 9 fileR b w.heap.size S.n S.D (Maps.has S.D) (Maps.size S.D)) (hg : w.grownBy w0 none) (hs : w0.heap.size = w.heap.size + 1) : NmR S head b w (.slice none 0 0) w0 :=
 ⟨⟨_, _, [], hrg, World.ownsRow_nil _ _ _ _, List.nodup_nil, fun s => ⟨fun h => (by cases h), fun ⟨h1, h2, _⟩ => (by rw [h.rest.has, h1] at h2; cases h2)⟩, by simp⟩, (Below.refl _ _).grown hg (Nat.le_refl _) (by simp), by omega⟩
theorem fileR_invP (v : Value) (y : DU × List MemPlace) (h : fileR v = some y) : ∃ c : Option Nat, v = ptrOf c := by
 rcases fileR_inv (d := y.1) (ps := y.2) h with ⟨rfl, _⟩ | ⟨b, rfl, _⟩
 ·
  exact ⟨none, rfl⟩
 ·
  exact ⟨some b, rfl⟩
/-- the iterator has told a name -/
theorem NmR.told {B d : Nat} {S : Dsk} {b : Nat} {w w1 : World} {head : ByteArray} {left : Lit → Bool} {cnt1 : Nat} {cs : List ByteArray} {x : ByteArray} {kl : Lit} (h : DK B d S w) (hkey : keyOf Tryz.prog 9 (.string x) = some kl) (hl : left kl = true) {y : DU × List MemPlace} (hat : ∀ zd, S.D.atKey kl zd = y.1)
  (hrg1 : w1.ranges Tryz.prog 9 fileR b w.heap.size S.n S.D (fun z => left z && !z.sameKey kl) cnt1) (hmem : ∀ s, s ∈ cs ↔ (S.at s).isSome = true ∧ left (keyS s) = false ∧ hasP head s = true) (p : Bool) (hp : hasP head x = p) :
  kl = keyS x ∧ (S.at x).isSome = true ∧ x ∉ cs ∧ (∀ s, s ∈ (if p then cs ++ [x] else cs) ↔ (S.at s).isSome = true ∧ (fun z : Lit => left z && !z.sameKey kl) (keyS s) = false ∧ hasP head s = true) := by
 obtain ⟨s, e1, e2, e3⟩ := WideMaps.string_of_keyOf Tryz.underlying9 hkey
 obtain rfl : x = s := by simpa using e1
 have ek : kl = keyS x := e2
 subst ek
 have hax : (S.at x).isSome = true := by
  rw [← h.rest.has]
  cases hh : Maps.has S.D (keyS x) with
  | true => rfl
  | false =>
   have a1 := hat .nil
   have a2 := hat (.lit (.bool true))
   rw [atKey_of_not_has hh] at a1 a2
   rw [← a1] at a2
   cases a2
 have hnx : x ∉ cs := fun hm => by
  have := ((hmem x).1 hm).2.1
  rw [hl] at this
  cases this
 refine ⟨rfl, hax, hnx, fun s => ?_⟩
 simp only [keyS_same]
 by_cases es : s = x
 ·
  subst es
  cases p with
  | true => simp [hax, hp]
  | false => simp [hnx, hax, hp]
 ·
  have h1 := hmem s
  cases p with
  | true => simp [es, h1]
  | false => simp [es, h1]
set_option maxRecDepth 100000 in
set_option maxHeartbeats 8000000 in
theorem dnames_loop {B d m : Nat} {S : Dsk} {w : World} (h : DK B d S w) (hd : S.down = false) (hm : S.mb = some m) (head : ByteArray) (hz : Maps.size S.D ≤ 100000) (hns : ∀ s, (S.at s).isSome = true → s.size ≤ 160) {l : Fls} (hl : JS S l) :
  Calls Tryz.prog 61 #[.pointer (some ⟨d, 0, none⟩), .string head] w (NmT l head w) := by
 have HR := Lib.hid (dready_c h)
 rw [hd] at HR
 have c1 := h.cells.2.1
 rw [hm] at c1
 have hmap : w.ownsMap Tryz.prog 9 fileR m S.n S.D := by
  rcases h.rest.hm with ⟨h0, _⟩ | ⟨b, h2, _, h4⟩
  ·
   rw [hm] at h0; cases h0
  ·
   rw [hm] at h2; cases h2; exact h4
 have HNS := Lib.hid hns
 have HL := Lib.hid hl
 have HZ := Lib.hid hz
 have HDK := Lib.hid h
 have HOM := Lib.hid hmap
 have hmw := hmap.lt
 clear h hmap hns hl hz
 go_enter Tryz.func61, Tryz.ntmps61
 go_wp2_with fail
 refine HR.out.mono ?_
 rintro e1 w1 ⟨rfl, rfl⟩
 go_wp2_with (first | (at_range; refine wpList_range_own _ rfl _ 77 rfl 9 143 mapLaw Tryz.underlying77 fileR m S.n S.D rfl HOM.out ?_; intro w0 hrg0 hg0 hs0) | fail)
 have HI := Lib.hid (NmR.start head HDK.out hrg0 hg0 hs0)
 clear hrg0 hg0 hs0 HR
 go_frame
 go_loopw [7] (fun v wr => Hid (NmR S head m w1 v wr)) (fun _ wr => wr.rangeLeft m w1.heap.size)
 case atStart => exact HI
 case round =>
  clear HI
  have HS := hrel
  obtain ⟨left, cnt, cs, hrg, hown, hnd, hmem, hcl⟩ := HS.out.ex
  have HCL := Lib.hid hcl
  have HRG := Lib.hid hrg
  have HOW := Lib.hid hown
  have HND := Lib.hid hnd
  have HMEM := Lib.hid hmem
  clear hrg hown hnd hmem hcl
  go_wp2_with (first | (at_next; refine wpList_next_ranges _ rfl _ rfl 9 mapLaw fileR Value.string ptrOf (fun key kl hk => by obtain ⟨s, e1, _, _⟩ := WideMaps.string_of_keyOf Tryz.underlying9 hk; exact ⟨s, e1⟩) fileR_invP m w1.heap.size S.n S.D left cnt rfl HRG.out ?_ ?_) | fail)
  ·
   intro hc0 hl0
   have HL0 := Lib.hid hl0
   clear hl0
   have hB := HS.out.bel
   rcases HOW.out.2 with ⟨e7, h0⟩ | ⟨g, cap, cur, e7, hbase, hb, h1, h2, h3, h4⟩
   ·
    subst e7
    have hcs : cs = [] := List.eq_nil_of_length_eq_zero h0
    have HB := Lib.hid hB
    have HF := Lib.hid (show namesF l head = [] from by
     have := names_sorted HL.out.ab.srt HND.out (head := head) (fun s => (HMEM.out s).trans (by rw [← HL.out.ab.look s, HL0.out]; simp [Dsk.vw]))
     rw [hcs] at this
     have h := congrArg List.length this
     simp only [List.length_map, List.map_nil, List.mergeSort_nil, List.length_nil] at h
     exact List.eq_nil_of_length_eq_zero h.symm)
    clear hB h0 hcs
    go_wp2_with fail
    refine (slices_Sort_string_none none 0 wr).mono ?_
    rintro e3 w3 ⟨rfl, rfl⟩
    go_wp2_with fail
    go_ret2
    refine ⟨none, 0, 0, rfl, ?_, ?_, HB.out⟩
    ·
     rw [HF.out]; exact World.ownsRow_nil _ _ _ _
    ·
     rw [HF.out]; rfl
   ·
    subst e7
    have hh : Holds Go.Proofs.encStr wr g 0 (cs.map (·.data.toList)).toArray := holds_of_block hb (by rw [List.length_map, List.map_map]; rw [Nat.mul_one] at h4; exact h4)
    have hgs := (Array.getElem?_eq_some_iff.1 hb).1
    have hcc := HCL.out
    have hzz := HZ.out
    have HSO := Lib.hid (slices_Sort_string g 0 cap (cs.map (·.data.toList)) wr hh hgs (by rw [List.length_map]; omega))
    rw [List.length_map] at HSO
    have HB := Lib.hid hB
    have HBL := Lib.hid (show w1.heap.size + 1 ≤ g ∧ wr.heap[g]? = some (.cells cur 9 (0, 0)) ∧ cs.length ≤ cap ∧ cap ≤ maxLen ∧ cur.size = cap * 1 from ⟨hbase, hb, h1, h2, h3⟩)
    have HF := Lib.hid (names_sorted HL.out.ab.srt HND.out (head := head) (fun s => (HMEM.out s).trans (by rw [← HL.out.ab.look s, HL0.out]; simp [Dsk.vw])))
    clear hB hbase hb h1 h2 h3 h4 hh hgs hcc hzz
    go_wp2_with fail
    refine HSO.out.mono ?_
    rintro e3 w3 ⟨rfl, q, os, hw3⟩
    have HW3 := Lib.hid hw3
    clear hw3
    go_wp2_with fail
    go_ret2
    obtain ⟨k1, k2, k3, k4, k5⟩ := HBL.out
    have hlen : (namesF l head).length = cs.length := by
     have h := congrArg List.length HF.out
     simp only [List.length_map, List.length_mergeSort] at h
     exact h.symm
    refine ⟨_, _, _, rfl, ?_, hlen.symm, ?_⟩
    ·
     rw [HW3.out, HF.out]
     have ho := ownsRow_sorted (w := wr) (base := w1.heap.size) (g := g) (cap := cap) (n := q) (os := os) (ss := cs.map (·.data.toList)) (ts := (namesF l head).map (·.data.toList)) (by rw [List.length_map, List.length_map, hlen]) (by omega) k2 (by rw [List.length_map]; exact k3) k4 k5
     rw [List.length_map, List.map_map] at ho
     unfold OwnS
     rw [hlen]
     exact ho
    ·
     rw [HW3.out]
     exact HB.out.grown (grownBy_sorted _) HB.out.size (fun k hk => by have := Option.some.inj hk; omega)
  ·
   intro x c kl y ps w2 cnt1 hkey hlk hv hat hrg1 hlt hg1 hs1 hen
   obtain ⟨hp, hpe⟩ : ∃ p, hasP head x = p := ⟨_, rfl⟩
   have hsz2 : w1.heap.size + 1 ≤ w2.heap.size := by rw [hs1]; exact HS.out.sz
   obtain ⟨hkl, hax, hnx, hmem2⟩ := NmR.told (y := (y, ps)) HDK.out hkey hlk hat hrg1 HMEM.out hp hpe
   have hb2 : Below w1.heap.size w1 w2 := HS.out.bel.trans ⟨hg1.os, hg1.tape, hg1.output, hg1.size, fun k hk => hg1.block k (Nat.lt_of_lt_of_le hk HS.out.bel.size) fun e => by have := Option.some.inj e; omega⟩
   have hne := row_ne_iter HOW.out HRG.out
   have hown2 : OwnS w2 (w1.heap.size + 1) u7 cs := row_keep HOW.out fun k hk => hg1.block k (World.ownsRow.lt HOW.out k hk).2 fun e => hne (by rw [← e]; exact hk.symm)
   have HOW2 := Lib.hid hown2
   have HRG2 := Lib.hid hrg1
   have HB2 := Lib.hid hb2
   have HM2 := Lib.hid hmem2
   have HNX := Lib.hid hnx
   have HXS := Lib.hid (HNS.out x hax)
   have HC2 := Lib.hid (show cs.length + 1 + cnt1 ≤ Maps.size S.D by have := HCL.out; omega)
   have HLT := Lib.hid (show w2.rangeLeft m w1.heap.size < wr.rangeLeft m w1.heap.size by rw [hrg1.left_eq, HRG.out.left_eq]; exact hlt)
   have HPE := Lib.hid hpe
   have HSZ := Lib.hid hsz2
   clear hkey hlk hv hat hrg1 hlt hg1 hs1 hpe hsz2 hkl hax hnx hmem2 hb2 hne hown2 HS HRG HOW HMEM hrel
   cases hp with
   | true =>
    go_wp2_with fail
    refine (strings_HasPrefix x head w2).mono ?_
    rintro e3 w3 ⟨rfl, rfl⟩
    rw [show Lib.hasPrefix x.data.toList head.data.toList = true from HPE.out]
    go_wp2_with fail
    refine (clone_c x w3 (Nat.le_trans HXS.out (by unfold maxLen; omega)) HXS.out).mono ?_
    rintro e4 w4 ⟨rfl, hb4⟩
    have HOW4 := Lib.hid (show OwnS w4 (w1.heap.size + 1) u7 cs from row_keep HOW2.out fun k hk => hb4.block k (World.ownsRow.lt HOW2.out k hk).2)
    have HRG4 := Lib.hid (show w4.ranges Tryz.prog 9 fileR m w1.heap.size S.n S.D _ cnt1 from HRG2.out.kept (row := none) ⟨hb4.os, hb4.tape, hb4.output, hb4.size, fun k hk _ => hb4.block k hk⟩ (by simp) (by simp))
    have HB4 := Lib.hid (HB2.out.trans (hb4.mono HB2.out.size))
    have hsz4 : w1.heap.size + 1 ≤ w4.heap.size := Nat.le_trans HSZ.out hb4.size
    have hlen4 : cs.length + 1 ≤ 1000000000 := by have h1 := HC2.out; have h2 := HZ.out; omega
    have HL4 := Lib.hid (show w4.rangeLeft m w1.heap.size < wr.rangeLeft m w1.heap.size by rw [HRG4.out.left_eq, ← HRG2.out.left_eq]; exact HLT.out)
    clear hb4 HOW2 HRG2 HB2
    go_wp2_with (at_builtin; (refine wpList_pushS rfl _ _ rfl (w1.heap.size + 1) u7 cs x rfl HOW4.out hsz4 rfl hlen4 ?_); intro v5 w5 hown5 hg5)
    have hrgA := HRG4.out.alloc (.cells #[.string x] 9)
    have hneA := row_ne_iter HOW4.out HRG4.out
    have hnlA := row_ne_low HOW4.out (b := m) (by omega)
    have hrg5 := hrgA.kept hg5 hnlA hneA
    refine ⟨Lib.hid ⟨⟨_, cnt1, cs ++ [x], hrg5, hown5, List.nodup_append.2 ⟨HND.out, by simp, fun a ha b hb e => ?_⟩, by simpa using HM2.out, by have := HC2.out; rw [List.length_append, List.length_singleton]; exact this⟩, ?_, ?_⟩, by rw [hrg5.left_eq, ← HRG4.out.left_eq]; exact HL4.out⟩
    ·
     rw [List.mem_singleton] at hb
     subst hb
     subst e
     exact HNX.out ha
    ·
     exact (HB4.out.alloc (by omega) _).grown hg5 (by simp; omega) fun k hk => by have := (World.ownsRow.lt HOW4.out k hk).1; omega
    ·
     have := hg5.size
     rw [World.size_alloc] at this
     omega
   | false =>
    go_wp2_with fail
    refine (strings_HasPrefix x head w2).mono ?_
    rintro e3 w3 ⟨rfl, rfl⟩
    rw [show Lib.hasPrefix x.data.toList head.data.toList = false from HPE.out]
    go_wp2_with fail
    refine ⟨Lib.hid ⟨⟨_, cnt1, cs, HRG2.out, HOW2.out, HND.out, by simpa using HM2.out, by have := HC2.out; omega⟩, HB2.out, HSZ.out⟩, HLT.out⟩
end Go.Proofs.YtihbgigledmliaaGreat

namespace Go.Proofs.YtihbgigledmliaaGreat
open Go.RowKit Go.Maps
set_option linter.unusedVariables false
/-- bounds of names and bytes -/
structure Bds (S : Dsk) : Prop where
 nms : ∀ b f, S.fl b = some f → f.nm.size ≤ 160
 cnm : ∀ c ∈ S.loose, c.name.size ≤ 160
 zsl : ∀ b f, S.fl b = some f → f.zs.length ≤ 67108864
theorem Bds.file {S S' : Dsk} {b : Nat} {f : Fil} (h : Bds S) (h1 : S'.fl = (S.file b f).fl) (h2 : S'.loose = S.loose) (k1 : f.nm.size ≤ 160) (k2 : f.zs.length ≤ 67108864) : Bds S' := by
 refine ⟨fun c g hc => ?_, by rw [h2]; exact h.cnm, fun c g hc => ?_⟩
 ·
  rw [h1] at hc
  have hc' : (if c = b then some f else S.fl c) = some g := hc
  split at hc'
  ·
   cases hc'; exact k1
  ·
   exact h.nms c g hc'
 ·
  rw [h1] at hc
  have hc' : (if c = b then some f else S.fl c) = some g := hc
  split at hc'
  ·
   cases hc'; exact k2
  ·
   exact h.zsl c g hc'
theorem Bds.same {S S' : Dsk} (h : Bds S) (h1 : S'.fl = S.fl) (h2 : S'.loose = S.loose) : Bds S' := ⟨by rw [h1]; exact h.nms, by rw [h2]; exact h.cnm, by rw [h1]; exact h.zsl⟩
/-- what undo leaves -/
def Und (B d : Nat) (S : Dsk) (c : Chg) (st : Nat) (W W' : World) : Prop := ∃ S' l', DK B d S' W' ∧ Mov S d S' W W' ∧ S'.lv = S.lv ∧ S'.loose = S.loose ∧ S'.room = S.room ∧ S'.vw = S.vw.undo c st ∧ JS S' l' ∧ S'.n ≤ S.n + 2 ∧ Td S' ∧ Bds S'
theorem undo_c {B d R : Nat} {S : Dsk} {W : World} (h : DK B d S W) {cs : List Chg} {l : Fls} {os : List DCh} {sure : Fls} {c : Chg} {o : DCh} (hch : Chn R S.vw (c :: cs) l (o :: os) sure) (hj : JS S l) (hm : c ∈ S.loose) (hR : R ≤ 67108864) (hb : Bds S) (td : Td S) (hn : S.n + 1 < maxLen) (st : Nat) (hst : st ≤ 1048576) (rp : Option Addr) (hrp : rp = c.repl.map fun b => ⟨b, 0, none⟩) :
  Calls Tryz.prog 79 #[.pointer (some ⟨d, 0, none⟩), .agg #[.int .i64 c.kind, .pointer (some ⟨c.file, 0, none⟩), .int .i64 c.size, .string c.name, .pointer rp], .int .i64 (st : Int)] W fun e W' => e = .returned (.tuple #[]) ∧ Und B d S c st W W' := by
 obtain ⟨hab, hu, hd, hf⟩ : Ab S.vw l ∧ usedF l ≤ R ∧ (∃ l', l = doF l' o ∧ Chn R (S.vw.undo c 0) cs l' os sure) ∧ Fit S.vw c o := by
  cases hch with
  | cons h1 h2 h3 h4 h5 => exact ⟨h1, h2, ⟨_, h3, h5⟩, h4⟩
 obtain ⟨⟨f, hfl⟩, hrl⟩ := h.rest.hc c hm
 have hnm : S.vw.nm c.file = f.nm := Dsk.nm_of hfl
 have hzs : S.vw.zs c.file = f.zs := Dsk.zs_of hfl
 have hl160 : (160 : Nat) ≤ maxLen := by unfold maxLen; omega
 have hns : f.nm.size ≤ maxLen := Nat.le_trans (hb.nms _ f hfl) hl160
 have hzl := hb.zsl _ f hfl
 have hk := hf.kind
 have hk3 := hf.k3
 by_cases e0 : o.kind = 0
 ·
  have ck : c.kind = 0 := by rw [hk, e0]; rfl
  have ha := hf.k0 e0
  have hnm2 : f.nm = o.a := hnm.symm.trans (hab.nm _ _ ha)
  rw [ck]
  refine (dundo_created h hfl c.size (st : Int) c.name rp hns).mono ?_
  rintro e w' ⟨rfl, k1, k2⟩
  refine ⟨rfl, _, _, k1, k2, rfl, rfl, rfl, ?_, hj.drop td hfl (by rw [hnm2]; exact ha) (by omega), by show S.n ≤ _; omega, td.drop f, hb.same rfl rfl⟩
  rw [Dsk.vw_drop]
  unfold Vw.undo
  rw [if_pos ck, hnm]
 by_cases e1 : o.kind = 1
 ·
  have ck : c.kind = 1 := by rw [hk, e1]; rfl
  obtain ⟨ha, h1, h2, h3, h4, h5⟩ := hf.k1 e1
  rw [hzs] at h3 h4
  rw [ck]
  obtain ⟨k, hkk⟩ : ∃ k : Nat, k = min f.zs.length (c.size.toNat + st) := ⟨_, rfl⟩
  refine (dundo_app h hfl c.size (st : Int) c.name rp k h1 (by omega) (by omega) (by omega) (by omega) (by omega)).mono ?_
  rintro e w' ⟨rfl, v, hv, k1, k2⟩
  have htk : (f.zs.take k).length = k := by rw [List.length_take]; omega
  have hused : usedF l ≤ 67108864 := by omega
  have hlen : f.zs.length ≤ usedF l := by
   have h9 := used_without (n := o.a) hab.srt
   rw [hab.has ha, hzs] at h9
   simp only [Option.getD_some] at h9
   omega
  obtain ⟨j2, hv2⟩ := hj.bytes (S' := S.cutf c.file f v k) (v := v) (zs := f.zs.take k) hfl ha rfl rfl (by
   show wrap64 (S.used - ((f.zs.length - k : Nat) : Int)) = S.used - (f.zs.length : Int) + ((f.zs.take k).length : Int)
   rw [htk, hj.used, wrap64_id (by omega) (by omega)]
   omega)
  refine ⟨rfl, _, _, k1, k2, rfl, rfl, rfl, ?_, j2, by show S.n ≤ _; omega, td.same rfl, hb.file (b := c.file) (f := ⟨f.nm, v, f.zs.take k⟩) rfl rfl (hb.nms _ f hfl) (by show (f.zs.take k).length ≤ _; omega)⟩
  rw [hv2]
  unfold Vw.undo
  rw [if_neg (by omega), if_pos ck, hzs, hkk]
  congr 1
  by_cases hle : f.zs.length ≤ c.size.toNat + st
  ·
   rw [Nat.min_eq_left hle, List.take_length, List.take_of_length_le hle]
  ·
   rw [Nat.min_eq_right (by omega)]
 by_cases e2 : o.kind = 2
 ·
  have ck : c.kind = 2 := by rw [hk, e2]; rfl
  obtain ⟨h1, h2⟩ := hf.k2 e2
  have hnm2 : f.nm = o.a := hnm.symm.trans h1
  rw [ck]
  refine (dundo_removed h hfl c.size (st : Int) c.name rp hns (by omega)).mono ?_
  rintro e w' ⟨rfl, m, k1, k2⟩
  refine ⟨rfl, _, _, k1, k2, rfl, rfl, rfl, ?_, hj.put td hfl (by rw [hnm2]; exact h2) m (fun x hx => ?_) (by omega), by show S.n + 1 ≤ _; omega, td.put m _ f, hb.same rfl rfl⟩
  ·
   rw [Dsk.vw_put td.tidy.isMap]
   unfold Vw.undo
   rw [if_neg (by omega), if_neg (by omega), if_pos ck, hnm]
  ·
   have := hab.nm x c.file hx
   rw [h1] at this
   rw [← this] at hx
   have h2' : S.at o.a = none := h2
   rw [h2'] at hx
   cases hx
 have e3 : o.kind = 3 := by omega
 have ck : c.kind = 3 := by rw [hk, e3]; rfl
 obtain ⟨h1, h2, h3, h4⟩ := hf.k3a e3
 have hnm2 : f.nm = o.b := hnm.symm.trans (hab.nm _ _ h1)
 have hat : S.at f.nm = some c.file := by rw [hnm2]; exact h1
 have hcn := hb.cnm c hm
 have hcm : c.name.size ≤ maxLen := Nat.le_trans hcn hl160
 have hno : ∀ x, S.at x = some c.file → x = f.nm := fun x hx => (hab.nm x c.file hx).symm.trans hnm
 have j2 := hj.drop td hfl hat (by omega)
 have td2 := td.drop f
 have hdu : usedF (withoutF l f.nm) ≤ 67108864 := by have := used_without (n := f.nm) hab.srt; omega
 have hno2 : ∀ x, (S.drop f).at x ≠ some c.file := fun x hx => by
  rw [at_drop] at hx
  split at hx
  ·
   cases hx
  ·
   rename_i e
   exact e (hno x hx)
 have j3 := j2.file hno2 ⟨c.name, f.row, f.zs⟩
 have td3 : Td ((S.drop f).file c.file ⟨c.name, f.row, f.zs⟩) := td2.same rfl
 have hfl3 : ((S.drop f).file c.file ⟨c.name, f.row, f.zs⟩).fl c.file = some ⟨c.name, f.row, f.zs⟩ := by show (if _ then _ else _) = _; rw [if_pos rfl]
 have hnone : ((S.drop f).file c.file ⟨c.name, f.row, f.zs⟩).at c.name = none := by
  show (S.drop f).at c.name = none
  rw [at_drop]
  split
  ·
   rfl
  ·
   rename_i e
   rw [h2] at e ⊢
   exact h3 (fun k => e (by rw [hnm2]; exact k))
 have j4 := fun m => j3.put td3 hfl3 hnone m (by exact hno2) (by show usedF (withoutF l f.nm) + f.zs.length ≤ _; omega)
 have td4 := fun m => td3.put m c.file ⟨c.name, f.row, f.zs⟩
 have b4 : ∀ m, Bds (((S.drop f).file c.file ⟨c.name, f.row, f.zs⟩).put m c.file ⟨c.name, f.row, f.zs⟩) := fun m => hb.file (b := c.file) (f := ⟨c.name, f.row, f.zs⟩) rfl rfl hcn hzl
 have v4 : ∀ m, (((S.drop f).file c.file ⟨c.name, f.row, f.zs⟩).put m c.file ⟨c.name, f.row, f.zs⟩).vw = ((S.vw.set f.nm none).name c.file c.name).set c.name (some c.file) := fun m => by
  rw [Dsk.vw_put td3.tidy.isMap, Dsk.vw_file, Dsk.vw_drop]
  refine Vw.ext3 rfl ?_ rfl
  funext x
  show (if x = c.file then f.zs else S.vw.zs x) = S.vw.zs x
  by_cases e : x = c.file
  ·
   rw [if_pos e, e, hzs]
  ·
   rw [if_neg e]
 rw [ck]
 rcases h4 with h4 | ⟨r, h4, h5, h6, h7⟩
 ·
  rw [h4] at hrp
  subst hrp
  refine (dundo_renamed h hfl c.size (st : Int) c.name hns hcm hn hno).mono ?_
  rintro e w' ⟨rfl, m, k1, k2⟩
  refine ⟨rfl, _, _, k1, k2, rfl, rfl, rfl, ?_, j4 m, by show S.n + 1 ≤ _; omega, td4 m, b4 m⟩
  rw [v4]
  unfold Vw.undo
  rw [if_neg (by omega), if_neg (by omega), if_neg (by omega), hnm, h4]
 ·
  obtain ⟨g, hg⟩ := hrl r h4
  rw [h4] at hrp
  subst hrp
  have hgn : g.nm = f.nm := by
   have e : S.vw.nm r = g.nm := Dsk.nm_of hg
   rw [← e, h6, hnm2]
  have hg3 : ∀ m, (((S.drop f).file c.file ⟨c.name, f.row, f.zs⟩).put m c.file ⟨c.name, f.row, f.zs⟩).fl r = some g := fun m => by show (if _ then _ else S.fl r) = _; rw [if_neg h5]; exact hg
  refine (dundo_renamed2 h hfl c.size (st : Int) c.name hns hcm hn hno hg h5 (Nat.le_trans (hb.nms _ g hg) hl160)).mono ?_
  rintro e w' ⟨rfl, m, m2, k1, k2⟩
  have hat4 : ∀ x, (((S.drop f).file c.file ⟨c.name, f.row, f.zs⟩).put m c.file ⟨c.name, f.row, f.zs⟩).at x = if x = c.name then some c.file else if x = f.nm then none else S.at x := fun x => by
   rw [at_put td3.tidy.isMap]
   show (if x = c.name then some c.file else (S.drop f).at x) = _
   rw [at_drop]
  have hgz := hb.zsl _ g hg
  refine ⟨rfl, _, _, k1, k2, rfl, rfl, rfl, ?_, (j4 m).put (td4 m) (hg3 m) ?_ m2 (fun x hx => ?_) ?_, by show S.n + 1 + 1 ≤ _; omega, (td4 m).put m2 r g, (b4 m).same rfl rfl⟩
  ·
   rw [Dsk.vw_put (td4 m).tidy.isMap, v4, hgn]
   unfold Vw.undo
   rw [if_neg (by omega), if_neg (by omega), if_neg (by omega), hnm, h4]
   simp only
   rw [h6, hnm2]
  ·
   rw [hat4, hgn, h2, if_neg (fun k => h7 (by rw [← k, hnm2])), if_pos rfl]
  ·
   rw [hat4] at hx
   split at hx
   ·
    cases hx; exact h5 rfl
   ·
    split at hx
    ·
     cases hx
    ·
     rename_i _ e
     have := hab.nm x r hx
     rw [h6] at this
     exact e (this.symm.trans hnm2.symm)
  ·
   rw [used_with]
   show usedF (withoutF l f.nm) + f.zs.length + g.zs.length ≤ _
   omega
end Go.Proofs.YtihbgigledmliaaGreat
namespace Go.Proofs.YtihbgigledmliaaGreat
open Go.RowKit Go.Maps
set_option linter.unusedVariables false
attribute [local go_sem] Oper.semAt_some
/-- the files that are left -/
def Ad.fin (A : Ad) (keep part : Int) : Fls :=
 match A.loose[(min (max keep 0) (A.loose.length : Int)).toNat]? with
 | none => A.now
 | some o => if o.kind = 1 then doF ((A.loose.take (min (max keep 0) (A.loose.length : Int)).toNat).foldl doF A.sure) { o with p := o.p.take (min (max part 0) 1048576).toNat } else (A.loose.take (min (max keep 0) (A.loose.length : Int)).toNat).foldl doF A.sure
def Ad.crash (A : Ad) (keep part : Int) : Ad := ⟨A.room, -1, false, A.fin keep part, A.fin keep part, []⟩
def CX5 (X : Nat) (c : Chg) (rp : Option Addr) (W : World) : Prop := W.cell? ⟨X, 0, none⟩ = some (.int .i64 c.kind) ∧ W.cell? ⟨X, 1, none⟩ = some (.pointer (some ⟨c.file, 0, none⟩)) ∧ W.cell? ⟨X, 2, none⟩ = some (.int .i64 c.size) ∧ W.cell? ⟨X, 3, none⟩ = some (.string c.name) ∧ W.cell? ⟨X, 4, none⟩ = some (.pointer rp)
theorem CX5.keepL {X R : Nat} {c : Chg} {rp : Option Addr} {W W' : World} (h : CX5 X c rp W) (hk : KeepL (R + 3) W W') (hX : R + 4 < X) : CX5 X c rp W' := by
 obtain ⟨a0, a1, a2, a3, a4⟩ := h
 have k : ∀ j, W'.cell? ⟨X, j, none⟩ = W.cell? ⟨X, j, none⟩ := fun j => hk.cell (a := ⟨X, j, none⟩) (by show X ≠ R + 3; omega) (by show X ≠ R + 4; omega)
 exact ⟨(k _).trans a0, (k _).trans a1, (k _).trans a2, (k _).trans a3, (k _).trans a4⟩
/-- so far as the changes have been taken back: q of those that are lost are left -/
structure CJ (B d : Nat) (S : Dsk) (A : Ad) (fin : Fls) (part : Int) (w : World) (n kk : Nat) (la : Option Addr) (lc R q : Nat) (W : World) : Prop where
 box : W.cell? ⟨R, 0, none⟩ = some (.pointer (some ⟨d, 0, none⟩))
 prt : W.cell? ⟨R + 1, 0, none⟩ = some (.int .i64 part)
 bx : W.cell? ⟨R + 2, 0, none⟩ = some (.slice (slc la lc kk) (n - kk) (lc - kk))
 size : R + 3 ≤ W.heap.size
 ex : ∃ S' l', DK B d S' W ∧ Mov S d S' w W ∧ (∀ k, S'.own d k → k < R ∨ R + 5 ≤ k) ∧ S'.lv = S.lv ∧ S'.loose = S.loose ∧ S'.room = S.room ∧ JS S' l' ∧ usedF l' ≤ A.room.toNat ∧ Td S' ∧ Bds S' ∧ S'.n + 2 * q ≤ S.n + 2 * (n - kk) ∧ (q = 0 → l' = fin) ∧ (0 < q → Chn A.room.toNat S'.vw (S.loose.take (kk + q)).reverse l' (A.loose.take (kk + q)).reverse A.sure)
def CP (B d : Nat) (S : Dsk) (A : Ad) (fin : Fls) (part : Int) (w : World) (n kk : Nat) (la : Option Addr) (lc R : Nat) (pre : List (Nat × List Value)) (W : World) : Prop := ∃ q, q ≤ n - kk ∧ pre = outs (chE S kk) (n - kk) q ∧ CJ B d S A fin part w n kk la lc R q W
theorem outs_len (E : Nat → List Value) (n k : Nat) : (outs E n k).length = n - k := by unfold outs; simp
theorem CP.at {B d : Nat} {S : Dsk} {A : Ad} {fin : Fls} {part : Int} {w : World} {n kk : Nat} {la : Option Addr} {lc R q : Nat} {W : World} (h : CP B d S A fin part w n kk la lc R (outs (chE S kk) (n - kk) (q + 1)) W) (hq : q < n - kk) : CJ B d S A fin part w n kk la lc R (q + 1) W := by
 obtain ⟨q', h1, h2, h3⟩ := h
 have e := congrArg List.length h2
 rw [outs_len, outs_len] at e
 have : q' = q + 1 := by omega
 rw [← this]; exact h3
theorem CP.end {B d : Nat} {S : Dsk} {A : Ad} {fin : Fls} {part : Int} {w : World} {n kk : Nat} {la : Option Addr} {lc R : Nat} {W : World} (h : CP B d S A fin part w n kk la lc R (outs (chE S kk) (n - kk) 0) W) : CJ B d S A fin part w n kk la lc R 0 W := by
 obtain ⟨q', h1, h2, h3⟩ := h
 have e := congrArg List.length h2
 rw [outs_len, outs_len] at e
 have : q' = 0 := by omega
 rw [← this]; exact h3
theorem CP.keepL {B d : Nat} {S : Dsk} {A : Ad} {fin : Fls} {part : Int} {w : World} {n kk : Nat} {la : Option Addr} {lc R : Nat} {pre : List (Nat × List Value)} {W W' : World} (hR : w.heap.size = R) (hw : DK B d S w) (h : CP B d S A fin part w n kk la lc R pre W) (hk : KeepL (R + 3) W W') : CP B d S A fin part w n kk la lc R pre W' := by
 obtain ⟨q, g1, g2, h⟩ := h
 obtain ⟨S', l', h1, h2, h3, h4⟩ := h.ex
 have hn : ∀ k, S'.own d k → k ≠ R + 3 ∧ k ≠ R + 4 := fun k ho => by have := h3 k ho; omega
 exact ⟨q, g1, g2, (hk.cell (a := ⟨R, 0, none⟩) (by show R ≠ R + 3; omega) (by show R ≠ R + 4; omega)).trans h.box, (hk.cell (a := ⟨R + 1, 0, none⟩) (by show R + 1 ≠ R + 3; omega) (by show R + 1 ≠ R + 4; omega)).trans h.prt,
  (hk.cell (a := ⟨R + 2, 0, none⟩) (by show R + 2 ≠ R + 3; omega) (by show R + 2 ≠ R + 4; omega)).trans h.bx, Nat.le_trans h.size hk.size, S', l', h1.keep fun k ho => hk.blk k (hn k ho).1 (hn k ho).2, h2.keepL hk (by omega), h3, h4⟩
theorem CP.later {B d : Nat} {S : Dsk} {A : Ad} {fin : Fls} {part : Int} {w : World} {n kk : Nat} {la : Option Addr} {lc R : Nat} {pre : List (Nat × List Value)} {W W' : World} (h : CP B d S A fin part w n kk la lc R pre W) (hb : Below W.heap.size W W') : CP B d S A fin part w n kk la lc R pre W' := by
 obtain ⟨q, g1, g2, h⟩ := h
 obtain ⟨S', l', h1, h2, h3, h4⟩ := h.ex
 have hsz := h.size
 exact ⟨q, g1, g2, (hb.cell (p := ⟨R, 0, none⟩) (by show R < _; omega)).trans h.box, (hb.cell (p := ⟨R + 1, 0, none⟩) (by show R + 1 < _; omega)).trans h.prt, (hb.cell (p := ⟨R + 2, 0, none⟩) (by show R + 2 < _; omega)).trans h.bx, Nat.le_trans hsz hb.size, S', l', h1.below hb, h2.trans (Mov.ofBelow hb), h3, h4⟩
theorem fin_all {A : Ad} {keep part : Int} {kk : Nat} (hK : kk = (min (max keep 0) (A.loose.length : Int)).toNat) (h : kk = A.loose.length) : A.fin keep part = A.now := by
 unfold Ad.fin
 rw [← hK, h, List.getElem?_eq_none (Nat.le_refl _)]
theorem CJ.start {B d N : Nat} {S : Dsk} {A : Ad} {keep part : Int} {w : World} {n kk R : Nat} {W : World} (h : DK B d S W) (m : Mov S d S w W) (hw : DK B d S w) (hR : w.heap.size = R) (ra : RA N S A) (hkk : kk ≤ n) (hnn : n = S.loose.length) (hK : kk = (min (max keep 0) (A.loose.length : Int)).toNat) :
  ∃ S' l', DK B d S' W ∧ Mov S d S' w W ∧ (∀ k, S'.own d k → k < R ∨ R + 5 ≤ k) ∧ S'.lv = S.lv ∧ S'.loose = S.loose ∧ S'.room = S.room ∧ JS S' l' ∧ usedF l' ≤ A.room.toNat ∧ Td S' ∧ Bds S' ∧ S'.n + 2 * (n - kk) ≤ S.n + 2 * (n - kk) ∧ (n - kk = 0 → l' = A.fin keep part) ∧ (0 < n - kk → Chn A.room.toNat S'.vw (S.loose.take (kk + (n - kk))).reverse l' (A.loose.take (kk + (n - kk))).reverse A.sure) := by
 have hlen := ra.loose
 refine ⟨S, A.now, h, m, fun k ho => .inl (by have := (hw.ownLt ho).2; omega), rfl, rfl, rfl, ra.js, ra.chn.used, ra.td, ⟨ra.nms, ra.cnm, ra.zsl⟩, Nat.le_refl _, fun h0 => ?_, fun _ => ?_⟩
 ·
  exact (fin_all hK (by omega)).symm
 ·
  rw [List.take_of_length_le (by omega), List.take_of_length_le (by omega)]
  exact ra.chn
theorem undo_stay (V : Vw) {c : Chg} (h : ¬ c.kind = 1) (st : Nat) : V.undo c st = V.undo c 0 := by
 unfold Vw.undo
 simp only [if_neg h]
theorem used_part {l : Fls} {o : DCh} (hs : Srt l) (hk : o.kind = 1) (st : Nat) : usedF (doF l { o with p := o.p.take st }) ≤ usedF (doF l o) := by
 obtain ⟨k, a, b, p⟩ := o
 simp only at hk
 subst hk
 show usedF (doF l ⟨1, a, b, p.take st⟩) ≤ usedF (doF l ⟨1, a, b, p⟩)
 rw [doF1, doF1, used_with, used_with]
 simp only [List.length_append, List.length_take]
 omega
theorem CJ.undo {B d N : Nat} {S : Dsk} {A : Ad} {keep part : Int} {w : World} {n kk : Nat} {la : Option Addr} {lc R q : Nat} {W : World} (hR : w.heap.size = R) (hdk : DK B d S w) (h : CJ B d S A (A.fin keep part) part w n kk la lc R (q + 1) W) (ra : RA N S A) (hq : q < n - kk) (hnn : n = S.loose.length) (hK : kk = (min (max keep 0) (A.loose.length : Int)).toNat) (hW : R + 5 ≤ W.heap.size) {c : Chg} (hc : S.loose[kk + q]? = some c) (rp : Option Addr) (hrp : rp = c.repl.map fun b => ⟨b, 0, none⟩) (st : Nat) (hst : st ≤ 1048576) (hz : (q = 0 ∧ min (max part 0) 1048576 = (st : Int)) ∨ (q ≠ 0 ∧ st = 0)) (hN : N < 1000000000) :
  Calls Tryz.prog 79 #[.pointer (some ⟨d, 0, none⟩), .agg #[.int .i64 c.kind, .pointer (some ⟨c.file, 0, none⟩), .int .i64 c.size, .string c.name, .pointer rp], .int .i64 (st : Int)] W fun e W' => e = .returned (.tuple #[]) ∧ CJ B d S A (A.fin keep part) part w n kk la lc R q W' ∧ ∀ k, R ≤ k → k < R + 5 → W'.heap[k]? = W.heap[k]? := by
 obtain ⟨S', l', h1, h2, h3, h4, h5, h6, h7, h8, h9, h10, h11, h12, h13⟩ := h.ex
 have hch := h13 (by omega)
 have hlen := ra.loose
 have hbig := ra.big
 obtain ⟨o, ho⟩ : ∃ o, A.loose[kk + q]? = some o := ⟨_, List.getElem?_eq_getElem (by omega)⟩
 have e1 : (S.loose.take (kk + (q + 1))).reverse = c :: (S.loose.take (kk + q)).reverse := by
  rw [← Nat.add_assoc, List.take_add_one, hc]
  simp
 have e2 : (A.loose.take (kk + (q + 1))).reverse = o :: (A.loose.take (kk + q)).reverse := by
  rw [← Nat.add_assoc, List.take_add_one, ho]
  simp
 rw [e1, e2] at hch
 have hcm : c ∈ S'.loose := by rw [h5]; exact List.mem_of_getElem? hc
 refine (undo_c h1 hch h7 hcm (by have := ra.r1; omega) h10 h9 (by unfold maxLen; omega) st hst rp hrp).mono ?_
 rintro e W' ⟨rfl, S2, l2, k1, k2, k3, k4, k5, k6, k7, k8, k9, k10⟩
 have keepR : ∀ k, R ≤ k → k < R + 5 → W'.heap[k]? = W.heap[k]? := fun k hk hl => k2.block k (by omega) fun ho => by have := h3 k ho; omega
 have hsz := h.size
 obtain ⟨l3, hd, hch2⟩ : ∃ l3, l' = doF l3 o ∧ Chn A.room.toNat (S'.vw.undo c 0) (S.loose.take (kk + q)).reverse l3 (A.loose.take (kk + q)).reverse A.sure := by
  cases hch with
  | cons _ _ h3 _ h5 => exact ⟨_, h3, h5⟩
 have hfit : Fit S'.vw c o ∧ Ab S'.vw l' := by
  cases hch with
  | cons h1 _ _ h4 _ => exact ⟨h4, h1⟩
 refine ⟨rfl, ⟨(World.cell?_of_block (keepR R (Nat.le_refl _) (by omega))).trans h.box, (World.cell?_of_block (keepR (R + 1) (by omega) (by omega))).trans h.prt, (World.cell?_of_block (keepR (R + 2) (by omega) (by omega))).trans h.bx, Nat.le_trans hsz k2.size,
  S2, l2, k1, h2.trans k2, fun k ho => ?_, k3.trans h4, k4.trans h5, k5.trans h6, k7, ?_, k9, k10, by omega, fun h0 => ?_, fun h0 => ?_⟩, keepR⟩
 ·
  rcases k2.own k ho with h0 | h0
  ·
   exact h3 k h0
  ·
   right; omega
 ·
  rcases hz with ⟨h0, hst2⟩ | ⟨h0, hst2⟩
  ·
   by_cases hk1 : o.kind = 1
   ·
    have e := k7.uniq (m := doF l3 { o with p := o.p.take st }) (by rw [k6]; exact hfit.2.part hd hfit.1 hch2.ab hk1 st)
    rw [e]
    have := used_part (l := l3) (o := o) hch2.ab.srt hk1 st
    rw [← hd] at this
    omega
   ·
    have e := k7.uniq (m := l3) (by
     rw [k6]
     have e : S'.vw.undo c st = S'.vw.undo c 0 := undo_stay _ (by rw [hfit.1.kind]; omega) st
     rw [e]; exact hch2.ab)
    rw [e]; exact hch2.used
  ·
   have e := k7.uniq (m := l3) (by rw [k6, hst2]; exact hch2.ab)
   rw [e]; exact hch2.used
 ·
  subst h0
  have hst2 : min (max part 0) 1048576 = (st : Int) := by
   rcases hz with ⟨_, h⟩ | ⟨h, _⟩
   ·
    exact h
   ·
    exact absurd rfl h
  have hl3 := hch2.fold
  rw [List.foldr_reverse, Nat.add_zero] at hl3
  rw [Nat.add_zero] at ho
  unfold Ad.fin
  rw [← hK, ho]
  simp only
  have hst3 : (min (max part 0) 1048576).toNat = st := by omega
  rw [hst3]
  by_cases hk1 : o.kind = 1
  ·
   rw [if_pos hk1]
   have e := k7.uniq (m := doF l3 { o with p := o.p.take st }) (by rw [k6]; exact hfit.2.part hd hfit.1 hch2.ab hk1 st)
   rw [e, hl3]
  ·
   rw [if_neg hk1]
   have e := k7.uniq (m := l3) (by
    rw [k6]
    have e : S'.vw.undo c st = S'.vw.undo c 0 := undo_stay _ (by rw [hfit.1.kind]; omega) st
    rw [e]; exact hch2.ab)
   rw [e, hl3]
 ·
  have hst2 : st = 0 := by
   rcases hz with ⟨h, _⟩ | ⟨_, h⟩
   ·
    omega
   ·
    exact h
  have e := k7.uniq (m := l3) (by rw [k6, hst2]; exact hch2.ab)
  rw [e, k6, hst2]
  exact hch2
theorem CJ.over {N n kk : Nat} {S S' : Dsk} {A : Ad} {keep part : Int} {l' : Fls} (ra : RA N S A) (h4 : S'.lv = S.lv) (h5 : S'.loose = S.loose) (h6 : S'.room = S.room) (h7 : JS S' l') (h8 : usedF l' ≤ A.room.toNat) (h9 : Td S') (h10 : Bds S') (h11 : S'.n + 2 * 0 ≤ S.n + 2 * (n - kk)) (h12 : l' = A.fin keep part) (hnn : n = S.loose.length) : RA N { S'.sure with fuse := -1, down := false } (A.crash keep part) := by
 have hbig := ra.big
 subst h12
 have e : ({ S'.sure with fuse := -1, down := false } : Dsk).vw = S'.vw := Dsk.vw_of rfl rfl
 refine ⟨h6.trans ra.room, ra.r0, ra.r1, rfl, by show (-1 : Int) ≤ _; omega, rfl, h7.used, h7.size, h9.same rfl, ?_, ?_, h10.nms, fun c hc => (by cases hc), h10.zsl⟩
 ·
  rw [e]
  exact .nil h7.ab h8
 ·
  show S'.n + 2 * 0 ≤ N
  omega
end Go.Proofs.YtihbgigledmliaaGreat
namespace Go.Proofs.YtihbgigledmliaaGreat
open Go.RowKit Go.Maps
set_option linter.unusedVariables false
attribute [local go_sem] Oper.semAt_some
set_option maxRecDepth 100000 in
set_option maxHeartbeats 8000000 in
theorem acrash {B d N : Nat} {S : Dsk} {A : Ad} {w : World} (h : DK B d S w) (ra : RA N S A) (keep part : Int) (hN : N < 1000000000) :
  Calls Tryz.prog 31 #[.pointer (some ⟨d, 0, none⟩), .int .i64 keep, .int .i64 part] w fun e w' => e = .returned (.int .i64 0) ∧ Did B d N S w (A.crash keep part) w' := by
 have hlo : S.loose.length ≤ 1000000000 := by have := ra.big; omega
 obtain ⟨la, n, lc, hlv⟩ : ∃ la n lc, S.lv = .slice la n lc := by
  rcases h.rest.hl.2 with ⟨h1, _⟩ | ⟨g, cap, cur, h1, _⟩
  ·
   exact ⟨_, _, _, h1⟩
  ·
   exact ⟨_, _, _, h1⟩
 have hnl : n ≤ lc ∧ n = S.loose.length := by
  rcases h.rest.hl.2 with ⟨h1, h2⟩ | ⟨g, cap, cur, h1, _, _, h3, _⟩
  ·
   rw [hlv] at h1
   obtain ⟨_, e2, e3⟩ := Value.slice.inj h1
   omega
  ·
   rw [hlv] at h1
   obtain ⟨_, e2, e3⟩ := Value.slice.inj h1
   omega
 obtain ⟨hnl, hnn⟩ := hnl
 have c3 := h.cells.2.2.2.1.trans (congrArg some hlv)
 have hdR := h.lt
 obtain ⟨kk, hkk0, hkk⟩ : ∃ kk : Nat, min (max keep 0) (n : Int) = (kk : Int) ∧ kk ≤ n := by
  by_cases hc : max keep 0 ≤ (n : Int)
  ·
   exact ⟨(max keep 0).toNat, by omega, by omega⟩
  ·
   exact ⟨n, by omega, Nat.le_refl _⟩
 obtain ⟨R, hR⟩ : ∃ R, R = w.heap.size := ⟨_, rfl⟩
 obtain ⟨w1, hw1⟩ : ∃ w1, w1 = (w.alloc (.cells #[.pointer (some ⟨d, 0, none⟩)] 25)).alloc (.cells #[.int .i64 part] 3) := ⟨_, rfl⟩
 have hb1 : Below w.heap.size w w1 := by rw [hw1]; exact ((Below.refl _ _).alloc (Nat.le_refl _) _).alloc (by simp) _
 have d0 : w1.cell? ⟨R, 0, none⟩ = some (.pointer (some ⟨d, 0, none⟩)) := by rw [hw1, hR]; simp
 have d1 : w1.cell? ⟨R + 1, 0, none⟩ = some (.int .i64 part) := by rw [hw1, hR]; simp
 have hs1 : w1.heap.size = R + 2 := by rw [hw1, hR]; simp
 have hk1 := h.below hb1
 have c31 : w1.cell? ⟨d, 3, none⟩ = some (.slice la n lc) := (hb1.cell (p := ⟨d, 3, none⟩) hdR).trans c3
 have hn9 : n ≤ 1000000000 := by omega
 have HK1 := Lib.hid hk1
 have HM1 := Lib.hid (Mov.ofBelow (S := S) (d := d) hb1)
 have HDK := Lib.hid h
 have HLV := Lib.hid hlv
 have HRA := Lib.hid ra
 have HNN := Lib.hid hnn
 have HKK := Lib.hid (show kk = (min (max keep 0) (A.loose.length : Int)).toNat from by rw [← ra.loose, ← hnn, hkk0]; omega)
 have HRW := Lib.hid hR.symm
 have HBK := Lib.hid (fun w => back_c (slc la lc kk) (n - kk) (lc - kk) w)
 refine (callsIn_wide (n := 3)).1 ?_
 refine callsIn_of_wp_marks Tryz.func31 rfl trivial ?_ rfl
 simp only [Tryz.ntmps31, List.size_toArray, List.length_cons, List.length_nil, Nat.reduceAdd, Nat.reduceSub, Array.replicate_succ, Array.replicate_zero, List.push_toArray, List.append_toArray, List.nil_append, List.cons_append]
 clear h hk1 hb1 hlv ra hnn c3 hlo
 gi_wp2_with fail
 rw [← hR, ← hw1]
 clear hR hw1
 have HS := Lib.hid (show World.cell? (World.drew w1) ⟨R, 0, none⟩ = some (.pointer (some ⟨d, 0, none⟩)) ∧ World.cell? (World.drew w1) ⟨d, 3, none⟩ = some (.slice la n lc) from ⟨d0, c31⟩)
 have HL0 := Lib.hid (fun W (hW : World.cell? W ⟨R, 0, none⟩ = some (.pointer (some ⟨d, 0, none⟩)) ∧ World.cell? W ⟨d, 3, none⟩ = some (.slice la n lc)) => run_cell_disk W ⟨R, 0, none⟩ _ hW.1)
 have HL3 := Lib.hid (fun W (hW : World.cell? W ⟨R, 0, none⟩ = some (.pointer (some ⟨d, 0, none⟩)) ∧ World.cell? W ⟨d, 3, none⟩ = some (.slice la n lc)) => run_cell_chgs W ⟨d, 3, none⟩ _ _ _ hW.2)
 (try dsimp only [Act.put, sT, sZ, sS])
 refine wpIn_wide.2 (wp_safe ?_)
 refine anyH_begin (S := fun W => World.cell? W ⟨R, 0, none⟩ = some (.pointer (some ⟨d, 0, none⟩)) ∧ World.cell? W ⟨d, 3, none⟩ = some (.slice la n lc)) (by kernel_rfl) ?_
 refine aL 0 (d := 13) (ty := 25) (x := (.tmp 3)) (p := .pointer (some ⟨R, 0, none⟩)) (.pointer (some ⟨d, 0, none⟩)) HL0.out HS.out ?_
 simp only [Act.put, sT, sZ, sS]
 refine aP 1 (d := 14) (op := .nilCheck (.tmp 13)) (.pointer (some ⟨d, 0, none⟩)) HS.out ?_
 simp only [Act.put, sT, sZ, sS]
 refine aP 2 (d := 15) (op := .fieldAddr 80 (.tmp 14) 3) (.pointer (some ⟨d, 3, none⟩)) HS.out ?_
 simp only [Act.put, sT, sZ, sS]
 refine aL 3 (d := 16) (ty := 78) (x := (.tmp 15)) (p := .pointer (some ⟨d, 3, none⟩)) (.slice la n lc) HL3.out HS.out ?_
 simp only [Act.put, sT, sZ, sS]
 refine aP 4 (d := 17) (op := .move (.tmp 1)) (.int .i64 keep) HS.out ?_
 simp only [Act.put, sT, sZ, sS]
 refine anyH_pureG 5 (d := 18) (op := .call { callee := .builtin .max, args := #[(.tmp 17), (.const (.int .i64 0))], argTypes := #[3, 3] }) (gd := none) (.int .i64 (max keep 0)) (by rfl) wantedP (by kernel_rfl) (by kernel_rfl) (by kernel_rfl) (fun _ _ _ h => h) (fun o ho W1 hW => by unfold execOp; simp only [ho]; go_simp) HS.out ?_
 simp only [Act.put, sT, sZ, sS]
 refine aL 6 (d := 19) (ty := 25) (x := (.tmp 3)) (p := .pointer (some ⟨R, 0, none⟩)) (.pointer (some ⟨d, 0, none⟩)) HL0.out HS.out ?_
 simp only [Act.put, sT, sZ, sS]
 refine aP 7 (d := 20) (op := .nilCheck (.tmp 19)) (.pointer (some ⟨d, 0, none⟩)) HS.out ?_
 simp only [Act.put, sT, sZ, sS]
 refine aP 8 (d := 21) (op := .fieldAddr 80 (.tmp 20) 3) (.pointer (some ⟨d, 3, none⟩)) HS.out ?_
 simp only [Act.put, sT, sZ, sS]
 refine aL 9 (d := 22) (ty := 78) (x := (.tmp 21)) (p := .pointer (some ⟨d, 3, none⟩)) (.slice la n lc) HL3.out HS.out ?_
 simp only [Act.put, sT, sZ, sS]
 refine aP 10 (d := 23) (op := .call { callee := .builtin .len, args := #[(.tmp 22)], argTypes := #[78] }) (.int .i64 (n : Int)) HS.out ?_
 simp only [Act.put, sT, sZ, sS]
 refine anyH_pureG 11 (d := 24) (op := .call { callee := .builtin .min, args := #[(.tmp 18), (.tmp 23)], argTypes := #[3, 3] }) (gd := none) (.int .i64 (kk : Int)) (by rfl) wantedP (by kernel_rfl) (by kernel_rfl) (by kernel_rfl) (fun _ _ _ h => h) (fun o ho W1 hW => by unfold execOp; simp only [ho]; go_simp; try exact hkk0) HS.out ?_
 simp only [Act.put, sT, sZ, sS]
 refine anyH_pureG 12 (d := 25) (op := .slice 78 (.tmp 16) (some (.tmp 24)) none none) (gd := none) (.slice (slc la lc kk) (n - kk) (lc - kk)) (by rfl) wantedP (by kernel_rfl) (by kernel_rfl) (by kernel_rfl) (fun _ _ _ h => h) (fun o ho W1 hW => exec_lastN hkk hnl (x := .tmp 16) (y := .tmp 24) (by rfl) (by rfl) o ho W1) HS.out ?_
 simp only [Act.put, sT, sZ, sS]
 refine aP 13 (d := 7) (op := .assign (.tmp 25)) (.slice (slc la lc kk) (n - kk) (lc - kk)) HS.out ?_
 simp only [Act.put, sT, sZ, sS]
 refine wpAnyH_done (by kernel_rfl) ?_ _
 obtain ⟨w2, hw2⟩ : ∃ w2, w2 = w1.drew := ⟨_, rfl⟩
 rw [← hw2]
 have e0 : w2.cell? ⟨R, 0, none⟩ = some (.pointer (some ⟨d, 0, none⟩)) := by rw [hw2]; exact d0
 have e1 : w2.cell? ⟨R + 1, 0, none⟩ = some (.int .i64 part) := by rw [hw2]; exact d1
 have hs2 : w2.heap.size = R + 2 := by rw [hw2]; exact hs1
 have HK2 := Lib.hid (show DK B d S w2 from by rw [hw2]; exact HK1.out.below (Below.refl _ _).drew)
 have HM2 := Lib.hid (show Mov S d S w w2 from by rw [hw2]; exact HM1.out.trans (Mov.ofBelow (Below.refl _ _).drew))
 clear hw2 d0 d1 c31 hs1 HK1 HM1 HS HL0 HL3 hkk0
 have E0 := Lib.hid e0
 have E1 := Lib.hid e1
 clear e0 e1
 gi_wp2_with (refine ⟨trivial, ?_⟩; gi_at_call 78; refine (callsIn_wide.2 (HBK.out _)).mono ?_; rintro e w3 ⟨rfl, hw3⟩; have HW3 := Lib.hid hw3; clear hw3)
 (try rw [hs2])
 have HI := Lib.hid (show CP B d S A (A.fin keep part) part w n kk la lc R [] w3 from by
  have hb : Below w2.heap.size w2 w3 := by rw [HW3.out]; exact (Below.refl _ _).alloc (Nat.le_refl _) _
  refine ⟨n - kk, Nat.le_refl _, (outs_end _ _).symm, (hb.cell (p := ⟨R, 0, none⟩) (by show R < _; omega)).trans E0.out, (hb.cell (p := ⟨R + 1, 0, none⟩) (by show R + 1 < _; omega)).trans E1.out, by rw [HW3.out, ← hs2]; simp, by rw [HW3.out]; simp [hs2], ?_⟩
  exact CJ.start (HK2.out.below hb) (HM2.out.trans (Mov.ofBelow hb)) HDK.out HRW.out HRA.out hkk HNN.out HKK.out)
 have hsz3 : w3.heap.size = R + 3 := by rw [HW3.out]; simp [hs2]
 clear HW3 HBK HK2 HM2 E0 E1 hs2
 refine range_mem (F := Fence.wide) (n := 3) rfl (by omega) (gf := 115) (lb := #[.pointer (some ⟨R + 2, 0, none⟩)]) rfl trivial (enters_of Tryz.func115 (by kernel_rfl) rfl)
  (enc := encI) (outs (chE S kk) (n - kk) 0) (fun pre x => ∃ q, q < n - kk ∧ pre = outs (chE S kk) (n - kk) (q + 1) ∧ x = (q, chE S kk q)) (fun W1 => ItN (R + 2) (slc la lc kk) (n - kk) (lc - kk) (chE S kk) W1) (fun x => rfl)
  (fun l J Jx W1 hIt hY h0 => backN_c l (R + 2) (n - kk) (lc - kk) (slc la lc kk) (chE S kk) (by omega) J Jx W1 (fun s W2 h => hIt s W2 h) (fun q hq W2 h => by
   have := hY _ (q, chE S kk q) W2 h ⟨q, hq, rfl, rfl⟩
   rw [← outs_step _ _ _ hq] at this
   exact this) h0)
  (fun pre W1 => CP B d S A (A.fin keep part) part w n kk la lc R pre W1) (fun _ _ => False) (fun s W1 W2 hk h => h.keepL HRW.out HDK.out (by rw [← hsz3]; exact hk)) (fun _ _ _ _ h => h) (fun s W1 h => by
   obtain ⟨q, _, _, h⟩ := h
   obtain ⟨S', l', k1, _, _, k2, k3, _⟩ := h.ex
   exact k1.itn HLV.out k2 k3 hkk h.bx) HI.out
  (fun pre x a1 W1 => ∃ (X : Nat) (c : Chg) (rp : Option Addr), a1 = { tmps := #[.pointer (some ⟨d, 0, none⟩), .int .i64 keep, .int .i64 part, .pointer (some ⟨R, 0, none⟩), undef, .pointer (some ⟨R + 1, 0, none⟩), .int .i64 0, .slice (slc la lc kk) (n - kk) (lc - kk), .int .i64 (x.1 : Int), .pointer (some ⟨X, 0, none⟩), undef, .pointer (some ⟨d, 0, none⟩), .bool false, .pointer (some ⟨d, 0, none⟩), .pointer (some ⟨d, 0, none⟩), .pointer (some ⟨d, 3, none⟩), .slice la n lc, .int .i64 keep, .int .i64 (max keep 0), .pointer (some ⟨d, 0, none⟩), .pointer (some ⟨d, 0, none⟩), .pointer (some ⟨d, 3, none⟩), .slice la n lc, .int .i64 (n : Int), .int .i64 (kk : Int), .slice (slc la lc kk) (n - kk) (lc - kk), .slice (slc la lc kk) (n - kk) (lc - kk), .func (.func 115) #[] #[.pointer (some ⟨R + 2, 0, none⟩)], .int .i64 (x.1 : Int), .agg x.2.toArray, undef, undef, undef, undef, undef, undef, undef, undef, undef, undef, undef, undef, undef, undef, undef, undef, undef, undef], defers := [] } ∧ S.loose[kk + x.1]? = some c ∧ rp = c.repl.map (fun b => ⟨b, 0, none⟩) ∧ x.2 = [.int .i64 c.kind, .pointer (some ⟨c.file, 0, none⟩), .int .i64 c.size, .string c.name, .pointer rp] ∧ R + 4 < X ∧ X < W1.heap.size ∧ CX5 X c rp W1 ∧ CP B d S A (A.fin keep part) part w n kk la lc R pre W1)
  (fun s x a W1 W2 hk h => by obtain ⟨X, c, rp, h1, h2, h3, h4, h5, h6, h7, h8⟩ := h; exact ⟨X, c, rp, h1, h2, h3, h4, h5, Nat.lt_of_lt_of_le h6 hk.size, h7.keepL (by rw [← hsz3]; exact hk) h5, h8.keepL HRW.out HDK.out (by rw [← hsz3]; exact hk)⟩) ?assign ?body ?done ?stop
 case assign =>
  rintro l pre x W1 hi ⟨q, hq, rfl, rfl⟩ hlt
  rw [hsz3] at hlt
  have HI1 := Lib.hid hi
  clear hi HI
  have hlen : kk + q < S.loose.length := by have := HNN.out; omega
  obtain ⟨c, hc⟩ : ∃ c, S.loose[kk + q]? = some c := ⟨_, List.getElem?_eq_getElem hlen⟩
  obtain ⟨rp, hrp⟩ : ∃ rp : Option Addr, rp = c.repl.map (fun b => ⟨b, 0, none⟩) := ⟨_, rfl⟩
  have hE : chE S kk q = [.int .i64 c.kind, .pointer (some ⟨c.file, 0, none⟩), .int .i64 c.size, .string c.name, .pointer rp] := by
   unfold chE
   rw [hc, hrp]
   rfl
  have HC := Lib.hid hc
  have HRP := Lib.hid hrp
  clear hc hrp
  simp only [encI, hE]
  gi_wp2
  have hb := (Below.refl W1.heap.size W1).alloc (Nat.le_refl _) (.cells #[.int .i64 c.kind, .pointer (some ⟨c.file, 0, none⟩), .int .i64 c.size, .string c.name, .pointer rp] 145)
  exact ⟨hb.block _ (by omega), hb.block _ (by omega), _, c, rp, rfl, HC.out, HRP.out, rfl, by omega, by simp, ⟨by simp, by simp, by simp, by simp, by simp⟩, HI1.out.later hb⟩
 case body =>
  rintro l pre x a1 W1 ⟨X, c, rp, rfl, hc, hrp, hx2, hX, hXs, ⟨c0, c1, c2, c3, c4⟩, hi⟩ ⟨q, hq, rfl, rfl⟩ hlt
  rw [hsz3] at hlt
  have hcj := hi.at hq
  have i0 := hcj.box
  have i1 := hcj.prt
  simp only at hx2 hc
  have HI1 := Lib.hid hcj
  have HSTEP := Lib.hid (outs_step (chE S kk) (n - kk) q hq)
  rw [hx2] at HSTEP
  clear hi
  simp only [hx2]
  by_cases hq0 : q = 0
  ·
   subst hq0
   obtain ⟨st, hst, hs1⟩ : ∃ st : Nat, min (max part 0) 1048576 = (st : Int) ∧ st ≤ 1048576 := ⟨(min (max part 0) 1048576).toNat, by omega, by omega⟩
   have HU := Lib.hid (CJ.undo HRW.out HDK.out hcj HRA.out hq HNN.out HKK.out (by omega) hc rp hrp st hs1 (.inl ⟨rfl, hst⟩) hN)
   clear hcj HI hc hrp
   gi_wp2_with (refine ⟨trivial, ?_⟩; gi_at_call 79; refine (CallsIn.inRound l (callsIn_wide.2 HU.out)).mono ?_; rintro e w2 ⟨rfl, hci, hkp⟩; have HCI := Lib.hid hci; have HKP := Lib.hid hkp; clear hci hkp c0 c1 c2 c3 c4 i0 i1)
   exact ⟨by rw [hsz3]; exact HKP.out _ (by omega) (by omega), by rw [hsz3]; exact HKP.out _ (by omega) (by omega), 0, Nat.zero_le _, HSTEP.out.symm, HCI.out⟩
  ·
   have hq1 : ((q : Int) == 0) = false := beq_eq_false_iff_ne.2 (by omega)
   have HU := Lib.hid (CJ.undo HRW.out HDK.out hcj HRA.out hq HNN.out HKK.out (by omega) hc rp hrp 0 (by omega) (.inr ⟨hq0, rfl⟩) hN)
   clear hcj HI hc hrp
   gi_wp2_with (refine ⟨trivial, ?_⟩; gi_at_call 79; refine (CallsIn.inRound l (callsIn_wide.2 HU.out)).mono ?_; rintro e w2 ⟨rfl, hci, hkp⟩; have HCI := Lib.hid hci; have HKP := Lib.hid hkp; clear hci hkp c0 c1 c2 c3 c4 i0 i1)
   exact ⟨by rw [hsz3]; exact HKP.out _ (by omega) (by omega), by rw [hsz3]; exact HKP.out _ (by omega) (by omega), q, by omega, HSTEP.out.symm, HCI.out⟩
 case done =>
  rintro D W1 hD hi hK
  rw [hsz3] at hD
  subst hD
  have hcj := hi.end
  obtain ⟨S', l', h1, h2, h3, h4, h5, h6, h7, h8, h9, h10, h11, h12, h13⟩ := hcj.ex
  have k0 := h1.below (Below.refl _ _).drew
  have m0 := h2.trans (Mov.ofBelow (S := S') (d := d) (Below.refl _ _).drew)
  obtain ⟨k1, m1⟩ := k0.sync
  obtain ⟨k2, m2, t1⟩ := k1.cellSet 4 (.int .i64 (-1)) { S'.sure with fuse := -1 } rfl (by omega) rfl ⟨rfl, rfl, rfl⟩
  obtain ⟨k3, m3, t2⟩ := k2.cellSet 5 (.bool false) { S'.sure with fuse := -1, down := false } rfl (by omega) rfl ⟨rfl, rfl, rfl⟩
  have hown : ∀ k, ({ S'.sure with fuse := -1, down := false } : Dsk).own d k → S'.own d k := fun k ho => by
   rcases ho with ho | ho | ho | ho | ho
   ·
    exact .inl ho
   ·
    exact .inr (.inl ho)
   ·
    exact .inr (.inr (.inl ho))
   ·
    exact .inr (.inr (.inr (.inl ho)))
   ·
    cases ho
  have hnR : ∀ k, ({ S'.sure with fuse := -1, down := false } : Dsk).own d k → k ≠ R + 3 := fun k ho => by
   have h14 := h3 k (hown k ho)
   omega
  have HT0 := Lib.hid (row_there k0.hd (o := 3) (by show 3 < 6; omega))
  have HTH0 := Lib.hid HT0.out
  have HTH1 := Lib.hid t1
  have HTH2 := Lib.hid t2
  have HZ := Lib.hid k3
  have HMZ := Lib.hid (((m0.trans m1).trans m2).trans m3)
  have HNR := Lib.hid hnR
  have HEX := Lib.hid (CJ.over HRA.out h4 h5 h6 h7 h8 h9 h10 h11 (h12 rfl) HNN.out)
  have HK := Lib.hid (show W1.drew.heap[R + 3]? = some (.deferred (some [])) from hK)
  have hb0 := hcj.box
  have HS := Lib.hid (show W1.drew.cell? ⟨R, 0, none⟩ = some (.pointer (some ⟨d, 0, none⟩)) from hb0)
  have HL0 := Lib.hid (fun W2 (hW : W2.cell? ⟨R, 0, none⟩ = some (.pointer (some ⟨d, 0, none⟩))) => run_cell_disk W2 _ _ hW)
  clear hi hcj HI h1 h2 h3 h4 h5 h6 h7 h8 h9 h10 h11 h12 h13 k0 m0 k1 m1 k2 m2 t1 k3 m3 t2 hown hnR hK hb0
  have hRW := HRW.out
  have hdR' : d < R := by omega
  gi_wp2
  (try dsimp only [Act.put, sT, sZ, sS])
  refine wpIn_wide.2 (wp_safe ?_)
  refine anyH_begin (S := fun W2 => W2.cell? ⟨R, 0, none⟩ = some (.pointer (some ⟨d, 0, none⟩))) (by kernel_rfl) ?_
  refine aL 0 (d := 39) (ty := 25) (x := (.tmp 3)) (p := .pointer (some ⟨R, 0, none⟩)) (.pointer (some ⟨d, 0, none⟩)) HL0.out HS.out ?_
  simp only [Act.put, sT, sZ, sS]
  refine aL 1 (d := 40) (ty := 25) (x := (.tmp 3)) (p := .pointer (some ⟨R, 0, none⟩)) (.pointer (some ⟨d, 0, none⟩)) HL0.out HS.out ?_
  simp only [Act.put, sT, sZ, sS]
  refine aL 2 (d := 41) (ty := 25) (x := (.tmp 3)) (p := .pointer (some ⟨R, 0, none⟩)) (.pointer (some ⟨d, 0, none⟩)) HL0.out HS.out ?_
  simp only [Act.put, sT, sZ, sS]
  refine aP 3 (d := 42) (op := .nilCheck (.tmp 39)) (.pointer (some ⟨d, 0, none⟩)) HS.out ?_
  simp only [Act.put, sT, sZ, sS]
  refine aP 4 (d := 43) (op := .fieldAddr 80 (.tmp 42) 3) (.pointer (some ⟨d, 3, none⟩)) HS.out ?_
  simp only [Act.put, sT, sZ, sS]
  refine wpAnyH_all (rs := [5]) (by kernel_rfl) (by simp) ?_
  intro k hk; simp only [List.mem_cons, List.not_mem_nil, or_false] at hk; subst hk
  refine op_atJ 5 (d := none) (op := .store 78 (.tmp 43) (.const (.slice none 0 0))) (by rfl) ?_
  intro o0 hod0 hoo0
  refine wp_store_one 78 (.tmp 43) (.const (.slice none 0 0)) hoo0 d 3 (.slice none 0 0) (by rfl) (by rfl) HTH0.out (by kernel_rfl) (by rfl) (by rfl) ?_
  rw [hod0]
  simp only [Act.put, sT, sZ, sS]
  have HS := Lib.hid ((one_cell (o := 3) (v := .slice none 0 0) (show R ≠ d by omega)).trans HS.out)
  refine ⟨HS.out, ?_⟩
  refine aP 6 (d := 44) (op := .nilCheck (.tmp 40)) (.pointer (some ⟨d, 0, none⟩)) HS.out ?_
  simp only [Act.put, sT, sZ, sS]
  refine aP 7 (d := 45) (op := .fieldAddr 80 (.tmp 44) 4) (.pointer (some ⟨d, 4, none⟩)) HS.out ?_
  simp only [Act.put, sT, sZ, sS]
  refine wpAnyH_all (rs := [8]) (by kernel_rfl) (by simp) ?_
  intro k hk; simp only [List.mem_cons, List.not_mem_nil, or_false] at hk; subst hk
  refine op_atJ 8 (d := none) (op := .store 3 (.tmp 45) (.const (.int IntKind.i64 (-1)))) (by rfl) ?_
  intro o1 hod1 hoo1
  refine wp_store_one 3 (.tmp 45) (.const (.int .i64 (-1))) hoo1 d 4 (.int .i64 (-1)) (by rfl) (by rfl) HTH1.out (by kernel_rfl) (by rfl) (by rfl) ?_
  rw [hod1]
  simp only [Act.put, sT, sZ, sS]
  have HS := Lib.hid ((one_cell (o := 4) (v := .int .i64 (-1)) (show R ≠ d by omega)).trans HS.out)
  refine ⟨HS.out, ?_⟩
  refine aP 9 (d := 46) (op := .nilCheck (.tmp 41)) (.pointer (some ⟨d, 0, none⟩)) HS.out ?_
  simp only [Act.put, sT, sZ, sS]
  refine aP 10 (d := 47) (op := .fieldAddr 80 (.tmp 46) 5) (.pointer (some ⟨d, 5, none⟩)) HS.out ?_
  simp only [Act.put, sT, sZ, sS]
  refine wpAnyH_all (rs := [11]) (by kernel_rfl) (by simp) ?_
  intro k hk; simp only [List.mem_cons, List.not_mem_nil, or_false] at hk; subst hk
  refine op_atJ 11 (d := none) (op := .store 4 (.tmp 47) (.const (.bool false))) (by rfl) ?_
  intro o2 hod2 hoo2
  refine wp_store_one 4 (.tmp 47) (.const (.bool false)) hoo2 d 5 (.bool false) (by rfl) (by rfl) HTH2.out (by kernel_rfl) (by rfl) (by rfl) ?_
  rw [hod2]
  simp only [Act.put, sT, sZ, sS]
  have HS := Lib.hid ((one_cell (o := 5) (v := .bool false) (show R ≠ d by omega)).trans HS.out)
  refine ⟨HS.out, ?_⟩
  refine wpAnyH_done (by kernel_rfl) ?_ _
  clear HL0 HS HT0 HTH0 HTH1 HTH2
  have HK3 := Lib.hid (show (((W1.drew.setCells d 3 [.slice none 0 0]).setCells d 4 [.int .i64 (-1)]).setCells d 5 [.bool false]).heap[R + 3]? = some (.deferred (some [])) from by
   rw [one_heap (by omega), one_heap (by omega), one_heap (by omega)]; exact HK.out)
  obtain ⟨w9, hw9⟩ : ∃ w9, w9 = ((W1.drew.setCells d 3 [.slice none 0 0]).setCells d 4 [.int .i64 (-1)]).setCells d 5 [.bool false] := ⟨_, rfl⟩
  have HZ9 := Lib.hid (show DK B d { S'.sure with fuse := -1, down := false } w9 from by rw [hw9]; exact HZ.out)
  have HM9 := Lib.hid (show Mov S d { S'.sure with fuse := -1, down := false } w w9 from by rw [hw9]; exact HMZ.out)
  rw [← hw9] at HK3 ⊢
  clear hw9 HK HZ HMZ
  gi_wp2
  refine ⟨by simp, .inl ⟨_, _, rfl, run_takeDeferred HK3.out, ?_⟩⟩
  refine ⟨.int .i64 0, ?_, rfl, { S'.sure with fuse := -1, down := false }, ?_, HEX.out, ?_⟩
  ·
   simp [results, Tryz.f31, go_sem]
  ·
   exact HZ9.out.keep (fun k ho => World.putObj_heap_other (HNR.out k ho))
  ·
   have m := HM9.out
   exact ⟨m.os, m.tape, m.output, by show w.heap.size ≤ (w9.putObj (R + 3) _).heap.size; simp only [World.putObj, Array.size_setIfInBounds]; exact m.size, fun k hk hn => (World.putObj_heap_other (by omega)).trans (m.block k hk hn), m.own⟩
 case stop =>
  rintro D pre W1 hD hf
  exact hf.elim
end Go.Proofs.YtihbgigledmliaaGreat

namespace Go.Proofs.YtihbgigledmliaaGreat
open Go.RowKit Go.Maps Go.Sort
set_option linter.unusedVariables false
set_option maxRecDepth 100000 in
theorem dnames_down {B d : Nat} {S : Dsk} {w : World} (h : DK B d S w) (hd : S.down = true) (head : ByteArray) : Calls Tryz.prog 61 #[.pointer (some ⟨d, 0, none⟩), .string head] w fun e w' => e = .returned (.tuple #[.slice none 0 0, .int .i64 5]) ∧ w' = w := by
 have HR := Lib.hid (dready_c h)
 rw [hd] at HR
 clear h
 go_enter Tryz.func61, Tryz.ntmps61
 go_wp2_with fail
 refine HR.out.mono ?_
 rintro e1 w1 ⟨rfl, rfl⟩
 go_wp2_with fail
 go_ret2
 exact ⟨rfl, rfl⟩
set_option maxRecDepth 100000 in
set_option maxHeartbeats 4000000 in
theorem dnames_nil {B d : Nat} {S : Dsk} {w : World} (h : DK B d S w) (hd : S.down = false) (hm : S.mb = none) (head : ByteArray) : Calls Tryz.prog 61 #[.pointer (some ⟨d, 0, none⟩), .string head] w fun e w' => e = .returned (.tuple #[.slice none 0 0, .int .i64 0]) ∧ Below w.heap.size w w' := by
 have HR := Lib.hid (dready_c h)
 rw [hd] at HR
 have c1 := h.cells.2.1
 rw [hm] at c1
 have hrg := fun W => run_range_nilMap (P := Tryz.prog) W 77 9 143 Tryz.underlying77
 have hnx : ∀ (W : World) ty, (Instr.next (.pointer (some ⟨W.heap.size, 0, none⟩)) false ty).run Tryz.prog (W.alloc (.mapIter none 0 #[] 0)) = _ := fun W ty => run_next_nilMap W ty 0 0 #[]
 clear h
 go_enter Tryz.func61, Tryz.ntmps61
 go_wp2_with fail
 refine HR.out.mono ?_
 rintro e1 w1 ⟨rfl, rfl⟩
 go_wp2_with fail
 refine wp_loop_rounds 1 ?_
 rw [rounds_succ]
 go_wp2_with fail
 refine (slices_Sort_string_none none 0 _).mono ?_
 rintro e3 w3 ⟨rfl, rfl⟩
 go_wp2_with fail
 go_ret2
 exact ⟨rfl, (Below.refl _ _).alloc (Nat.le_refl _) _⟩
/-- what Names answers -/
def NmA (A : Ad) (head : ByteArray) (w : World) (e : Ending) (w' : World) : Prop := if A.down then e = .returned (.tuple #[.slice none 0 0, .int .i64 5]) ∧ w' = w else NmT A.now head w e w'
theorem at_small {B d N : Nat} {S : Dsk} {A : Ad} {w : World} (h : DK B d S w) (r : RA N S A) (s : ByteArray) (hs : (S.at s).isSome = true) : s.size ≤ 160 := by
 cases e : S.at s with
 | none => rw [e] at hs; cases hs
 | some b =>
  obtain ⟨f, hf, hn⟩ := h.rest.at e
  rw [← hn]
  exact r.nms b f hf
theorem anames {B d N : Nat} {S : Dsk} {A : Ad} {w : World} (h : DK B d S w) (r : RA N S A) (head : ByteArray) (hz : A.now.length ≤ 100000) : Calls Tryz.prog 61 #[.pointer (some ⟨d, 0, none⟩), .string head] w (NmA A head w) := by
 unfold NmA
 rcases down_cases A with hd | hd
 ·
  rw [hd]
  exact dnames_down h (r.down.trans hd) head
 ·
  rw [hd]
  have hdS := r.down.trans hd
  cases hm : S.mb with
  | none =>
   have hD : A.now = [] := by
    have h1 := r.size
    rcases h.rest.hm with ⟨_, h2⟩ | ⟨m, h2, _⟩
    ·
     rw [h2] at h1
     exact List.eq_nil_of_length_eq_zero h1.symm
    ·
     rw [hm] at h2; cases h2
   refine (dnames_nil h hdS hm head).mono ?_
   rintro e w' ⟨rfl, hb⟩
   simp only [Bool.false_eq_true, if_false]
   rw [hD]
   exact ⟨none, 0, 0, rfl, World.ownsRow_nil _ _ _ _, rfl, hb⟩
  | some m => exact dnames_loop h hdS hm head (by rw [r.size]; exact hz) (fun s hs => at_small h r s hs) r.js
/-- what Read answers -/
def RdA (A : Ad) (s : ByteArray) (x n : Int) (w : World) (e : Ending) (w' : World) : Prop :=
 if A.down then e = .returned (.tuple #[.slice none 0 0, .int .i64 5]) ∧ w' = w else match lookF A.now s with
 | none => e = .returned (.tuple #[.slice none 0 0, .int .i64 6]) ∧ w' = w
 | some z => if x < 0 ∨ n < 0 then e = .returned (.tuple #[.slice none 0 0, .int .i64 1]) ∧ w' = w else
  ∃ va vn vc, e = .returned (.tuple #[.slice va vn vc, .int .i64 0]) ∧ Own w' w.heap.size (.slice va vn vc) ((z.drop x.toNat).take n.toNat) ∧ vn = ((z.drop x.toNat).take n.toNat).length ∧ (∀ y ∈ (z.drop x.toNat).take n.toNat, y < 256) ∧ Below w.heap.size w w'
theorem aread {B d N : Nat} {S : Dsk} {A : Ad} {w : World} (h : DK B d S w) (r : RA N S A) (s : ByteArray) (hs : s.size ≤ maxLen) (x n : Int) : Calls Tryz.prog 54 #[.pointer (some ⟨d, 0, none⟩), .string s, .int .i64 x, .int .i64 n] w (RdA A s x n w) := by
 unfold RdA
 rcases down_cases A with hd | hd
 ·
  rw [hd]
  have hf := find_down (s := s) (r.down.trans hd)
  refine (dread_no h s hs x n (by rw [hf]; decide)).mono ?_
  rw [hf]
  rintro e w' ⟨rfl, rfl⟩
  exact ⟨rfl, rfl⟩
 ·
  rw [hd]
  have hdS := r.down.trans hd
  simp only [Bool.false_eq_true, if_false]
  cases ha : S.at s with
  | none =>
   rw [r.none ha]
   have hf := find_none hdS ha
   refine (dread_no h s hs x n (by rw [hf]; decide)).mono ?_
   rw [hf]
   rintro e w' ⟨rfl, rfl⟩
   exact ⟨rfl, rfl⟩
  | some b =>
   obtain ⟨f, hfl, hfs⟩ := h.rest.at ha
   rw [r.has ha hfl]
   simp only
   by_cases hb : x < 0 ∨ n < 0
   ·
    simp only [if_pos hb]
    exact dread_bad h s hs x n hdS ha hb
   ·
    simp only [if_neg hb]
    exact dread_ok h s hs x n hdS ha hfl (by omega) (by omega) (by have := r.zsl b f hfl; omega)
/-- what Size answers -/
def SzA (A : Ad) (s : ByteArray) (w : World) (e : Ending) (w' : World) : Prop := w' = w ∧
 if A.down then e = .returned (.tuple #[.int .i64 0, .int .i64 5]) else match lookF A.now s with
 | none => e = .returned (.tuple #[.int .i64 0, .int .i64 6])
 | some z => e = .returned (.tuple #[.int .i64 (z.length : Int), .int .i64 0])
theorem asize {B d N : Nat} {S : Dsk} {A : Ad} {w : World} (h : DK B d S w) (r : RA N S A) (s : ByteArray) (hs : s.size ≤ maxLen) : Calls Tryz.prog 62 #[.pointer (some ⟨d, 0, none⟩), .string s] w (SzA A s w) := by
 unfold SzA
 rcases down_cases A with hd | hd
 ·
  rw [hd]
  have hf := find_down (s := s) (r.down.trans hd)
  refine (dsize_no h s hs (by rw [hf]; decide)).mono ?_
  rw [hf]
  rintro e w' ⟨rfl, rfl⟩
  exact ⟨rfl, rfl⟩
 ·
  rw [hd]
  have hdS := r.down.trans hd
  simp only [Bool.false_eq_true, if_false]
  cases ha : S.at s with
  | none =>
   rw [r.none ha]
   have hf := find_none hdS ha
   refine (dsize_no h s hs (by rw [hf]; decide)).mono ?_
   rw [hf]
   rintro e w' ⟨rfl, rfl⟩
   exact ⟨rfl, rfl⟩
  | some b =>
   obtain ⟨f, hfl, hfs⟩ := h.rest.at ha
   rw [r.has ha hfl]
   refine (dsize_ok h s hs hdS ha hfl).mono ?_
   rintro e w' ⟨rfl, rfl⟩
   exact ⟨rfl, rfl⟩
end Go.Proofs.YtihbgigledmliaaGreat

namespace Go.Proofs.YtihbgigledmliaaGreat
open Go.RowKit
set_option linter.unusedVariables false
theorem ba_neq {s t : ByteArray} (h : ¬ s = t) : ¬ s.toList = t.toList := fun h2 => h (ba_ext (by rw [← Lib.toList_data, ← Lib.toList_data]; exact h2))
/-- bytes in memory that is none of N's -/
structure RB (N : Nat → Prop) (w : World) (a : Option Addr) (n c : Nat) (zs : List Nat) : Prop where
 rd : Rd w a n zs
 no : ∀ b o s, a = some ⟨b, o, s⟩ → n ≠ 0 → ¬ N b
 nil : a = none → c = 0
 le : n ≤ c
/-- what is none of N's stands -/
structure Sta (N : Nat → Prop) (w w' : World) : Prop where
 size : w.heap.size ≤ w'.heap.size
 blk : ∀ k, k < w.heap.size → ¬ N k → w'.heap[k]? = w.heap[k]?
theorem Sta.refl (N : Nat → Prop) (w : World) : Sta N w w := ⟨Nat.le_refl _, fun _ _ _ => rfl⟩
theorem Sta.ofBelow {N : Nat → Prop} {w w' : World} (h : Below w.heap.size w w') : Sta N w w' := ⟨h.size, fun k hk _ => h.block k hk⟩
theorem Sta.cell {N : Nat → Prop} {w w' : World} (h : Sta N w w') {b o : Nat} (hb : b < w.heap.size) (hn : ¬ N b) : w'.cell? ⟨b, o, none⟩ = w.cell? ⟨b, o, none⟩ := World.cell?_of_block (h.blk b hb hn)
/-- N' is N and blocks that are new -/
def Ren (N N' : Nat → Prop) (w : World) : Prop := ∀ k, N' k → N k ∨ w.heap.size ≤ k
theorem Ren.refl (N : Nat → Prop) (w : World) : Ren N N w := fun _ h => .inl h
theorem RB.sta {N N' : Nat → Prop} {w w' : World} {a : Option Addr} {n c : Nat} {zs : List Nat} (h : RB N w a n c zs) (hs : Sta N w w') (hr : Ren N N' w) : RB N' w' a n c zs := by
 obtain ⟨⟨h1, h2, h3⟩, h4, h5, h6⟩ := h
 by_cases h0 : n = 0
 ·
  exact ⟨⟨h1, h2, .inl h0⟩, fun _ _ _ _ hn => absurd h0 hn, h5, h6⟩
 ·
  rcases h3 with h3 | ⟨b, o, rfl, hb, hc⟩
  ·
   exact absurd h3 h0
  ·
   have hno := h4 b o none rfl h0
   refine ⟨⟨h1, h2, .inr ⟨b, o, rfl, Nat.lt_of_lt_of_le hb hs.size, fun i hi => ?_⟩⟩, fun b' o' s' e hn hN => ?_, h5, h6⟩
   ·
    rw [hs.cell hb hno]; exact hc i hi
   ·
    cases e
    rcases hr b hN with h | h
    ·
     exact hno h
    ·
     omega
theorem RB.below {N : Nat → Prop} {w w' : World} {a : Option Addr} {n c : Nat} {zs : List Nat} (h : RB N w a n c zs) (hb : Below w.heap.size w w') : RB N w' a n c zs := h.sta (Sta.ofBelow hb) (Ren.refl _ _)
/-- a file's two cells -/
def FC (N : Nat → Prop) (w : World) (f : ByteArray × List Nat) (x y : Value) : Prop := x = .string f.1 ∧ ∃ ra rn rc, y = .slice ra rn rc ∧ RB N w ra rn rc f.2
theorem FC.sta {N N' : Nat → Prop} {w w' : World} {f : ByteArray × List Nat} {x y : Value} (h : FC N w f x y) (hs : Sta N w w') (hr : Ren N N' w) : FC N' w' f x y := by
 obtain ⟨h1, ra, rn, rc, h2, h3⟩ := h
 exact ⟨h1, ra, rn, rc, h2, h3.sta hs hr⟩
/-- a list of files in memory that is none of N's -/
structure RF (N : Nat → Prop) (w : World) (a : Option Addr) (len : Nat) (l : Fls) : Prop where
 ln : len = l.length
 row : len = 0 ∨ ∃ b o, a = some ⟨b, o, none⟩ ∧ b < w.heap.size ∧ ¬ N b ∧ ∀ i f, l[i]? = some f → ∃ x y, w.cell? ⟨b, o + 2 * i, none⟩ = some x ∧ w.cell? ⟨b, o + 2 * i + 1, none⟩ = some y ∧ FC N w f x y
theorem RF.nil (N : Nat → Prop) (w : World) (a : Option Addr) : RF N w a 0 [] := ⟨rfl, .inl rfl⟩
theorem RF.sta {N N' : Nat → Prop} {w w' : World} {a : Option Addr} {len : Nat} {l : Fls} (h : RF N w a len l) (hs : Sta N w w') (hr : Ren N N' w) : RF N' w' a len l := by
 refine ⟨h.ln, ?_⟩
 rcases h.row with h0 | ⟨b, o, h1, h2, h3, h4⟩
 ·
  exact .inl h0
 ·
  refine .inr ⟨b, o, h1, Nat.lt_of_lt_of_le h2 hs.size, fun hN => ?_, fun i f hf => ?_⟩
  ·
   rcases hr b hN with h | h
   ·
    exact h3 h
   ·
    omega
  ·
   obtain ⟨x, y, k1, k2, k3⟩ := h4 i f hf
   exact ⟨x, y, (hs.cell h2 h3).trans k1, (hs.cell h2 h3).trans k2, k3.sta hs hr⟩
theorem RF.below {N : Nat → Prop} {w w' : World} {a : Option Addr} {len : Nat} {l : Fls} (h : RF N w a len l) (hb : Below w.heap.size w w') : RF N w' a len l := h.sta (Sta.ofBelow hb) (Ren.refl _ _)
theorem RF.at {N : Nat → Prop} {w : World} {a : Option Addr} {len : Nat} {l : Fls} (h : RF N w a len l) {i : Nat} (hi : i < len) : ∃ b o f ra rn rc, a = some ⟨b, o, none⟩ ∧ b < w.heap.size ∧ l[i]? = some f ∧ w.cell? ⟨b, o + 2 * i, none⟩ = some (.string f.1) ∧ w.cell? ⟨b, o + 2 * i + 1, none⟩ = some (.slice ra rn rc) ∧ RB N w ra rn rc f.2 := by
 rcases h.row with h0 | ⟨b, o, h1, h2, h3, h4⟩
 ·
  omega
 ·
  have hl : i < l.length := by have := h.ln; omega
  obtain ⟨x, y, k1, k2, rfl, ra, rn, rc, rfl, k3⟩ := h4 i l[i] (List.getElem?_eq_getElem hl)
  exact ⟨b, o, l[i], ra, rn, rc, h1, h2, List.getElem?_eq_getElem hl, k1, k2, k3⟩
theorem run_file_idx (W : World) (b o len cap i : Nat) (hi : i < len) : (Instr.indexAt 81 (.slice (some ⟨b, o, none⟩) len cap) (.int .i64 (i : Int))).run Tryz.prog W = .ok (.pointer (some ⟨b, o + 2 * i, none⟩)) W := by
 rw [run_indexAt_slice W 81 ⟨b, o, none⟩ len cap .i64 (i : Int) (by kernel_rfl)]
 have h1 : (0 : Int) ≤ (i : Int) ∧ (i : Int) < (len : Int) := by omega
 rw [if_pos h1, show (Go.sizeOf (Tryz.prog.elem 81)).run Tryz.prog W = .ok 2 W from by kernel_rfl]
 simp [Result.andThen, Addr.add, Nat.mul_comm]
/-- the place of a name -/
def idxF : Fls → ByteArray → Option Nat
 | [], _ => none
 | x :: l, n => if x.1 = n then some 0 else (idxF l n).map (· + 1)
def ixI : Option Nat → Int
 | none => -1
 | some k => (k : Int)
theorem idxF_some : ∀ {l : Fls} {n : ByteArray} {k : Nat}, idxF l n = some k → ∃ z, l[k]? = some (n, z) ∧ lookF l n = some z
 | [], n, k, h => by cases h
 | x :: l, n, k, h => by
  unfold idxF at h
  split at h
  ·
   rename_i e
   cases h
   subst e
   exact ⟨x.2, rfl, by unfold lookF; rw [if_pos rfl]⟩
  ·
   rename_i e
   cases hk : idxF l n with
   | none => rw [hk] at h; cases h
   | some j =>
    rw [hk] at h
    have h' : j + 1 = k := by simpa using h
    obtain ⟨z, h1, h2⟩ := idxF_some hk
    refine ⟨z, by rw [← h']; exact h1, ?_⟩
    unfold lookF
    rw [if_neg e]; exact h2
theorem idxF_none : ∀ {l : Fls} {n : ByteArray}, idxF l n = none ↔ lookF l n = none
 | [], n => by simp [idxF, lookF]
 | x :: l, n => by
  unfold idxF lookF
  by_cases e : x.1 = n
  ·
   rw [if_pos e, if_pos e]; simp
  ·
   rw [if_neg e, if_neg e, Option.map_eq_none_iff]; exact idxF_none
theorem idxF_at : ∀ {l : Fls} {n : ByteArray} {k : Nat} {f : ByteArray × List Nat}, (∀ j g, j < k → l[j]? = some g → g.1 ≠ n) → l[k]? = some f → f.1 = n → idxF l n = some k
 | [], n, k, f, _, h, _ => by simp at h
 | x :: l, n, 0, f, _, h, e => by
  cases h
  unfold idxF
  rw [if_pos e]
 | x :: l, n, k + 1, f, hj, h, e => by
  unfold idxF
  rw [if_neg (hj 0 x (by omega) rfl), idxF_at (k := k) (f := f) (fun j g hlt hg => hj (j + 1) g (by omega) hg) h e]
  rfl
theorem idxF_no : ∀ {l : Fls} {n : ByteArray}, (∀ j g, j < l.length → l[j]? = some g → g.1 ≠ n) → idxF l n = none
 | [], n, _ => rfl
 | x :: l, n, h => by
  unfold idxF
  rw [if_neg (h 0 x (by simp) rfl), idxF_no fun j g hlt hg => h (j + 1) g (by simpa using hlt) hg]
  rfl
set_option maxRecDepth 100000 in
set_option maxHeartbeats 4000000 in
theorem rfind_c {N : Nat → Prop} {w : World} {a : Option Addr} {len cap : Nat} {l : Fls} (h : RF N w a len l) (n : ByteArray) (hm : len ≤ 1000000000) :
  Calls Tryz.prog 38 #[.slice a len cap, .string n] w fun e w' => e = .returned (.int .i64 (ixI (idxF l n))) ∧ w' = w := by
 have HRF := Lib.hid h
 clear h
 go_enter Tryz.func38, Tryz.ntmps38
 go_wp2_with fail
 go_loopw [5] (fun i wr => ∃ k : Nat, k ≤ len ∧ i = .int .i64 k ∧ Hid (∀ j g, j < k → l[j]? = some g → g.1 ≠ n) ∧ w = wr) (fun i _ => len - (intOf i).toNat)
 case atStart => exact ⟨0, Nat.zero_le _, rfl, Lib.hid (fun j g hj => absurd hj (Nat.not_lt_zero _)), rfl⟩
 case round =>
  obtain ⟨k, hk, rfl, HJ, rfl⟩ := hrel
  by_cases hkl : k < len
  ·
   obtain ⟨b, o, f, ra, rn, rc, rfl, hb, hf, c0, c1, hrb⟩ := HRF.out.at hkl
   have hix := fun W => run_file_idx W b o len cap k hkl
   have HF := Lib.hid hf
   clear hf hrb c1
   by_cases e : f.1 = n
   ·
    have HR := Lib.hid (idxF_at HJ.out HF.out e)
    have hne : (f.1.toList == n.toList) = true := by rw [e]; simp
    clear e
    go_wp2_with fail
    go_ret
    refine ⟨?_, rfl⟩
    rw [HR.out]; rfl
   ·
    have HE := Lib.hid e
    have hne : (f.1.toList == n.toList) = false := beq_eq_false_iff_ne.2 (ba_neq e)
    clear e
    go_wp2_with fail
    go_roundw
    case rel => exact ⟨k + 1, by omega, by go_num, Lib.hid (fun j g hj hg => by
     by_cases hjk : j = k
     ·
      subst hjk
      rw [HF.out] at hg
      cases hg
      exact HE.out
     ·
      exact HJ.out j g (by omega) hg), by trivial⟩
    case measure => simp [intOf]; omega
  ·
   have HR := Lib.hid (show idxF l n = none from idxF_no fun j g hj hg => HJ.out j g (by have := HRF.out.ln; omega) hg)
   go_wp2_with fail
   go_ret
   refine ⟨?_, rfl⟩
   rw [HR.out]; rfl
theorem usedF_take : ∀ {l : Fls} {k : Nat} {f : ByteArray × List Nat}, l[k]? = some f → usedF (l.take (k + 1)) = usedF (l.take k) + f.2.length
 | [], k, f, h => by simp at h
 | x :: l, 0, f, h => by cases h; simp [usedF]
 | x :: l, k + 1, f, h => by
  have := usedF_take (l := l) (k := k) (f := f) h
  simp only [List.take_succ_cons, usedF] at this ⊢
  omega
theorem usedF_le : ∀ (l : Fls) (k : Nat), usedF (l.take k) ≤ usedF l
 | [], k => by simp
 | x :: l, 0 => by simp [usedF]
 | x :: l, k + 1 => by
  have := usedF_le l k
  simp only [List.take_succ_cons, usedF]
  omega
set_option maxRecDepth 100000 in
set_option maxHeartbeats 4000000 in
theorem rused_c {N : Nat → Prop} {w : World} {a : Option Addr} {len cap : Nat} {l : Fls} (h : RF N w a len l) (hm : len ≤ 1000000000) (hu : usedF l ≤ 1000000000000) :
  Calls Tryz.prog 59 #[.slice a len cap] w fun e w' => e = .returned (.int .i64 (usedF l : Int)) ∧ w' = w := by
 have HRF := Lib.hid h
 have HLEN := Lib.hid h.ln
 clear h
 go_enter Tryz.func59, Tryz.ntmps59
 go_wp2_with fail
 go_loopw [3, 4] (fun s i wr => ∃ k : Nat, k ≤ len ∧ i = .int .i64 k ∧ (∃ q : Nat, s = .int .i64 (q : Int) ∧ Hid (q = usedF (l.take k))) ∧ w = wr) (fun _ i _ => len - (intOf i).toNat)
 case atStart => exact ⟨0, Nat.zero_le _, rfl, ⟨0, rfl, Lib.hid (by simp [usedF])⟩, rfl⟩
 case round =>
  obtain ⟨k, hk, rfl, ⟨q, rfl, HQ⟩, rfl⟩ := hrel
  by_cases hkl : k < len
  ·
   obtain ⟨b, o, f, ra, rn, rc, rfl, hb, hf, c0, c1, hrb⟩ := HRF.out.at hkl
   have hix := fun W => run_file_idx W b o len cap k hkl
   have hq2 : q + rn = usedF (l.take (k + 1)) := by rw [usedF_take hf, ← HQ.out, hrb.rd.1]
   have hq3 : q + rn ≤ 1000000000000 := by rw [hq2]; exact Nat.le_trans (usedF_le _ _) hu
   have HQ2 := Lib.hid hq2
   clear hf hrb c0 hq2
   go_wp2_with fail
   go_roundw
   case rel => exact ⟨k + 1, by omega, by go_num, ⟨q + rn, by go_num, HQ2⟩, by trivial⟩
   case measure => simp [intOf]; omega
  ·
   have HE := Lib.hid (show q = usedF l by rw [HQ.out, List.take_of_length_le (by have := HLEN.out; omega)])
   go_wp2_with fail
   go_ret
   refine ⟨?_, rfl⟩
   rw [HE.out]
   rfl
end Go.Proofs.YtihbgigledmliaaGreat

namespace Go.Proofs.YtihbgigledmliaaGreat
open Go.RowKit
set_option linter.unusedVariables false
theorem info_file : (Tryz.prog.info? 96).map (fun i => (i.zero, i.size, i.bytes)) = some (some (.agg #[.string ⟨#[]⟩, .slice none 0 0]), 2, 40) := by kernel_rfl
abbrev FR2 := Value × Value
def fcells (rs : List FR2) : List Value := rs.flatMap fun r => [r.1, r.2]
theorem fcells_append (rs ss : List FR2) : fcells (rs ++ ss) = fcells rs ++ fcells ss := by unfold fcells; rw [List.flatMap_append]
theorem fcells_get : ∀ (rs : List FR2) (i : Nat) (r : FR2), rs[i]? = some r → (fcells rs)[2 * i]? = some r.1 ∧ (fcells rs)[2 * i + 1]? = some r.2
 | [], i, r, h => by simp at h
 | x :: rs, 0, r, h => by cases h; exact ⟨rfl, rfl⟩
 | x :: rs, i + 1, r, h => by
  have := fcells_get rs i r h
  unfold fcells at this ⊢
  rw [List.flatMap_cons, show 2 * (i + 1) = 2 * i + 2 by omega]
  exact this
/-- a row of files that the call owns -/
abbrev OwnF (w : World) (B : Nat) (v : Value) (rs : List FR2) : Prop := w.ownsRow B 96 2 v rs.length (fcells rs)
/-- what its cells are -/
structure FRs (N : Nat → Prop) (w : World) (rs : List FR2) (l : Fls) : Prop where
 ln : rs.length = l.length
 cel : ∀ (i : Nat) (r : FR2) (f : ByteArray × List Nat), rs[i]? = some r → l[i]? = some f → FC N w f r.1 r.2
theorem FRs.nil (N : Nat → Prop) (w : World) : FRs N w [] [] := ⟨rfl, fun i r f h => by simp at h⟩
theorem FRs.sta {N N' : Nat → Prop} {w w' : World} {rs : List FR2} {l : Fls} (h : FRs N w rs l) (hs : Sta N w w') (hr : Ren N N' w) : FRs N' w' rs l := ⟨h.ln, fun i r f h1 h2 => (h.cel i r f h1 h2).sta hs hr⟩
theorem FRs.push {N : Nat → Prop} {w : World} {rs : List FR2} {l : Fls} (h : FRs N w rs l) {r : FR2} {f : ByteArray × List Nat} (hc : FC N w f r.1 r.2) : FRs N w (rs ++ [r]) (l ++ [f]) := by
 refine ⟨by simp [h.ln], fun i r' f' h1 h2 => ?_⟩
 by_cases hi : i < rs.length
 ·
  rw [List.getElem?_append_left hi] at h1
  rw [List.getElem?_append_left (by rw [← h.ln]; exact hi)] at h2
  exact h.cel i r' f' h1 h2
 ·
  rw [List.getElem?_append_right (by omega)] at h1
  rw [List.getElem?_append_right (by rw [← h.ln]; omega), ← h.ln] at h2
  have hz : i - rs.length = 0 := by
   have := (List.getElem?_eq_some_iff.1 h1).1
   simp at this
   omega
  rw [hz] at h1 h2
  cases h1
  cases h2
  exact hc
theorem RF.of {N : Nat → Prop} {w : World} {B len cap : Nat} {a : Option Addr} {rs : List FR2} {l : Fls} (h : OwnF w B (.slice a len cap) rs) (hf : FRs N w rs l) (hN : ∀ k, N k → k < B) : RF N w a len l ∧ len = l.length := by
 rcases h.2 with ⟨h1, h2⟩ | ⟨g, c, cur, h1, h2, h3, h4, h5, h6, h7⟩
 ·
  obtain ⟨e1, e2, e3⟩ := Value.slice.inj h1
  subst e2
  have : l = [] := List.eq_nil_of_length_eq_zero (by rw [← hf.ln]; exact h2)
  subst this
  exact ⟨RF.nil _ _ _, rfl⟩
 ·
  obtain ⟨e1, e2, e3⟩ := Value.slice.inj h1
  subst e1 e2
  refine ⟨⟨hf.ln, .inr ⟨g, 0, rfl, (Array.getElem?_eq_some_iff.1 h3).1, fun hn => by have := hN g hn; omega, fun i f hi => ?_⟩⟩, hf.ln⟩
  have hil : i < rs.length := by rw [hf.ln]; exact (List.getElem?_eq_some_iff.1 hi).1
  have hr := List.getElem?_eq_getElem hil
  obtain ⟨c0, c1⟩ := fcells_get rs i _ hr
  refine ⟨_, _, ?_, ?_, hf.cel i _ f hr hi⟩
  ·
   rw [cell_of_row w g _ cur _ _ h3, ← Array.getElem?_toList, Nat.zero_add, ← c0, ← h7, List.getElem?_take, if_pos (by omega)]
  ·
   rw [cell_of_row w g _ cur _ _ h3, ← Array.getElem?_toList, Nat.zero_add, ← c1, ← h7, List.getElem?_take, if_pos (by omega)]
theorem wpList_pushFl {w : World} {ops : Array Oper} {rest : List Oper} {o : Oper} {a : Act} {Q : Exit → Act → World → Prop} (hgd : o.guard = none) (s x : Operand)
  (ho : o.op = .call { callee := .builtin .append, args := #[s, x], argTypes := #[81, 81] })
  (B : Nat) (v : Value) (rs : List FR2) (r : FR2) (h1 : r.1.oneCell' = true) (h2 : r.2.oneCell' = true) (hs : a.eval s = v) (hown : OwnF w B v rs) (hB : B ≤ w.heap.size) (hx : a.eval x = .slice (some ⟨w.heap.size, 0, none⟩) 1 1)
  (hlen : rs.length + 1 ≤ 1000000000)
  (h : ∀ v' w', OwnF w' B v' (rs ++ [r]) → (w.alloc (.cells #[r.1, r.2] 96)).grownBy w' v.ownBlock → wpList Tryz.prog ops Q rest (a.put o.dst v') w') :
  wpList Tryz.prog ops Q (o :: rest) a (w.alloc (.cells #[r.1, r.2] 96)) := by
 obtain ⟨i0, hi, hz0, hz1, hz2⟩ := info_parts info_file
 have hal : OwnF (w.alloc (.cells #[r.1, r.2] 96)) B v rs := World.ownsRow.alloc hown _
 refine wpList_append_own _ hgd s x 81 ho B 96 i0 _ 2 40 Tryz.underlying81 hi hz0 hz1 hz2 rfl (by decide) v rs.length (fcells rs) hs hal ⟨w.heap.size, 0, none⟩ 1 1 [r.1, r.2] hx rfl ?_ ?_ (by unfold maxLen; omega) (by omega) (by simp; omega) ?_
 ·
  intro j u hj
  rw [Addr.add_mid, Nat.zero_add, cell_of_row _ _ _ _ _ _ (heap_new _ _)]
  simpa using hj
 ·
  intro u hu
  simp only [List.mem_cons, List.not_mem_nil, or_false] at hu
  rcases hu with rfl | rfl
  ·
   exact h1
  ·
   exact h2
 ·
  intro v' w' k1 k2 _
  refine h v' w' ?_ k2
  have e : (rs ++ [r]).length = rs.length + 1 := by simp
  unfold OwnF
  rw [e, fcells_append]
  exact k1
/-- new blocks are forbidden, too -/
def Low (N : Nat → Prop) (w : World) (k : Nat) : Prop := N k ∨ w.heap.size ≤ k
theorem RB.low {N : Nat → Prop} {w : World} {a : Option Addr} {n c : Nat} {zs : List Nat} (h : RB N w a n c zs) : RB (Low N w) w a n c zs := by
 refine ⟨h.rd, fun b o s e hn hl => ?_, h.nil, h.le⟩
 rcases hl with hl | hl
 ·
  exact h.no b o s e hn hl
 ·
  obtain ⟨_, _, h0 | ⟨b', o', e', hb, _⟩⟩ := h.rd
  ·
   exact hn h0
  ·
   rw [e'] at e; cases e; omega
theorem FC.low {N : Nat → Prop} {w : World} {f : ByteArray × List Nat} {x y : Value} (h : FC N w f x y) : FC (Low N w) w f x y := by
 obtain ⟨h1, ra, rn, rc, h2, h3⟩ := h
 exact ⟨h1, ra, rn, rc, h2, h3.low⟩
theorem RF.low {N : Nat → Prop} {w : World} {a : Option Addr} {len : Nat} {l : Fls} (h : RF N w a len l) : RF (Low N w) w a len l := by
 refine ⟨h.ln, ?_⟩
 rcases h.row with h0 | ⟨b, o, h1, h2, h3, h4⟩
 ·
  exact .inl h0
 ·
  refine .inr ⟨b, o, h1, h2, fun hl => ?_, fun i f hf => ?_⟩
  ·
   rcases hl with hl | hl
   ·
    exact h3 hl
   ·
    omega
  ·
   obtain ⟨x, y, k1, k2, k3⟩ := h4 i f hf
   exact ⟨x, y, k1, k2, k3.low⟩
theorem FC.weak {N M : Nat → Prop} {w : World} {f : ByteArray × List Nat} {x y : Value} (h : FC M w f x y) (hw : ∀ k, N k → M k) : FC N w f x y := by
 obtain ⟨h1, ra, rn, rc, h2, h3⟩ := h
 exact ⟨h1, ra, rn, rc, h2, h3.rd, fun b o s e hn hN => h3.no b o s e hn (hw b hN), h3.nil, h3.le⟩
theorem FRs.weak {N M : Nat → Prop} {w : World} {rs : List FR2} {l : Fls} (h : FRs M w rs l) (hw : ∀ k, N k → M k) : FRs N w rs l := ⟨h.ln, fun i r f h1 h2 => (h.cel i r f h1 h2).weak hw⟩
/-- appending to a row of the call's own leaves what was there ahead of the call -/
theorem sta_push {N : Nat → Prop} {w wr w5 : World} {v : Value} {rs : List FR2} {o : Obj} (hb : Below w.heap.size w wr) (hown : OwnF wr w.heap.size v rs) (hg : (wr.alloc o).grownBy w5 v.ownBlock) : Sta (Low N w) wr w5 ∧ Below w.heap.size w w5 := by
 have hsz := hb.size
 refine ⟨⟨by have := hg.size; rw [World.size_alloc] at this; omega, fun j hj hn => ?_⟩, (hb.alloc hsz _).grown hg (by simp; omega) fun k hk => (World.ownsRow.lt hown k hk).1⟩
 have hjw : j < w.heap.size := by
  by_cases h : j < w.heap.size
  ·
   exact h
  ·
   exact absurd (.inr (by omega)) hn
 rw [hg.block j (by rw [World.size_alloc]; omega) fun e => by have h2 := (World.ownsRow.lt hown j e.symm).1; omega]
 exact Below.heap_alloc _ _ _ hj
theorem sta_push2 {N : Nat → Prop} {w w1 wr w5 : World} {X : Nat} {v : Value} {rs : List FR2} {o : Obj} (hb1 : Below w.heap.size w w1) (hs1 : w1.heap.size = X + 1) (hb : Below (X + 1) w1 wr) (hown : OwnF wr (X + 1) v rs) (hg : (wr.alloc o).grownBy w5 v.ownBlock) : Sta (Low N w) wr w5 ∧ Below (X + 1) w1 w5 := by
 have hsz := hb.size
 have hsw := hb1.size
 refine ⟨⟨by have := hg.size; rw [World.size_alloc] at this; omega, fun j hj hn => ?_⟩, (hb.alloc (by omega) _).grown hg (by simp; omega) fun k hk => (World.ownsRow.lt hown k hk).1⟩
 have hjw : j < w.heap.size := by
  by_cases h : j < w.heap.size
  ·
   exact h
  ·
   exact absurd (.inr (by omega)) hn
 rw [hg.block j (by rw [World.size_alloc]; omega) fun e => by have h2 := (World.ownsRow.lt hown j e.symm).1; omega]
 exact Below.heap_alloc _ _ _ hj
theorem without_snoc : ∀ (l : Fls) (f : ByteArray × List Nat) (n : ByteArray), withoutF (l ++ [f]) n = if f.1 = n then withoutF l n else withoutF l n ++ [f]
 | [], f, n => by simp [withoutF]
 | x :: l, f, n => by
  simp only [List.cons_append, withoutF]
  rw [without_snoc l f n]
  by_cases e : x.1 = n
  ·
   simp [e]
  ·
   simp only [e, if_false]
   by_cases k : f.1 = n
   ·
    simp [k]
   ·
    simp [k]
theorem without_len (l : Fls) (n : ByteArray) : (withoutF l n).length ≤ l.length := by
 induction l with
 | nil => simp [withoutF]
 | cons x l ih =>
  unfold withoutF
  split
  ·
   simp; omega
  ·
   simp; omega
/-- one step of a list with a file more -/
def wstep (f : ByteArray × List Nat) (s : Fls × Bool) (x : ByteArray × List Nat) : Fls × Bool := if s.2 = false ∧ ltB f.1 x.1 then (s.1 ++ [f] ++ [x], true) else (s.1 ++ [x], s.2)
def wfold (f : ByteArray × List Nat) (l : Fls) : Fls × Bool := l.foldl (wstep f) ([], false)
theorem wfold_snoc (f : ByteArray × List Nat) (l : Fls) (x : ByteArray × List Nat) : wfold f (l ++ [x]) = wstep f (wfold f l) x := by unfold wfold; rw [List.foldl_append]; rfl
theorem wfold_true (f : ByteArray × List Nat) : ∀ (l o : Fls), l.foldl (wstep f) (o, true) = (o ++ l, true)
 | [], o => by simp
 | x :: l, o => by
  rw [List.foldl_cons]
  have : wstep f (o, true) x = (o ++ [x], true) := by unfold wstep; simp
  rw [this, wfold_true f l]
  simp
theorem withF_cons (x f : ByteArray × List Nat) (l : Fls) : withF (x :: l) f = if ltB f.1 x.1 then f :: x :: l else x :: withF l f := rfl
theorem wfold_false (f : ByteArray × List Nat) : ∀ (l o : Fls), (if (l.foldl (wstep f) (o, false)).2 then (l.foldl (wstep f) (o, false)).1 else (l.foldl (wstep f) (o, false)).1 ++ [f]) = o ++ withF l f
 | [], o => by simp [withF]
 | x :: l, o => by
  rw [List.foldl_cons]
  by_cases h : ltB f.1 x.1
  ·
   have : wstep f (o, false) x = (o ++ [f] ++ [x], true) := by unfold wstep; rw [if_pos ⟨rfl, h⟩]
   rw [this, wfold_true]
   rw [withF_cons, if_pos h]
   simp
  ·
   have : wstep f (o, false) x = (o ++ [x], false) := by unfold wstep; rw [if_neg (fun k => h k.2)]
   rw [this, wfold_false f l]
   rw [withF_cons, if_neg h]
   simp
theorem wfold_eq (f : ByteArray × List Nat) (l : Fls) : (if (wfold f l).2 then (wfold f l).1 else (wfold f l).1 ++ [f]) = withF l f := by
 exact (wfold_false f l []).trans (List.nil_append _)
theorem wfold_len (f : ByteArray × List Nat) (l : Fls) : (wfold f l).1.length ≤ l.length + 1 := by
 have h := congrArg List.length (wfold_eq f l)
 rw [length_with] at h
 split at h
 ·
  omega
 ·
  rw [List.length_append] at h; simp at h; omega
/-- what a function of files answers -/
def RetF (N : Nat → Prop) (l : Fls) (w : World) (e : Ending) (w' : World) : Prop := ∃ a len cap, e = .returned (.slice a len cap) ∧ RF N w' a len l ∧ Below w.heap.size w w'
set_option maxRecDepth 100000 in
set_option maxHeartbeats 4000000 in
theorem rwithout_c {N : Nat → Prop} {w : World} {a : Option Addr} {len cap : Nat} {l : Fls} (h : RF N w a len l) (hN : ∀ k, N k → k < w.heap.size) (n : ByteArray) (hm : len ≤ 100000000) :
  Calls Tryz.prog 118 #[.slice a len cap, .string n] w (RetF N (withoutF l n) w) := by
 have HRF := Lib.hid h.low
 have HLEN := Lib.hid h.ln
 have HN := Lib.hid hN
 clear h hN
 go_enter Tryz.func118, Tryz.ntmps118
 go_wp2_with fail
 go_loopw [5, 6] (fun v i wr => ∃ k : Nat, k ≤ len ∧ i = .int .i64 k ∧ (∃ rs, Hid (OwnF wr w.heap.size v rs) ∧ Hid (FRs (Low N w) wr rs (withoutF (l.take k) n))) ∧ Hid (Below w.heap.size w wr)) (fun _ i _ => len - (intOf i).toNat)
 case atStart => exact ⟨0, Nat.zero_le _, rfl, ⟨[], Lib.hid (World.ownsRow_nil _ _ _ _), Lib.hid (FRs.nil _ _)⟩, Lib.hid (Below.refl _ _)⟩
 case round =>
  obtain ⟨k, hk, rfl, ⟨rs, HOW, HFR⟩, HB⟩ := hrel
  by_cases hkl : k < len
  ·
   obtain ⟨b, o, f, ra, rn, rc, rfl, hb, hf, c0, c1, hrb⟩ := (HRF.out.below HB.out).at hkl
   have hix := fun W => run_file_idx W b o len cap k hkl
   have HTK := Lib.hid (show l.take (k + 1) = l.take k ++ [f] by rw [List.take_add_one, hf]; rfl)
   have HRB := Lib.hid hrb
   have hsz := HB.out.size
   have hrl : rs.length + 1 ≤ 1000000000 := by
    have h1 := HFR.out.ln
    have h2 := without_len (l.take k) n
    rw [List.length_take] at h2
    omega
   clear hf hrb
   by_cases e : f.1 = n
   ·
    have HW := Lib.hid (show withoutF (l.take (k + 1)) n = withoutF (l.take k) n by rw [HTK.out, without_snoc, if_pos e])
    have hne : (f.1.toList == n.toList) = true := by rw [e]; simp
    have hne2 : f.1.toList = n.toList := by rw [e]
    clear e
    go_wp2_with fail
    go_roundw
    case rel => exact ⟨k + 1, by omega, by go_num, ⟨rs, HOW, by rw [HW.out]; exact HFR⟩, HB⟩
    case measure => simp [intOf]; omega
   ·
    have HW := Lib.hid (show withoutF (l.take (k + 1)) n = withoutF (l.take k) n ++ [f] by rw [HTK.out, without_snoc, if_neg e])
    have hne : (f.1.toList == n.toList) = false := beq_eq_false_iff_ne.2 (ba_neq e)
    have hne2 := ba_neq e
    clear e
    go_wp2_with (at_builtin; (refine wpList_pushFl rfl _ _ rfl w.heap.size u5 rs (.string f.1, .slice ra rn rc) rfl rfl rfl HOW.out hsz rfl hrl ?_); intro v5 w5 hown5 hg5)
    obtain ⟨hs5, hb5⟩ := sta_push (N := N) HB.out HOW.out hg5
    go_roundw
    case rel => exact ⟨k + 1, by omega, by go_num, ⟨_, Lib.hid hown5, by rw [HW.out]; exact Lib.hid ((HFR.out.sta hs5 (Ren.refl _ _)).push ⟨rfl, _, _, _, rfl, HRB.out.sta hs5 (Ren.refl _ _)⟩)⟩, Lib.hid hb5⟩
    case measure => simp [intOf]; omega
  ·
   have HE := Lib.hid (show l.take k = l from List.take_of_length_le (by have := HLEN.out; omega))
   obtain ⟨va, vn, vc, rfl⟩ : ∃ va vn vc, u5 = .slice va vn vc := by
    rcases HOW.out.2 with ⟨h1, _⟩ | ⟨g, c, cur, h1, _⟩
    ·
     exact ⟨_, _, _, h1⟩
    ·
     exact ⟨_, _, _, h1⟩
   go_wp2_with fail
   go_ret
   have := HFR.out
   rw [HE.out] at this
   exact ⟨_, _, _, rfl, (RF.of HOW.out (this.weak fun k hk => .inl hk) HN.out).1, HB.out⟩
theorem exec_file_idx {b o len cap i : Nat} (hi : i < len) {A : Act} {x y : Operand} (hx : A.eval x = .slice (some ⟨b, o, none⟩) len cap) (hy : A.eval y = .int .i64 (i : Int)) (op : Oper) (ho : op.op = .indexAddr 81 x y) (W : World) :
  (execOp A.eval op).run Tryz.prog W = .ok (.value (.pointer (some ⟨b, o + 2 * i, none⟩))) W := by
 unfold execOp
 simp only [ho, hx, hy]
 rw [Sem.run_bind, run_file_idx W b o len cap i hi]
 rfl
theorem bl_true {x y : ByteArray} (h : ltB x y) : Op.bytesLess x.toList y.toList = true := by rw [Go.Proofs.bytesLess_eq, Lib.toList_data, Lib.toList_data]; exact decide_eq_true h
theorem bl_false {x y : ByteArray} (h : ¬ ltB x y) : Op.bytesLess x.toList y.toList = false := by rw [Go.Proofs.bytesLess_eq, Lib.toList_data, Lib.toList_data]; exact decide_eq_false h
set_option maxRecDepth 100000 in
set_option maxHeartbeats 8000000 in
theorem rwith_c {N : Nat → Prop} {w : World} {a : Option Addr} {len cap : Nat} {l : Fls} (h : RF N w a len l) (hN : ∀ k, N k → k < w.heap.size) {f : ByteArray × List Nat} {fa : Option Addr} {fn fc : Nat} (hf : RB N w fa fn fc f.2) (hm : len ≤ 100000000) :
  Calls Tryz.prog 117 #[.slice a len cap, .agg #[.string f.1, .slice fa fn fc]] w (RetF N (withF l f) w) := by
 obtain ⟨X, hX⟩ : ∃ X, X = w.heap.size := ⟨_, rfl⟩
 obtain ⟨w1, hw⟩ : ∃ w1, w1 = w.alloc (.cells #[.string f.1, .slice fa fn fc] 96) := ⟨_, rfl⟩
 have hb1 : Below w.heap.size w w1 := by rw [hw]; exact (Below.refl _ _).alloc (Nat.le_refl _) _
 have hh : w1.heap[X]? = some (.cells #[.string f.1, .slice fa fn fc] 96 (0, 0)) := by rw [hw, hX]; exact heap_alloc_new w _
 have hs1 : w1.heap.size = X + 1 := by rw [hw, hX]; simp
 have HRF := Lib.hid (h.low.sta (Sta.ofBelow hb1) (Ren.refl _ _))
 have HFB := Lib.hid (show FC (Low N w) w1 f (.string f.1) (.slice fa fn fc) from ⟨rfl, _, _, _, rfl, hf.low.sta (Sta.ofBelow hb1) (Ren.refl _ _)⟩)
 have HLEN := Lib.hid h.ln
 have HN := Lib.hid hN
 have HB1 := Lib.hid hb1
 have HX := Lib.hid hX
 have HH := Lib.hid hh
 clear h hN hf hb1 hh
 go_enter Tryz.func117, Tryz.ntmps117
 go_wp2_with fail
 rw [← hX, ← hw]
 clear hX hw
 go_loopw [5, 6, 7] (fun v d i wr => ∃ k : Nat, k ≤ len ∧ i = .int .i64 k ∧ (∃ q, d = .bool q ∧ Hid (q = (wfold f (l.take k)).2)) ∧ (∃ rs, Hid (OwnF wr (X + 1) v rs) ∧ Hid (FRs (Low N w) wr rs (wfold f (l.take k)).1)) ∧ Hid (Below (X + 1) w1 wr)) (fun _ _ i _ => len - (intOf i).toNat)
 case atStart => exact ⟨0, Nat.zero_le _, rfl, ⟨_, rfl, Lib.hid rfl⟩, ⟨[], Lib.hid (World.ownsRow_nil _ _ _ _), Lib.hid (FRs.nil _ _)⟩, Lib.hid (Below.refl _ _)⟩
 case round =>
  obtain ⟨k, hk, rfl, ⟨q, rfl, HQ⟩, ⟨rs, HOW, HFR⟩, HB⟩ := hrel
  have hx := (HB.out.block X (by omega)).trans HH.out
  have x0 := (cell_of_row wr X 0 _ _ _ hx).trans rfl
  have x1 := (cell_of_row wr X 1 _ _ _ hx).trans rfl
  have HX2 := Lib.hid hx
  clear hx
  by_cases hkl : k < len
  ·
   obtain ⟨b, o, g, ra, rn, rc, rfl, hb, hg, d0, d1, hrb⟩ := HRF.out.at hkl
   rw [hs1] at hb
   have c0 := (HB.out.cell (p := ⟨b, o + 2 * k, none⟩) hb).trans d0
   have c1 := (HB.out.cell (p := ⟨b, o + 2 * k + 1, none⟩) hb).trans d1
   have hix := fun W => run_file_idx W b o len cap k hkl
   have HTK := Lib.hid (show wfold f (l.take (k + 1)) = wstep f (wfold f (l.take k)) g by rw [List.take_add_one, hg]; exact wfold_snoc _ _ _)
   have HRB := Lib.hid (show FC (Low N w) w1 g (.string g.1) (.slice ra rn rc) from ⟨rfl, _, _, _, rfl, hrb⟩)
   have HD := Lib.hid (And.intro d0 d1)
   have hsz := HB.out.size
   rw [hs1] at hsz
   have hrl : rs.length + 2 ≤ 1000000000 := by
    have h1 := HFR.out.ln
    have h2 := wfold_len f (l.take k)
    rw [List.length_take] at h2
    omega
   have hrl1 : rs.length + 1 ≤ 1000000000 := by omega
   clear hg hrb d0 d1
   cases q with
   | true =>
    have HW := Lib.hid (show wfold f (l.take (k + 1)) = ((wfold f (l.take k)).1 ++ [g], true) by rw [HTK.out]; unfold wstep; rw [← HQ.out]; simp)
    go_wp2_with fail
    -- REG6 A
    (try dsimp only [Act.put, sT, sZ, sS])
    have HS := Lib.hid (show World.cell? (World.drew wr) ⟨X, 0, none⟩ = some (.string f.1) ∧ World.cell? (World.drew wr) ⟨b, o + 2 * k, none⟩ = some (.string g.1) from ⟨x0, c0⟩)
    have HL1 := Lib.hid (fun W (hW : World.cell? W ⟨X, 0, none⟩ = some (.string f.1) ∧ World.cell? W ⟨b, o + 2 * k, none⟩ = some (.string g.1)) => run_cell_s W ⟨X, 0, none⟩ _ hW.1)
    have HL2 := Lib.hid (fun W (hW : World.cell? W ⟨X, 0, none⟩ = some (.string f.1) ∧ World.cell? W ⟨b, o + 2 * k, none⟩ = some (.string g.1)) => run_cell_s W ⟨b, o + 2 * k, none⟩ _ hW.2)
    refine anyH_begin (S := fun W => World.cell? W ⟨X, 0, none⟩ = some (.string f.1) ∧ World.cell? W ⟨b, o + 2 * k, none⟩ = some (.string g.1)) (by kernel_rfl) ?_
    refine aP 0 (d := 14) (op := .move (.tmp 6)) (.bool true) HS.out ?_
    simp only [Act.put, sT, sZ, sS]
    refine aP 1 (d := 15) (op := .unOp .not 4 (.tmp 14)) (.bool false) HS.out ?_
    simp only [Act.put, sT, sZ, sS]
    refine aP 2 (d := 16) (op := .move (.tmp 15)) (.bool false) HS.out ?_
    simp only [Act.put, sT, sZ, sS]
    refine anyH_skip 3 (d := 17) (op := .fieldAddr 96 (.tmp 3) 0) (gd := some (2, true)) (by rfl) (fun o ho => by simp only [Region.wanted, ho]; rfl) (by kernel_rfl) (by kernel_rfl) (by kernel_rfl) (fun _ _ _ h => h) HS.out ?_
    simp only [Act.put, sT, sZ, sS]
    refine anyH_skip 4 (d := 18) (op := .load 9 (.tmp 17)) (gd := some (2, true)) (by rfl) (fun o ho => by simp only [Region.wanted, ho]; rfl) (by kernel_rfl) (by kernel_rfl) (by kernel_rfl) (fun _ _ _ h => h) HS.out ?_
    simp only [Act.put, sT, sZ, sS]
    refine anyH_skip 5 (d := 19) (op := .move (.tmp 0)) (gd := some (2, true)) (by rfl) (fun o ho => by simp only [Region.wanted, ho]; rfl) (by kernel_rfl) (by kernel_rfl) (by kernel_rfl) (fun _ _ _ h => h) HS.out ?_
    simp only [Act.put, sT, sZ, sS]
    refine anyH_skip 6 (d := 20) (op := .move (.tmp 7)) (gd := some (2, true)) (by rfl) (fun o ho => by simp only [Region.wanted, ho]; rfl) (by kernel_rfl) (by kernel_rfl) (by kernel_rfl) (fun _ _ _ h => h) HS.out ?_
    simp only [Act.put, sT, sZ, sS]
    refine anyH_skip 7 (d := 21) (op := .indexAddr 81 (.tmp 19) (.tmp 20)) (gd := some (2, true)) (by rfl) (fun o ho => by simp only [Region.wanted, ho]; rfl) (by kernel_rfl) (by kernel_rfl) (by kernel_rfl) (fun _ _ _ h => h) HS.out ?_
    simp only [Act.put, sT, sZ, sS]
    refine anyH_skip 8 (d := 22) (op := .fieldAddr 96 (.tmp 21) 0) (gd := some (2, true)) (by rfl) (fun o ho => by simp only [Region.wanted, ho]; rfl) (by kernel_rfl) (by kernel_rfl) (by kernel_rfl) (fun _ _ _ h => h) HS.out ?_
    simp only [Act.put, sT, sZ, sS]
    refine anyH_skip 9 (d := 23) (op := .load 9 (.tmp 22)) (gd := some (2, true)) (by rfl) (fun o ho => by simp only [Region.wanted, ho]; rfl) (by kernel_rfl) (by kernel_rfl) (by kernel_rfl) (fun _ _ _ h => h) HS.out ?_
    simp only [Act.put, sT, sZ, sS]
    refine anyH_skip 10 (d := 24) (op := .binOp .lss 9 (.tmp 18) (.tmp 23) 9) (gd := some (2, true)) (by rfl) (fun o ho => by simp only [Region.wanted, ho]; rfl) (by kernel_rfl) (by kernel_rfl) (by kernel_rfl) (fun _ _ _ h => h) HS.out ?_
    simp only [Act.put, sT, sZ, sS]
    refine aP 11 (d := 25) (op := .pick (.tmp 16) (.tmp 24) (.const (.bool false))) (.bool false) HS.out ?_
    simp only [Act.put, sT, sZ, sS]
    refine wpAnyH_done (by kernel_rfl) ?_ _
    clear HS HL1 HL2
    -- END6
    obtain ⟨wq, hwq⟩ : ∃ wq, wq = World.drew wr := ⟨_, rfl⟩
    rw [← hwq]
    have HOW := Lib.hid (show OwnF wq (X + 1) u5 rs from by rw [hwq]; exact HOW.out)
    have HFR := Lib.hid (show FRs (Low N w) wq rs (wfold f (l.take k)).1 from by rw [hwq]; exact HFR.out.sta ⟨Nat.le_refl _, fun _ _ _ => rfl⟩ (Ren.refl _ _))
    have HB := Lib.hid (show Below (X + 1) w1 wq from by rw [hwq]; exact HB.out.drew)
    have hsz : X + 1 ≤ wq.heap.size := by rw [hwq]; exact hsz
    have x0 : wq.cell? ⟨X, 0, none⟩ = some (.string f.1) := by rw [hwq]; exact x0
    have x1 : wq.cell? ⟨X, 1, none⟩ = some (.slice fa fn fc) := by rw [hwq]; exact x1
    have c0 : wq.cell? ⟨b, o + 2 * k, none⟩ = some (.string g.1) := by rw [hwq]; exact c0
    have c1 : wq.cell? ⟨b, o + 2 * k + 1, none⟩ = some (.slice ra rn rc) := by rw [hwq]; exact c1
    clear hwq HX2
    go_wp2_with (at_builtin; (refine wpList_pushFl rfl _ _ rfl (X + 1) u5 rs (.string g.1, .slice ra rn rc) rfl rfl rfl HOW.out hsz rfl hrl1 ?_); intro v5 w5 hown5 hg5)
    obtain ⟨hs5, hb5⟩ := sta_push2 (N := N) HB1.out hs1 HB.out HOW.out hg5
    go_roundw
    case rel => exact ⟨k + 1, by omega, by go_num, ⟨_, rfl, by rw [HW.out]; exact Lib.hid rfl⟩, ⟨_, Lib.hid hown5, by rw [HW.out]; exact Lib.hid ((HFR.out.sta hs5 (Ren.refl _ _)).push (HRB.out.sta (Sta.ofBelow (by rw [hs1]; exact hb5)) (Ren.refl _ _)))⟩, Lib.hid hb5⟩
    case measure => simp [intOf]; omega
   | false =>
    by_cases hlt : ltB f.1 g.1
    ·
     have hbl := bl_true hlt
     have HW := Lib.hid (show wfold f (l.take (k + 1)) = ((wfold f (l.take k)).1 ++ [f] ++ [g], true) by rw [HTK.out]; unfold wstep; rw [if_pos ⟨HQ.out.symm, hlt⟩])
     have c0' := c0
     have c1' := c1
     clear hlt
     go_wp2_with fail
     -- REG6 B1
     (try dsimp only [Act.put, sT, sZ, sS])
     have HS := Lib.hid (show World.cell? (World.drew wr) ⟨X, 0, none⟩ = some (.string f.1) ∧ World.cell? (World.drew wr) ⟨b, o + 2 * k, none⟩ = some (.string g.1) from ⟨x0, c0⟩)
     have HL1 := Lib.hid (fun W (hW : World.cell? W ⟨X, 0, none⟩ = some (.string f.1) ∧ World.cell? W ⟨b, o + 2 * k, none⟩ = some (.string g.1)) => run_cell_s W ⟨X, 0, none⟩ _ hW.1)
     have HL2 := Lib.hid (fun W (hW : World.cell? W ⟨X, 0, none⟩ = some (.string f.1) ∧ World.cell? W ⟨b, o + 2 * k, none⟩ = some (.string g.1)) => run_cell_s W ⟨b, o + 2 * k, none⟩ _ hW.2)
     refine anyH_begin (S := fun W => World.cell? W ⟨X, 0, none⟩ = some (.string f.1) ∧ World.cell? W ⟨b, o + 2 * k, none⟩ = some (.string g.1)) (by kernel_rfl) ?_
     refine aP 0 (d := 14) (op := .move (.tmp 6)) (.bool false) HS.out ?_
     simp only [Act.put, sT, sZ, sS]
     refine aP 1 (d := 15) (op := .unOp .not 4 (.tmp 14)) (.bool true) HS.out ?_
     simp only [Act.put, sT, sZ, sS]
     refine aP 2 (d := 16) (op := .move (.tmp 15)) (.bool true) HS.out ?_
     simp only [Act.put, sT, sZ, sS]
     refine anyH_pureG 3 (d := 17) (op := .fieldAddr 96 (.tmp 3) 0) (gd := some (2, true)) (.pointer (some ⟨X, 0, none⟩)) (by rfl) (fun o ho => by simp only [Region.wanted, ho]; rfl) (by kernel_rfl) (by kernel_rfl) (by kernel_rfl) (fun _ _ _ h => h) (fun o ho W hW => by unfold execOp; simp only [ho]; go_simp) HS.out ?_
     simp only [Act.put, sT, sZ, sS]
     refine anyH_loadG 4 (d := 18) (ty := 9) (x := (.tmp 17)) (gd := some (2, true)) (p := .pointer (some ⟨X, 0, none⟩)) (.string f.1) (by rfl) (fun o ho => by simp only [Region.wanted, ho]; rfl) (by kernel_rfl) (by kernel_rfl) (by kernel_rfl) (fun _ _ _ h => h) (by rfl) HL1.out HS.out ?_
     simp only [Act.put, sT, sZ, sS]
     refine anyH_pureG 5 (d := 19) (op := .move (.tmp 0)) (gd := some (2, true)) (.slice (some ⟨b, o, none⟩) len cap) (by rfl) (fun o ho => by simp only [Region.wanted, ho]; rfl) (by kernel_rfl) (by kernel_rfl) (by kernel_rfl) (fun _ _ _ h => h) (fun o ho W hW => by unfold execOp; simp only [ho]; go_simp) HS.out ?_
     simp only [Act.put, sT, sZ, sS]
     refine anyH_pureG 6 (d := 20) (op := .move (.tmp 7)) (gd := some (2, true)) (.int .i64 (k : Int)) (by rfl) (fun o ho => by simp only [Region.wanted, ho]; rfl) (by kernel_rfl) (by kernel_rfl) (by kernel_rfl) (fun _ _ _ h => h) (fun o ho W hW => by unfold execOp; simp only [ho]; go_simp) HS.out ?_
     simp only [Act.put, sT, sZ, sS]
     refine anyH_pureG 7 (d := 21) (op := .indexAddr 81 (.tmp 19) (.tmp 20)) (gd := some (2, true)) (.pointer (some ⟨b, o + 2 * k, none⟩)) (by rfl) (fun o ho => by simp only [Region.wanted, ho]; rfl) (by kernel_rfl) (by kernel_rfl) (by kernel_rfl) (fun _ _ _ h => h) (fun o1 ho W hW => exec_file_idx hkl (x := .tmp 19) (y := .tmp 20) (by rfl) (by rfl) o1 ho W) HS.out ?_
     simp only [Act.put, sT, sZ, sS]
     refine anyH_pureG 8 (d := 22) (op := .fieldAddr 96 (.tmp 21) 0) (gd := some (2, true)) (.pointer (some ⟨b, o + 2 * k, none⟩)) (by rfl) (fun o ho => by simp only [Region.wanted, ho]; rfl) (by kernel_rfl) (by kernel_rfl) (by kernel_rfl) (fun _ _ _ h => h) (fun o ho W hW => by unfold execOp; simp only [ho]; go_simp) HS.out ?_
     simp only [Act.put, sT, sZ, sS]
     refine anyH_loadG 9 (d := 23) (ty := 9) (x := (.tmp 22)) (gd := some (2, true)) (p := .pointer (some ⟨b, o + 2 * k, none⟩)) (.string g.1) (by rfl) (fun o ho => by simp only [Region.wanted, ho]; rfl) (by kernel_rfl) (by kernel_rfl) (by kernel_rfl) (fun _ _ _ h => h) (by rfl) HL2.out HS.out ?_
     simp only [Act.put, sT, sZ, sS]
     refine anyH_pureG 10 (d := 24) (op := .binOp .lss 9 (.tmp 18) (.tmp 23) 9) (gd := some (2, true)) (.bool true) (by rfl) (fun o ho => by simp only [Region.wanted, ho]; rfl) (by kernel_rfl) (by kernel_rfl) (by kernel_rfl) (fun _ _ _ h => h) (fun o1 ho W hW => by unfold execOp; simp only [ho]; go_simp; try exact hbl) HS.out ?_
     simp only [Act.put, sT, sZ, sS]
     refine aP 11 (d := 25) (op := .pick (.tmp 16) (.tmp 24) (.const (.bool false))) (.bool true) HS.out ?_
     simp only [Act.put, sT, sZ, sS]
     refine wpAnyH_done (by kernel_rfl) ?_ _
     clear HS HL1 HL2
     -- END6
     obtain ⟨wq, hwq⟩ : ∃ wq, wq = World.drew wr := ⟨_, rfl⟩
     rw [← hwq]
     have HOW := Lib.hid (show OwnF wq (X + 1) u5 rs from by rw [hwq]; exact HOW.out)
     have HFR := Lib.hid (show FRs (Low N w) wq rs (wfold f (l.take k)).1 from by rw [hwq]; exact HFR.out.sta ⟨Nat.le_refl _, fun _ _ _ => rfl⟩ (Ren.refl _ _))
     have HB := Lib.hid (show Below (X + 1) w1 wq from by rw [hwq]; exact HB.out.drew)
     have hsz : X + 1 ≤ wq.heap.size := by rw [hwq]; exact hsz
     have x0 : wq.cell? ⟨X, 0, none⟩ = some (.string f.1) := by rw [hwq]; exact x0
     have x1 : wq.cell? ⟨X, 1, none⟩ = some (.slice fa fn fc) := by rw [hwq]; exact x1
     have c0 : wq.cell? ⟨b, o + 2 * k, none⟩ = some (.string g.1) := by rw [hwq]; exact c0
     have c1 : wq.cell? ⟨b, o + 2 * k + 1, none⟩ = some (.slice ra rn rc) := by rw [hwq]; exact c1
     clear hwq HX2
     go_wp2_with (first | (at_builtin; (refine wpList_pushFl rfl _ _ rfl (X + 1) v5 (rs ++ [(.string f.1, .slice fa fn fc)]) (.string g.1, .slice ra rn rc) rfl rfl rfl HOW5.out hsz5 rfl hrl2 ?_); intro v6 w6 hown6 hg6) | (at_builtin; (refine wpList_pushFl rfl _ _ rfl (X + 1) u5 rs (.string f.1, .slice fa fn fc) rfl rfl rfl HOW.out hsz rfl hrl1 ?_); intro v5 w5 hown5 hg5; obtain ⟨hs5, hb5⟩ := sta_push2 (N := N) HB1.out hs1 HB.out HOW.out hg5; have HFR5 := Lib.hid ((HFR.out.sta hs5 (Ren.refl _ _)).push (r := (.string f.1, .slice fa fn fc)) (HFB.out.sta (Sta.ofBelow (by rw [hs1]; exact hb5)) (Ren.refl _ _))); have HOW5 := Lib.hid hown5; have HB5 := Lib.hid hb5; have hsz5 : X + 1 ≤ w5.heap.size := (by have := hb5.size; rw [hs1] at this; exact this); have e0 := (hb5.cell (p := ⟨b, o + 2 * k, none⟩) hb).trans HD.out.1; have e1 := (hb5.cell (p := ⟨b, o + 2 * k + 1, none⟩) hb).trans HD.out.2; have hrl2 : (rs ++ [(.string f.1, .slice fa fn fc)] : List FR2).length + 1 ≤ 1000000000 := (by rw [List.length_append, List.length_singleton]; omega); clear hg5 hown5 hb5 hs5 x0 x1 c0 c1 HOW HFR HB))
     obtain ⟨hs6, hb6⟩ := sta_push2 (N := N) HB1.out hs1 HB5.out HOW5.out hg6
     go_roundw
     case rel => exact ⟨k + 1, by omega, by go_num, ⟨_, rfl, by rw [HW.out]; exact Lib.hid rfl⟩, ⟨_, Lib.hid hown6, by rw [HW.out]; exact Lib.hid ((HFR5.out.sta hs6 (Ren.refl _ _)).push (HRB.out.sta (Sta.ofBelow (by rw [hs1]; exact hb6)) (Ren.refl _ _)))⟩, Lib.hid hb6⟩
     case measure => simp [intOf]; omega
    ·
     have hbl := bl_false hlt
     have HW := Lib.hid (show wfold f (l.take (k + 1)) = ((wfold f (l.take k)).1 ++ [g], false) by rw [HTK.out]; unfold wstep; rw [if_neg (fun h => hlt h.2), ← HQ.out])
     clear hlt
     go_wp2_with fail
     -- REG6 B0
     (try dsimp only [Act.put, sT, sZ, sS])
     have HS := Lib.hid (show World.cell? (World.drew wr) ⟨X, 0, none⟩ = some (.string f.1) ∧ World.cell? (World.drew wr) ⟨b, o + 2 * k, none⟩ = some (.string g.1) from ⟨x0, c0⟩)
     have HL1 := Lib.hid (fun W (hW : World.cell? W ⟨X, 0, none⟩ = some (.string f.1) ∧ World.cell? W ⟨b, o + 2 * k, none⟩ = some (.string g.1)) => run_cell_s W ⟨X, 0, none⟩ _ hW.1)
     have HL2 := Lib.hid (fun W (hW : World.cell? W ⟨X, 0, none⟩ = some (.string f.1) ∧ World.cell? W ⟨b, o + 2 * k, none⟩ = some (.string g.1)) => run_cell_s W ⟨b, o + 2 * k, none⟩ _ hW.2)
     refine anyH_begin (S := fun W => World.cell? W ⟨X, 0, none⟩ = some (.string f.1) ∧ World.cell? W ⟨b, o + 2 * k, none⟩ = some (.string g.1)) (by kernel_rfl) ?_
     refine aP 0 (d := 14) (op := .move (.tmp 6)) (.bool false) HS.out ?_
     simp only [Act.put, sT, sZ, sS]
     refine aP 1 (d := 15) (op := .unOp .not 4 (.tmp 14)) (.bool true) HS.out ?_
     simp only [Act.put, sT, sZ, sS]
     refine aP 2 (d := 16) (op := .move (.tmp 15)) (.bool true) HS.out ?_
     simp only [Act.put, sT, sZ, sS]
     refine anyH_pureG 3 (d := 17) (op := .fieldAddr 96 (.tmp 3) 0) (gd := some (2, true)) (.pointer (some ⟨X, 0, none⟩)) (by rfl) (fun o ho => by simp only [Region.wanted, ho]; rfl) (by kernel_rfl) (by kernel_rfl) (by kernel_rfl) (fun _ _ _ h => h) (fun o ho W hW => by unfold execOp; simp only [ho]; go_simp) HS.out ?_
     simp only [Act.put, sT, sZ, sS]
     refine anyH_loadG 4 (d := 18) (ty := 9) (x := (.tmp 17)) (gd := some (2, true)) (p := .pointer (some ⟨X, 0, none⟩)) (.string f.1) (by rfl) (fun o ho => by simp only [Region.wanted, ho]; rfl) (by kernel_rfl) (by kernel_rfl) (by kernel_rfl) (fun _ _ _ h => h) (by rfl) HL1.out HS.out ?_
     simp only [Act.put, sT, sZ, sS]
     refine anyH_pureG 5 (d := 19) (op := .move (.tmp 0)) (gd := some (2, true)) (.slice (some ⟨b, o, none⟩) len cap) (by rfl) (fun o ho => by simp only [Region.wanted, ho]; rfl) (by kernel_rfl) (by kernel_rfl) (by kernel_rfl) (fun _ _ _ h => h) (fun o ho W hW => by unfold execOp; simp only [ho]; go_simp) HS.out ?_
     simp only [Act.put, sT, sZ, sS]
     refine anyH_pureG 6 (d := 20) (op := .move (.tmp 7)) (gd := some (2, true)) (.int .i64 (k : Int)) (by rfl) (fun o ho => by simp only [Region.wanted, ho]; rfl) (by kernel_rfl) (by kernel_rfl) (by kernel_rfl) (fun _ _ _ h => h) (fun o ho W hW => by unfold execOp; simp only [ho]; go_simp) HS.out ?_
     simp only [Act.put, sT, sZ, sS]
     refine anyH_pureG 7 (d := 21) (op := .indexAddr 81 (.tmp 19) (.tmp 20)) (gd := some (2, true)) (.pointer (some ⟨b, o + 2 * k, none⟩)) (by rfl) (fun o ho => by simp only [Region.wanted, ho]; rfl) (by kernel_rfl) (by kernel_rfl) (by kernel_rfl) (fun _ _ _ h => h) (fun o1 ho W hW => exec_file_idx hkl (x := .tmp 19) (y := .tmp 20) (by rfl) (by rfl) o1 ho W) HS.out ?_
     simp only [Act.put, sT, sZ, sS]
     refine anyH_pureG 8 (d := 22) (op := .fieldAddr 96 (.tmp 21) 0) (gd := some (2, true)) (.pointer (some ⟨b, o + 2 * k, none⟩)) (by rfl) (fun o ho => by simp only [Region.wanted, ho]; rfl) (by kernel_rfl) (by kernel_rfl) (by kernel_rfl) (fun _ _ _ h => h) (fun o ho W hW => by unfold execOp; simp only [ho]; go_simp) HS.out ?_
     simp only [Act.put, sT, sZ, sS]
     refine anyH_loadG 9 (d := 23) (ty := 9) (x := (.tmp 22)) (gd := some (2, true)) (p := .pointer (some ⟨b, o + 2 * k, none⟩)) (.string g.1) (by rfl) (fun o ho => by simp only [Region.wanted, ho]; rfl) (by kernel_rfl) (by kernel_rfl) (by kernel_rfl) (fun _ _ _ h => h) (by rfl) HL2.out HS.out ?_
     simp only [Act.put, sT, sZ, sS]
     refine anyH_pureG 10 (d := 24) (op := .binOp .lss 9 (.tmp 18) (.tmp 23) 9) (gd := some (2, true)) (.bool false) (by rfl) (fun o ho => by simp only [Region.wanted, ho]; rfl) (by kernel_rfl) (by kernel_rfl) (by kernel_rfl) (fun _ _ _ h => h) (fun o1 ho W hW => by unfold execOp; simp only [ho]; go_simp; try exact hbl) HS.out ?_
     simp only [Act.put, sT, sZ, sS]
     refine aP 11 (d := 25) (op := .pick (.tmp 16) (.tmp 24) (.const (.bool false))) (.bool false) HS.out ?_
     simp only [Act.put, sT, sZ, sS]
     refine wpAnyH_done (by kernel_rfl) ?_ _
     clear HS HL1 HL2
     -- END6
     obtain ⟨wq, hwq⟩ : ∃ wq, wq = World.drew wr := ⟨_, rfl⟩
     rw [← hwq]
     have HOW := Lib.hid (show OwnF wq (X + 1) u5 rs from by rw [hwq]; exact HOW.out)
     have HFR := Lib.hid (show FRs (Low N w) wq rs (wfold f (l.take k)).1 from by rw [hwq]; exact HFR.out.sta ⟨Nat.le_refl _, fun _ _ _ => rfl⟩ (Ren.refl _ _))
     have HB := Lib.hid (show Below (X + 1) w1 wq from by rw [hwq]; exact HB.out.drew)
     have hsz : X + 1 ≤ wq.heap.size := by rw [hwq]; exact hsz
     have x0 : wq.cell? ⟨X, 0, none⟩ = some (.string f.1) := by rw [hwq]; exact x0
     have x1 : wq.cell? ⟨X, 1, none⟩ = some (.slice fa fn fc) := by rw [hwq]; exact x1
     have c0 : wq.cell? ⟨b, o + 2 * k, none⟩ = some (.string g.1) := by rw [hwq]; exact c0
     have c1 : wq.cell? ⟨b, o + 2 * k + 1, none⟩ = some (.slice ra rn rc) := by rw [hwq]; exact c1
     clear hwq HX2
     go_wp2_with (at_builtin; (refine wpList_pushFl rfl _ _ rfl (X + 1) u5 rs (.string g.1, .slice ra rn rc) rfl rfl rfl HOW.out hsz rfl hrl1 ?_); intro v5 w5 hown5 hg5)
     obtain ⟨hs5, hb5⟩ := sta_push2 (N := N) HB1.out hs1 HB.out HOW.out hg5
     go_roundw
     case rel => exact ⟨k + 1, by omega, by go_num, ⟨_, rfl, by rw [HW.out]; exact Lib.hid rfl⟩, ⟨_, Lib.hid hown5, by rw [HW.out]; exact Lib.hid ((HFR.out.sta hs5 (Ren.refl _ _)).push (HRB.out.sta (Sta.ofBelow (by rw [hs1]; exact hb5)) (Ren.refl _ _)))⟩, Lib.hid hb5⟩
     case measure => simp [intOf]; omega
  ·
   have HE := Lib.hid (show l.take k = l from List.take_of_length_le (by have := HLEN.out; omega))
   obtain ⟨va, vn, vc, rfl⟩ : ∃ va vn vc, u5 = .slice va vn vc := by
    rcases HOW.out.2 with ⟨h1, _⟩ | ⟨g, c, cur, h1, _⟩
    ·
     exact ⟨_, _, _, h1⟩
    ·
     exact ⟨_, _, _, h1⟩
   cases q with
   | true =>
    have HWF := Lib.hid (show withF l f = (wfold f l).1 from by have h := wfold_eq f l; rw [HE.out] at HQ; rw [← HQ.out] at h; simp at h; exact h.symm)
    go_wp2_with fail
    go_ret
    have h1 := HFR.out
    rw [HE.out] at h1
    refine ⟨_, _, _, rfl, ?_, HB1.out.trans (HB.out.mono (by rw [HX.out]; omega))⟩
    rw [HWF.out]
    exact (RF.of HOW.out (h1.weak fun k hk => .inl hk) (fun k hk => by have := HN.out k hk; have := HX.out; omega)).1
   | false =>
    have hsz := HB.out.size
    rw [hs1] at hsz
    have hrl1 : rs.length + 1 ≤ 1000000000 := by
     have h1 := HFR.out.ln
     have h2 := wfold_len f (l.take k)
     rw [List.length_take] at h2
     omega
    go_wp2_with (at_builtin; (refine wpList_pushFl rfl _ _ rfl (X + 1) (.slice va vn vc) rs (.string f.1, .slice fa fn fc) rfl rfl rfl HOW.out hsz rfl hrl1 ?_); intro v5 w5 hown5 hg5)
    obtain ⟨hs5, hb5⟩ := sta_push2 (N := N) HB1.out hs1 HB.out HOW.out hg5
    have HWF := Lib.hid (show withF l f = (wfold f l).1 ++ [f] from by have h := wfold_eq f l; rw [HE.out] at HQ; rw [← HQ.out] at h; simp at h; exact h.symm)
    have HFR5 := Lib.hid ((HFR.out.sta hs5 (Ren.refl _ _)).push (r := (.string f.1, .slice fa fn fc)) (HFB.out.sta (Sta.ofBelow (by rw [hs1]; exact hb5)) (Ren.refl _ _)))
    have HOW5 := Lib.hid hown5
    have HB5 := Lib.hid hb5
    clear hg5 hown5 hb5 hs5
    obtain ⟨va5, vn5, vc5, rfl⟩ : ∃ va vn vc, v5 = .slice va vn vc := by
     rcases HOW5.out.2 with ⟨h1, _⟩ | ⟨g, c, cur, h1, _⟩
     ·
      exact ⟨_, _, _, h1⟩
     ·
      exact ⟨_, _, _, h1⟩
    go_ret
    have h1 := HFR5.out
    rw [HE.out] at h1
    refine ⟨_, _, _, rfl, ?_, HB1.out.trans (HB5.out.mono (by rw [HX.out]; omega))⟩
    rw [HWF.out]
    exact (RF.of HOW5.out (h1.weak fun k hk => .inl hk) (fun k hk => by have := HN.out k hk; have := HX.out; omega)).1
end Go.Proofs.YtihbgigledmliaaGreat

namespace Go.Proofs.YtihbgigledmliaaGreat
open Go.RowKit
set_option linter.unusedVariables false
/-- a loose change's four cells -/
abbrev DR := DCh × Value
def dcells (ps : List DR) : List Value := ps.flatMap fun r => [.int .i64 (r.1.kind : Int), .string r.1.a, .string r.1.b, r.2]
def PC (N : Nat → Prop) (w : World) (r : DR) : Prop := ∃ ra rn rc, r.2 = .slice ra rn rc ∧ RB N w ra rn rc r.1.p
def OwnR (m : Nat) (lv : Value) (k : Nat) : Prop := k = m ∨ lv.ownBlock = some k
def NR (F : Nat → Prop) (m : Nat) (lv : Value) (k : Nat) : Prop := F k ∨ OwnR m lv k
/-- the document's disk in memory: its struct is block m, its changes' slice lv; F: blocks that are others' -/
structure RDK (F : Nat → Prop) (B m : Nat) (lv : Value) (A : Ad) (w : World) : Prop where
 base : B ≤ m
 noF : ∀ k, OwnR m lv k → ¬ F k
 hd : ∃ na nn nc sa sn sc, w.heap[m]? = some (.cells #[.int .i64 A.room, .slice na nn nc, .slice sa sn sc, lv, .int .i64 A.fuse, .bool A.down] 84 (0, 0)) ∧ RF (NR F m lv) w na nn A.now ∧ RF (NR F m lv) w sa sn A.sure
 hl : ∃ ps : List DR, ps.map (·.1) = A.loose ∧ w.ownsRow B 94 4 lv ps.length (dcells ps) ∧ ∀ r ∈ ps, PC (NR F m lv) w r
/-- what is not its own stands -/
structure MvR (m : Nat) (lv lv' : Value) (w w' : World) : Prop where
 os : w'.os = w.os
 tape : w'.tape = w.tape
 output : w'.output = w.output
 size : w.heap.size ≤ w'.heap.size
 block : ∀ k, k < w.heap.size → ¬ OwnR m lv k → w'.heap[k]? = w.heap[k]?
 own : ∀ k, OwnR m lv' k → OwnR m lv k ∨ w.heap.size ≤ k
theorem MvR.refl (m : Nat) (lv : Value) (w : World) : MvR m lv lv w w := ⟨rfl, rfl, rfl, Nat.le_refl _, fun _ _ _ => rfl, fun _ h => .inl h⟩
theorem MvR.ofBelow {m : Nat} {lv : Value} {w w' : World} (h : Below w.heap.size w w') : MvR m lv lv w w' := ⟨h.os, h.tape, h.output, h.size, fun k hk _ => h.block k hk, fun _ h => .inl h⟩
theorem MvR.trans {m : Nat} {l0 l1 l2 : Value} {w w1 w2 : World} (h : MvR m l0 l1 w w1) (k : MvR m l1 l2 w1 w2) : MvR m l0 l2 w w2 :=
 ⟨k.os.trans h.os, k.tape.trans h.tape, k.output.trans h.output, Nat.le_trans h.size k.size, fun j hj hn => (k.block j (Nat.lt_of_lt_of_le hj h.size) fun ho => by
   rcases h.own j ho with h1 | h1
   ·
    exact hn h1
   ·
    omega).trans (h.block j hj hn), fun j hj => by
   rcases k.own j hj with h1 | h1
   ·
    exact h.own j h1
   ·
    exact .inr (Nat.le_trans h.size h1)⟩
theorem RDK.lt {F : Nat → Prop} {B m : Nat} {lv : Value} {A : Ad} {w : World} (h : RDK F B m lv A w) : m < w.heap.size := by
 obtain ⟨_, _, _, _, _, _, h1, _⟩ := h.hd
 exact (Array.getElem?_eq_some_iff.1 h1).1
theorem RDK.ownLt {F : Nat → Prop} {B m : Nat} {lv : Value} {A : Ad} {w : World} (h : RDK F B m lv A w) {k : Nat} (hk : OwnR m lv k) : B ≤ k ∧ k < w.heap.size := by
 rcases hk with rfl | hk
 ·
  exact ⟨h.base, h.lt⟩
 ·
  obtain ⟨ps, _, h2, _⟩ := h.hl
  exact World.ownsRow.lt h2 k hk
theorem RDK.ne {F : Nat → Prop} {B m : Nat} {lv : Value} {A : Ad} {w : World} (h : RDK F B m lv A w) : lv.ownBlock ≠ some m := fun e => by
 obtain ⟨_, _, _, _, _, _, h1, _⟩ := h.hd
 obtain ⟨ps, _, h2, _⟩ := h.hl
 obtain ⟨_, cur, hh⟩ := row_block h2 e
 rw [h1] at hh
 simp only [Option.some.injEq, Obj.cells.injEq] at hh
 exact absurd hh.2.1 (by decide)
theorem MvR.below {F : Nat → Prop} {B m : Nat} {lv lv' : Value} {A : Ad} {w w' : World} (h : MvR m lv lv' w w') (hd : RDK F B m lv A w) : Below B w w' :=
 ⟨h.os, h.tape, h.output, h.size, fun k hk => h.block k (Nat.lt_of_lt_of_le hk (Nat.le_trans hd.base (Nat.le_of_lt hd.lt))) fun ho => by have := (hd.ownLt ho).1; omega⟩
/-- others write -/
theorem RDK.sta {F F' : Nat → Prop} {B m : Nat} {lv : Value} {A : Ad} {w w' : World} (h : RDK F B m lv A w) (hs : Sta F w w') (hr : Ren F F' w) : RDK F' B m lv A w' := by
 have hN : Sta (NR F m lv) w w' := ⟨hs.size, fun k hk hn => hs.blk k hk fun hf => hn (.inl hf)⟩
 have hR : Ren (NR F m lv) (NR F' m lv) w := fun k hk => by
  rcases hk with hk | hk
  ·
   rcases hr k hk with h1 | h1
   ·
    exact .inl (.inl h1)
   ·
    exact .inr h1
  ·
   exact .inl (.inr hk)
 have hk : ∀ k, OwnR m lv k → w'.heap[k]? = w.heap[k]? := fun k ho => hs.blk k (h.ownLt ho).2 (h.noF k ho)
 obtain ⟨na, nn, nc, sa, sn, sc, h1, h2, h3⟩ := h.hd
 obtain ⟨ps, h4, h5, h6⟩ := h.hl
 refine ⟨h.base, fun k ho hf => ?_, ⟨na, nn, nc, sa, sn, sc, (hk m (.inl rfl)).trans h1, h2.sta hN hR, h3.sta hN hR⟩, ps, h4, row_keep h5 fun k ho => hk k (.inr ho), fun r hr' => ?_⟩
 ·
  rcases hr k hf with h7 | h7
  ·
   exact h.noF k ho h7
  ·
   have := (h.ownLt ho).2; omega
 ·
  obtain ⟨ra, rn, rc, h7, h8⟩ := h6 r hr'
  exact ⟨ra, rn, rc, h7, h8.sta hN hR⟩
theorem RDK.below {F : Nat → Prop} {B m : Nat} {lv : Value} {A : Ad} {w w' : World} (h : RDK F B m lv A w) (hb : Below w.heap.size w w') : RDK F B m lv A w' := h.sta (Sta.ofBelow hb) (Ren.refl _ _)
theorem DK.sta {B d m : Nat} {S : Dsk} {lv lv' : Value} {w w' : World} (h : DK B d S w) (hn : ∀ k, OwnR m lv k → ¬ S.own d k) (hm : MvR m lv lv' w w') : DK B d S w' := h.keep fun k hk => hm.block k (h.ownLt hk).2 fun ho => hn k ho hk
/-- the struct is written: numbers, the power; its lists: others that are told -/
theorem RDK.struct {F : Nat → Prop} {B m : Nat} {lv : Value} {A A' : Ad} {w w' : World} (h : RDK F B m lv A w) {na sa : Option Addr} {nn nc sn sc : Nat} (hh : w'.heap[m]? = some (.cells #[.int .i64 A'.room, .slice na nn nc, .slice sa sn sc, lv, .int .i64 A'.fuse, .bool A'.down] 84 (0, 0))) (ho : ∀ k, k ≠ m → k < w.heap.size → w'.heap[k]? = w.heap[k]?) (hz : w.heap.size ≤ w'.heap.size) (hnow : RF (NR F m lv) w na nn A'.now) (hsure : RF (NR F m lv) w sa sn A'.sure) (e : A'.loose = A.loose) : RDK F B m lv A' w' := by
 have hN : Sta (NR F m lv) w w' := ⟨hz, fun k hk hn => ho k (fun e => hn (.inr (.inl e))) hk⟩
 obtain ⟨ps, h4, h5, h6⟩ := h.hl
 refine ⟨h.base, h.noF, ⟨na, nn, nc, sa, sn, sc, hh, hnow.sta hN (Ren.refl _ _), hsure.sta hN (Ren.refl _ _)⟩, ps, h4.trans e.symm, row_keep h5 fun k hk => ho k (fun e => h.ne (by rw [← e]; exact hk)) (World.ownsRow.lt h5 k hk).2, fun r hr => ?_⟩
 obtain ⟨ra, rn, rc, h7, h8⟩ := h6 r hr
 exact ⟨ra, rn, rc, h7, h8.sta hN (Ren.refl _ _)⟩
theorem RDK.cellSet {F : Nat → Prop} {B m : Nat} {lv : Value} {A : Ad} {w : World} (h : RDK F B m lv A w) (i : Nat) (v : Value) (A' : Ad) {na sa : Option Addr} {nn nc sn sc : Nat} (hh : ∀ na nn nc sa sn sc, w.heap[m]? = some (.cells #[.int .i64 A.room, .slice na nn nc, .slice sa sn sc, lv, .int .i64 A.fuse, .bool A.down] 84 (0, 0)) → RF (NR F m lv) w na nn A.now → RF (NR F m lv) w sa sn A.sure → ∃ na' nn' nc' sa' sn' sc', (#[.int .i64 A.room, .slice na nn nc, .slice sa sn sc, lv, .int .i64 A.fuse, .bool A.down] : Array Value).setIfInBounds i v = #[.int .i64 A'.room, .slice na' nn' nc', .slice sa' sn' sc', lv, .int .i64 A'.fuse, .bool A'.down] ∧ RF (NR F m lv) w na' nn' A'.now ∧ RF (NR F m lv) w sa' sn' A'.sure) (hi : i < 6) (e : A'.loose = A.loose) :
  RDK F B m lv A' (w.setCell ⟨m, i, none⟩ v) ∧ MvR m lv lv w (w.setCell ⟨m, i, none⟩ v) := by
 obtain ⟨na, nn, nc, sa, sn, sc, h1, h2, h3⟩ := h.hd
 obtain ⟨na', nn', nc', sa', sn', sc', h4, h5, h6⟩ := hh _ _ _ _ _ _ h1 h2 h3
 have ho : ∀ k, k ≠ m → (w.setCell ⟨m, i, none⟩ v).heap[k]? = w.heap[k]? := fun k hk => Below.heap_setCell w ⟨m, i, none⟩ v k hk
 have hr := row_set h1 v (o := i) hi
 rw [h4] at hr
 have hz : w.heap.size ≤ (w.setCell ⟨m, i, none⟩ v).heap.size := by simp [World.setCell]
 exact ⟨h.struct hr (fun k hk _ => ho k hk) hz h5 h6 e, rfl, rfl, rfl, hz, fun k _ hn => ho k fun e => hn (.inl e), fun k hk => .inl hk⟩
theorem RDK.cells {F : Nat → Prop} {B m : Nat} {lv : Value} {A : Ad} {w : World} (h : RDK F B m lv A w) : ∃ na nn nc sa sn sc, (w.cell? ⟨m, 0, none⟩ = some (.int .i64 A.room) ∧ w.cell? ⟨m, 1, none⟩ = some (.slice na nn nc) ∧ w.cell? ⟨m, 2, none⟩ = some (.slice sa sn sc) ∧ w.cell? ⟨m, 3, none⟩ = some lv ∧ w.cell? ⟨m, 4, none⟩ = some (.int .i64 A.fuse) ∧ w.cell? ⟨m, 5, none⟩ = some (.bool A.down)) ∧ (∀ i, w.frozen? ⟨m, i, none⟩ = false) ∧ RF (NR F m lv) w na nn A.now ∧ RF (NR F m lv) w sa sn A.sure := by
 obtain ⟨na, nn, nc, sa, sn, sc, h1, h2, h3⟩ := h.hd
 exact ⟨na, nn, nc, sa, sn, sc, ⟨(cell_of_row w m 0 _ _ _ h1).trans rfl, (cell_of_row w m 1 _ _ _ h1).trans rfl, (cell_of_row w m 2 _ _ _ h1).trans rfl, (cell_of_row w m 3 _ _ _ h1).trans rfl, (cell_of_row w m 4 _ _ _ h1).trans rfl, (cell_of_row w m 5 _ _ _ h1).trans rfl⟩, fun i => frozen_of_row w m i _ _ h1, h2, h3⟩
set_option maxRecDepth 100000 in
set_option maxHeartbeats 8000000 in
theorem rnew_c (F : Nat → Prop) (room : Int) (w : World) (hF : ∀ k, F k → k < w.heap.size) : Calls Tryz.prog 7 #[.int .i64 room] w fun e w' => e = .returned (.pointer (some ⟨w.heap.size, 0, none⟩)) ∧ RDK F w.heap.size w.heap.size (.slice none 0 0) ⟨room, -1, false, [], [], []⟩ w' ∧ Below w.heap.size w w' := by
 go_enter Tryz.func7, Tryz.ntmps7
 go_wp2_with fail
 go_ret
 refine ⟨rfl, ⟨Nat.le_refl _, fun k hk hf => ?_, ⟨none, 0, 0, none, 0, 0, heap_alloc_new w _, RF.nil _ _ _, RF.nil _ _ _⟩, [], rfl, World.ownsRow_nil _ _ _ _, fun r hr => by cases hr⟩, (Below.refl _ _).alloc (Nat.le_refl _) _⟩
 have := hF k hf
 rcases hk with hk | hk
 ·
  omega
 ·
  cases hk
/-- what power does -/
def Ad.pow (A : Ad) : Ad × Bool := if A.fuse = 0 then (A.off, false) else (A.spent, true)
set_option maxRecDepth 100000 in
set_option maxHeartbeats 8000000 in
theorem rpower_c {F : Nat → Prop} {B m : Nat} {lv : Value} {A : Ad} {w : World} (h : RDK F B m lv A w) (hfu : A.fuse ≤ 9223372036854775807) : Calls Tryz.prog 48 #[.pointer (some ⟨m, 0, none⟩)] w fun e w' => e = .returned (.bool A.pow.2) ∧ RDK F B m lv A.pow.1 w' ∧ MvR m lv lv w w' := by
 obtain ⟨na, nn, nc, sa, sn, sc, ⟨-, -, -, -, c4, c5⟩, hfz, -, -⟩ := h.cells
 have f4 := hfz 4
 have f5 := hfz 5
 have HD := Lib.hid h
 unfold Ad.pow
 by_cases h0 : A.fuse = 0
 ·
  rw [if_pos h0]
  obtain ⟨k1, k2⟩ := h.cellSet 5 (.bool true) A.off (na := none) (sa := none) (nn := 0) (nc := 0) (sn := 0) (sc := 0) (fun na nn nc sa sn sc _ h2 h3 => ⟨na, nn, nc, sa, sn, sc, rfl, h2, h3⟩) (by omega) rfl
  have HK := Lib.hid (And.intro k1 k2)
  rw [h0] at c4
  clear h hfz h0 k1 k2
  go_enter Tryz.func48, Tryz.ntmps48
  go_wp2_with fail
  go_ret
  exact ⟨rfl, HK.out⟩
 ·
  rw [if_neg h0]
  have e0 : (A.fuse == 0) = false := beq_eq_false_iff_ne.2 h0
  by_cases h1 : 0 < A.fuse
  ·
   have hw : wrap64 (A.fuse - 1) = A.fuse - 1 := wrap64_id (by omega) (by omega)
   have hsp : A.spent.fuse = A.fuse - 1 := by unfold Ad.spent; rw [if_pos h1]
   obtain ⟨k1, k2⟩ := h.cellSet 4 (.int .i64 (wrap64 (A.fuse - 1))) A.spent (na := none) (sa := none) (nn := 0) (nc := 0) (sn := 0) (sc := 0) (fun na nn nc sa sn sc _ h2 h3 => ⟨na, nn, nc, sa, sn, sc, by rw [hsp, hw]; rfl, h2, h3⟩) (by omega) rfl
   rw [hw] at k1 k2
   have HK := Lib.hid (And.intro k1 k2)
   clear h hfz k1 k2 hw hsp
   go_enter Tryz.func48, Tryz.ntmps48
   go_wp2_with fail
   go_ret
   exact ⟨rfl, HK.out⟩
  ·
   have hsp : A.spent = A := by unfold Ad.spent; rw [if_neg h1]
   rw [hsp]
   clear h hfz hsp
   go_enter Tryz.func48, Tryz.ntmps48
   go_wp2_with fail
   go_ret
   exact ⟨rfl, HD.out, MvR.refl _ _ _⟩
set_option maxRecDepth 100000 in
set_option maxHeartbeats 8000000 in
theorem risname_c (s : ByteArray) (w : World) (hs : s.size ≤ maxLen) : Calls Tryz.prog 37 #[.string s] w fun e w' => e = .returned (.bool (isNm s)) ∧ w' = w := by
 unfold isNm
 unfold maxLen at hs
 by_cases h1 : 1 ≤ s.size
 ·
  by_cases h2 : s.size ≤ 160
  ·
   rw [decide_eq_true h1, decide_eq_true h2]
   have i1 : (1 : Int) ≤ (s.size : Int) := by omega
   have i2 : (s.size : Int) ≤ 160 := by omega
   go_enter Tryz.func37, Tryz.ntmps37
   go_wp2_with fail
   go_ret
   exact ⟨rfl, rfl⟩
  ·
   rw [decide_eq_true h1, decide_eq_false h2]
   have i1 : (1 : Int) ≤ (s.size : Int) := by omega
   have i2 : ¬ (s.size : Int) ≤ 160 := by omega
   go_enter Tryz.func37, Tryz.ntmps37
   go_wp2_with fail
   go_ret
   exact ⟨rfl, rfl⟩
 ·
  rw [decide_eq_false h1]
  have i1 : ¬ (1 : Int) ≤ (s.size : Int) := by omega
  go_enter Tryz.func37, Tryz.ntmps37
  go_wp2_with fail
  go_ret
  exact ⟨rfl, rfl⟩
set_option maxRecDepth 100000 in
set_option maxHeartbeats 8000000 in
theorem rdo0_c {N : Nat → Prop} {w : World} {a : Option Addr} {len cap : Nat} {l : Fls} (h : RF N w a len l) (hN : ∀ k, N k → k < w.heap.size) (s t : ByteArray) (pv : Value) (hp : ∃ pa pn pc, pv = .slice pa pn pc) (hm : len ≤ 100000000) :
  Calls Tryz.prog 86 #[.slice a len cap, .agg #[.int .i64 0, .string s, .string t, pv]] w (RetF N (withF l (s, [])) w) := by
 obtain ⟨pa, pn, pc, rfl⟩ := hp
 obtain ⟨X, hX⟩ : ∃ X, X = w.heap.size := ⟨_, rfl⟩
 obtain ⟨w1, hw⟩ : ∃ w1, w1 = w.alloc (.cells #[.int .i64 0, .string s, .string t, .slice pa pn pc] 94) := ⟨_, rfl⟩
 have hb1 : Below w.heap.size w w1 := by rw [hw]; exact (Below.refl _ _).alloc (Nat.le_refl _) _
 have hh : w1.heap[X]? = some (.cells #[.int .i64 0, .string s, .string t, .slice pa pn pc] 94 (0, 0)) := by rw [hw, hX]; exact heap_alloc_new w _
 have c0 := (cell_of_row w1 X 0 _ _ _ hh).trans rfl
 have c1 := (cell_of_row w1 X 1 _ _ _ hh).trans rfl
 have hrf := h.below hb1
 have HB1 := Lib.hid hb1
 have HW := Lib.hid (rwith_c (f := (s, [])) (fa := none) (fn := 0) (fc := 0) (cap := cap) hrf (fun k hk => by have := hN k hk; have := hb1.size; omega) ⟨⟨rfl, by simp, .inl rfl⟩, fun _ _ _ e => (by cases e), fun _ => rfl, Nat.le_refl _⟩ hm)
 clear h hN hb1 hh hrf
 go_enter Tryz.func86, Tryz.ntmps86
 go_wp2_with fail
 rw [← hX, ← hw]
 clear hX hw
 go_wp2_with fail
 refine HW.out.mono ?_
 rintro e2 w2 ⟨a2, l2, k2, rfl, h2, hb2⟩
 have H2 := Lib.hid h2
 have HB2 := Lib.hid (HB1.out.trans (hb2.mono HB1.out.size))
 clear h2 hb2 HW c0 c1
 go_wp2_with fail
 go_ret
 exact ⟨_, _, _, rfl, H2.out, HB2.out⟩
end Go.Proofs.YtihbgigledmliaaGreat

