/-
  A store's write: its steps, and what is done behind it where there is no room.
-/
import Derived.Test.YtmomdfmilelilaaDoorBic
import Derived.Defers
namespace Go.Proofs.YtmomdfmilelilaaDoor
open Go.RowKit
set_option linter.unusedVariables false
def wrS (nm : ByteArray) (ps : List Nat) : List (Ad → Ad × Int) := [Ad.clr, fun A => A.step ⟨0, spr, ⟨#[]⟩, []⟩, fun A => A.step ⟨1, spr, ⟨#[]⟩, ps⟩, Ad.sync, fun A => A.step ⟨3, spr, nm, []⟩, Ad.sync]
def wrF (r : Ad × Int) : Ad × Int := if r.2 = 4 then (r.1.clr.1, if r.1.clr.2 ≠ 0 then r.1.clr.2 else 4) else r
def Ad.wr (A : Ad) (nm : ByteArray) (ps : List Nat) : Ad × Int := wrF (runA (wrS nm ps) A)
structure S2 (b3 sb d : Nat) (W : World) : Prop where
  c3 : W.cell? ⟨b3, 0, none⟩ = some (.pointer (some ⟨sb, 0, none⟩))
  cs : W.cell? ⟨sb, 0, none⟩ = some (.pointer (some ⟨d, 0, none⟩))
theorem S2.kp {X : Nat → Prop} {b3 sb d : Nat} {W W' : World} (h : S2 b3 sb d W) (hk : KpD X W W') (h3 : X b3) (hs : X sb) : S2 b3 sb d W' := ⟨(World.cell?_of_block (hk b3 h3)).trans h.c3, (World.cell?_of_block (hk sb hs)).trans h.cs⟩
theorem S2.set {b3 sb d g : Nat} {W : World} (h : S2 b3 sb d W) (h3 : b3 ≠ g) (hs : sb ≠ g) (v : Value) : S2 b3 sb d (W.setCells g 0 [v]) :=
  ⟨(World.cell?_of_block (Below.heap_setCell W ⟨g, 0, none⟩ v b3 h3)).trans h.c3, (World.cell?_of_block (Below.heap_setCell W ⟨g, 0, none⟩ v sb hs)).trans h.cs⟩
theorem rd_two {X X7 : Nat → Prop} {B n : Nat} {W W' : World} {a : Option Addr} {z : List Nat} (h : Rd W a n z) (hl : ∀ b o s, a = some ⟨b, o, s⟩ → n ≠ 0 → b < B ∨ X b) (hb : Below B W W') (hk : KpD X7 W W') (hX : ∀ j, X j → X7 j) : Rd W' a n z := by
  obtain ⟨h1, h2, h3⟩ := h
  refine ⟨h1, h2, ?_⟩
  by_cases h0 : n = 0
  · exact .inl h0
  · obtain ⟨b, off, rfl, hlt, hc⟩ := h3.resolve_left h0
    have hbl : W'.heap[b]? = W.heap[b]? := by
      rcases hl b off none rfl h0 with h5 | h5
      · exact hb.block b h5
      · exact hk b (hX b h5)
    exact .inr ⟨b, off, rfl, Nat.lt_of_lt_of_le hlt hb.size, fun i hi => (World.cell?_of_block hbl).trans (hc i hi)⟩
theorem wp_bs6 {w : World} {op : Oper} {a : Act} {K : Act → World → Prop} {Q : Exit → Act → World → Prop} (x0 x1 x2 x3 x4 x5 : Operand) (ho : op.op = .buildSlice 58 6 #[(0, x0), (1, x1), (2, x2), (3, x3), (4, x4), (5, x5)]) (v0 v1 v2 v3 v4 v5 : Stp)
    (h0 : a.eval x0 = .func (.func v0.f) v0.A v0.C) (h1 : a.eval x1 = .func (.func v1.f) v1.A v1.C) (h2 : a.eval x2 = .func (.func v2.f) v2.A v2.C) (h3 : a.eval x3 = .func (.func v3.f) v3.A v3.C) (h4 : a.eval x4 = .func (.func v4.f) v4.A v4.C) (h5 : a.eval x5 = .func (.func v5.f) v5.A v5.C)
    (k : K (a.put op.dst (.slice (some ⟨w.heap.size, 0, none⟩) 6 6)) (w.alloc (.cells #[.func (.func v0.f) v0.A v0.C, .func (.func v1.f) v1.A v1.C, .func (.func v2.f) v2.A v2.C, .func (.func v3.f) v3.A v3.C, .func (.func v4.f) v4.A v4.C, .func (.func v5.f) v5.A v5.C] 83))) : op.wp Tryd.prog a w K Q := by
  unfold Oper.wp execOp
  simp only [ho, List.map_toArray, List.map_cons, List.map_nil, h0, h1, h2, h3, h4, h5]
  go_simp
  exact k
theorem setCell_rowB {W : World} {g : Nat} {cur : Array Value} {t : TypeId} {fr : Nat × Nat} (h : W.heap[g]? = some (.cells cur t fr)) (k : Nat) (v : Value) : (W.setCell ⟨g, k, none⟩ v).heap[g]? = some (.cells (cur.setIfInBounds k v) t fr) := by
  obtain ⟨hl, he⟩ := Array.getElem?_eq_some_iff.1 h
  unfold World.setCell
  simp [hl, Array.getElem_modify_self, he]
/-- what the deferred call leaves -/
def DfR (X : Nat → Prop) (B d N b6 : Nat) (w : World) (r : Ad × Int) (w' : World) : Prop := Dx X B d N r.1 w' ∧ w'.heap[b6]? = some (.cells #[.int .i64 r.2] 25 (0, 0)) ∧ Below B w w' ∧ ∀ j, X j → j ≠ b6 → w'.heap[j]? = w.heap[j]?
set_option maxRecDepth 100000 in
set_option maxHeartbeats 8000000 in
theorem wdefer_c {X : Nat → Prop} {B d N sb b3 b6 : Nat} {A : Ad} {x : Int} {w : World} (h : Dx X B d N A w) (hN : N < 1000000000) (hB : B ≤ b6) (h6 : w.heap[b6]? = some (.cells #[.int .i64 x] 25 (0, 0))) (hx6 : X b6) (hs : S2 b3 sb d w) :
    CallsD Tryd.prog 42 #[.pointer (some ⟨b6, 0, none⟩), .pointer (some ⟨b3, 0, none⟩)] .returning w fun e u' w' => u' = .returning ∧ (e = .returned (.tuple #[]) ∧ DfR X B d (N + 3) b6 w (wrF (A, x)) w') := by
  unfold wrF
  have c6 : w.cell? ⟨b6, 0, none⟩ = some (.int .i64 x) := cell_of_row w b6 0 _ _ _ h6
  obtain ⟨c3, cs⟩ := hs
  by_cases hx : x = 4
  · subst hx
    have HC := Lib.hid (clear_c h hN cs)
    simp only [if_true]
    obtain ⟨r, hr⟩ : ∃ r, A.clr = r := ⟨_, rfl⟩
    rw [hr] at HC ⊢
    obtain ⟨A', y⟩ := r
    have H6 := Lib.hid h6
    have HX6 := Lib.hid hx6
    clear h h6 hr
    by_cases hy : y = 0
    · subst hy
      go_enter_d Tryd.func42, Tryd.ntmps42
      go_wp2_with fail
      refine HC.out.mono ?_
      rintro e w' ⟨rfl, k1, k2, k3⟩
      have HE := Lib.hid (show DfR X B d (N + 3) b6 w (A', 4) w' from ⟨k1, (k3 b6 HX6.out).trans H6.out, k2, fun j hj _ => k3 j hj⟩)
      clear k1 k2 k3 HC c6 c3 cs
      go_wp2_with fail
      first | go_end0 | refine bodyPost_ret (results_none rfl _ _ _) rfl ?_
      exact ⟨rfl, HE.out⟩
    · have hyy : (y != 0) = true := by simp [hy]
      go_enter_d Tryd.func42, Tryd.ntmps42
      go_wp2_with fail
      refine HC.out.mono ?_
      rintro e w' ⟨rfl, k1, k2, k3⟩
      have k6 := (k3 b6 HX6.out).trans H6.out
      have c6' : w'.cell? ⟨b6, 0, none⟩ = some (.int .i64 4) := cell_of_row w' b6 0 _ _ _ k6
      have f6 : w'.frozen? ⟨b6, 0, none⟩ = false := frozen_of_row w' b6 0 _ _ k6
      have HE := Lib.hid (show DfR X B d (N + 3) b6 w (A', y) (w'.setCell ⟨b6, 0, none⟩ (.int .i64 y)) from ⟨k1.more (by simp [World.setCell]) (fun k hk hn => Below.heap_setCell w' ⟨b6, 0, none⟩ _ k fun e => hn (by rw [show k = b6 from e]; exact HX6.out)) (fun j hj => .inl hj) (fun j hj => Nat.lt_of_lt_of_le (k1.lt j hj) (by simp [World.setCell])), setCell_rowB k6 0 _, k2.trans ((Below.refl _ _).setCell (p := ⟨b6, 0, none⟩) hB _), fun j hj hn => (Below.heap_setCell w' ⟨b6, 0, none⟩ _ j hn).trans (k3 j hj)⟩)
      clear k1 k2 k3 k6 HC c6 c3 cs
      go_wp2_with fail
      first | go_end0 | refine bodyPost_ret (results_none rfl _ _ _) rfl ?_
      refine ⟨rfl, ?_⟩
      exact HE.out
  · have hxx : (x != 4) = true := by simp [hx]
    simp only [if_neg hx]
    have HE := Lib.hid (show DfR X B d (N + 3) b6 w (A, x) w from ⟨h.mono (by omega), h6, Below.refl _ _, fun _ _ _ => rfl⟩)
    clear h h6
    go_enter_d Tryd.func42, Tryd.ntmps42
    go_wp2_with fail
    first | go_end0 | refine bodyPost_ret (results_none rfl _ _ _) rfl ?_
    exact ⟨rfl, HE.out⟩
set_option maxRecDepth 100000 in
set_option maxHeartbeats 8000000 in
theorem bwrite_c {X : Nat → Prop} {B d N sb : Nat} {A : Ad} {w : World} (h : Dx X B d N A w) (hN : N < 100000000) (hXB : B ≤ w.heap.size) (hxs : X sb) (hcs : w.cell? ⟨sb, 0, none⟩ = some (.pointer (some ⟨d, 0, none⟩))) (nm : ByteArray) (hnm : nm.size ≤ maxLen) (pa : Option Addr) (pn pc : Nat) (ps : List Nat) (hr : Rd w pa pn ps) (hno : ∀ b o s, pa = some ⟨b, o, s⟩ → pn ≠ 0 → b < B ∨ X b) (hnil : pa = none → pc = 0) :
    Calls Tryd.prog 26 #[.pointer (some ⟨sb, 0, none⟩), .string nm, .slice pa pn pc] w (DxR X B d (N + 24) w (A.wr nm ps)) := by
  obtain ⟨b3, hb3⟩ : ∃ b3, b3 = w.heap.size := ⟨_, rfl⟩
  obtain ⟨w1, hw1⟩ : ∃ w1, w1 = w.alloc (.cells #[.pointer (some ⟨sb, 0, none⟩)] 28) := ⟨_, rfl⟩
  obtain ⟨b4, hb4⟩ : ∃ b4, b4 = w1.heap.size := ⟨_, rfl⟩
  obtain ⟨w2, hw2⟩ : ∃ w2, w2 = w1.alloc (.cells #[.string nm] 9) := ⟨_, rfl⟩
  obtain ⟨b5, hb5⟩ : ∃ b5, b5 = w2.heap.size := ⟨_, rfl⟩
  obtain ⟨w3, hw3⟩ : ∃ w3, w3 = w2.alloc (.cells #[.slice pa pn pc] 33) := ⟨_, rfl⟩
  obtain ⟨b6, hb6⟩ : ∃ b6, b6 = w3.heap.size := ⟨_, rfl⟩
  obtain ⟨w4, hw4⟩ : ∃ w4, w4 = w3.alloc (.cells #[.int .i64 0] 25) := ⟨_, rfl⟩
  obtain ⟨b7, hb7⟩ : ∃ b7, b7 = (World.drew w4).heap.size := ⟨_, rfl⟩
  obtain ⟨w7, hw7⟩ : ∃ w7, w7 = (World.drew w4).alloc (.cells #[.func (.func 43) #[.pointer (some ⟨sb, 0, none⟩)] #[], .func (.func 44) #[] #[.pointer (some ⟨b3, 0, none⟩)], .func (.func 46) #[] #[.pointer (some ⟨b3, 0, none⟩), .pointer (some ⟨b5, 0, none⟩)], .func (.func 19) #[.pointer (some ⟨d, 0, none⟩)] #[], .func (.func 48) #[] #[.pointer (some ⟨b3, 0, none⟩), .pointer (some ⟨b4, 0, none⟩)], .func (.func 19) #[.pointer (some ⟨d, 0, none⟩)] #[]] 83) := ⟨_, rfl⟩
  have z1 : w1.heap.size = b3 + 1 := by rw [hw1, hb3]; simp
  have z2 : w2.heap.size = b4 + 1 := by rw [hw2, hb4]; simp
  have z3 : w3.heap.size = b5 + 1 := by rw [hw3, hb5]; simp
  have z4 : w4.heap.size = b6 + 1 := by rw [hw4, hb6]; simp
  have z7 : w7.heap.size = b7 + 1 := by rw [hw7, hb7]; simp
  have zb : b7 = w4.heap.size := hb7
  have q1 : Below w.heap.size w w1 := by rw [hw1]; exact (Below.refl _ _).alloc (Nat.le_refl _) _
  have q2 : Below w1.heap.size w1 w2 := by rw [hw2]; exact (Below.refl _ _).alloc (Nat.le_refl _) _
  have q3 : Below w2.heap.size w2 w3 := by rw [hw3]; exact (Below.refl _ _).alloc (Nat.le_refl _) _
  have q4 : Below w3.heap.size w3 w4 := by rw [hw4]; exact (Below.refl _ _).alloc (Nat.le_refl _) _
  have q7 : Below w4.heap.size w4 w7 := Below.trans (b := World.drew w4) (below_drewN' _ w4 1) (show Below w4.heap.size (World.drew w4) w7 by rw [hw7]; exact (Below.refl (World.drew w4).heap.size (World.drew w4)).alloc (Nat.le_refl _) _)
  have r47 : Below w3.heap.size w3 w7 := q4.trans (q7.mono q4.size)
  have r37 : Below w2.heap.size w2 w7 := q3.trans (r47.mono q3.size)
  have r27 : Below w1.heap.size w1 w7 := q2.trans (r37.mono q2.size)
  have r17 : Below w.heap.size w w7 := q1.trans (r27.mono q1.size)
  have k3 : w7.heap[b3]? = some (.cells #[.pointer (some ⟨sb, 0, none⟩)] 28 (0, 0)) := (r27.block b3 (by omega)).trans (by rw [hw1, hb3]; exact heap_alloc_new w _)
  have k4 : w7.heap[b4]? = some (.cells #[.string nm] 9 (0, 0)) := (r37.block b4 (by omega)).trans (by rw [hw2, hb4]; exact heap_alloc_new w1 _)
  have k5 : w7.heap[b5]? = some (.cells #[.slice pa pn pc] 33 (0, 0)) := (r47.block b5 (by omega)).trans (by rw [hw3, hb5]; exact heap_alloc_new w2 _)
  have k6 : w7.heap[b6]? = some (.cells #[.int .i64 0] 25 (0, 0)) := (q7.block b6 (by omega)).trans (by rw [hw4, hb6]; exact heap_alloc_new w3 _)
  have k7 : w7.heap[b7]? = some (.cells #[.func (.func 43) #[.pointer (some ⟨sb, 0, none⟩)] #[], .func (.func 44) #[] #[.pointer (some ⟨b3, 0, none⟩)], .func (.func 46) #[] #[.pointer (some ⟨b3, 0, none⟩), .pointer (some ⟨b5, 0, none⟩)], .func (.func 19) #[.pointer (some ⟨d, 0, none⟩)] #[], .func (.func 48) #[] #[.pointer (some ⟨b3, 0, none⟩), .pointer (some ⟨b4, 0, none⟩)], .func (.func 19) #[.pointer (some ⟨d, 0, none⟩)] #[]] 83 (0, 0)) := by rw [hw7, hb7]; exact heap_alloc_new _ _
  have hsl : sb < w.heap.size := h.lt sb hxs
  have ks : w7.cell? ⟨sb, 0, none⟩ = some (.pointer (some ⟨d, 0, none⟩)) := (r17.cell (p := ⟨sb, 0, none⟩) hsl).trans hcs
  obtain ⟨X7, hX7⟩ : ∃ X7 : Nat → Prop, X7 = fun j => X j ∨ j = b3 ∨ j = b4 ∨ j = b5 ∨ j = b6 ∨ j = b7 := ⟨_, rfl⟩
  have hd7 : Dx X7 B d N A w7 := h.belowY r17 (fun j hj => by rw [hX7] at hj; rcases hj with hj | hj; exact .inl hj; exact .inr (by omega)) (fun j hj => by
    rw [hX7] at hj
    rcases hj with hj | hj
    · exact Nat.lt_of_lt_of_le (h.lt j hj) r17.size
    · omega)
  have hr7 := hr.below r17
  have hbl : ∀ b, X7 b → ∀ {W : World}, KpD X7 w7 W → W.heap[b]? = w7.heap[b]? := fun b hb W hk => hk b hb
  have x3 : X7 b3 := by rw [hX7]; exact .inr (.inl rfl)
  have x4 : X7 b4 := by rw [hX7]; exact .inr (.inr (.inl rfl))
  have x5 : X7 b5 := by rw [hX7]; exact .inr (.inr (.inr (.inl rfl)))
  have x6 : X7 b6 := by rw [hX7]; exact .inr (.inr (.inr (.inr (.inl rfl))))
  have x7 : X7 b7 := by rw [hX7]; exact .inr (.inr (.inr (.inr (.inr rfl))))
  have xs : X7 sb := by rw [hX7]; exact .inl hxs
  have hIN := inorder_ad hd7 b7 6 (fun i => match i with | 0 => ⟨43, #[.pointer (some ⟨sb, 0, none⟩)], #[]⟩ | 1 => ⟨44, #[], #[.pointer (some ⟨b3, 0, none⟩)]⟩ | 2 => ⟨46, #[], #[.pointer (some ⟨b3, 0, none⟩), .pointer (some ⟨b5, 0, none⟩)]⟩ | 3 => ⟨19, #[.pointer (some ⟨d, 0, none⟩)], #[]⟩ | 4 => ⟨48, #[], #[.pointer (some ⟨b3, 0, none⟩), .pointer (some ⟨b4, 0, none⟩)]⟩ | _ => ⟨19, #[.pointer (some ⟨d, 0, none⟩)], #[]⟩) (wrS nm ps) rfl (by omega) x7 (fun i hi => by
      rw [cell_of_row w7 b7 i _ _ _ k7]
      match i, hi with
      | 0, _ => rfl
      | 1, _ => rfl
      | 2, _ => rfl
      | 3, _ => rfl
      | 4, _ => rfl
      | 5, _ => rfl) (fun i hi => by
      match i, hi with
      | 0, _ => exact enters_of Tryd.func43 (by kernel_rfl) rfl
      | 1, _ => exact enters_of Tryd.func44 (by kernel_rfl) rfl
      | 2, _ => exact enters_of Tryd.func46 (by kernel_rfl) rfl
      | 3, _ => exact enters_of Tryd.func19 (by kernel_rfl) rfl
      | 4, _ => exact enters_of Tryd.func48 (by kernel_rfl) rfl
      | 5, _ => exact enters_of Tryd.func19 (by kernel_rfl) rfl) (fun i f hf A1 W g1 g2 g3 => by
      have y3 : W.cell? ⟨b3, 0, none⟩ = some (.pointer (some ⟨sb, 0, none⟩)) := (World.cell?_of_block (g3 b3 x3)).trans (cell_of_row w7 b3 0 _ _ _ k3)
      have y4 : W.cell? ⟨b4, 0, none⟩ = some (.string nm) := (World.cell?_of_block (g3 b4 x4)).trans (cell_of_row w7 b4 0 _ _ _ k4)
      have y5 : W.cell? ⟨b5, 0, none⟩ = some (.slice pa pn pc) := (World.cell?_of_block (g3 b5 x5)).trans (cell_of_row w7 b5 0 _ _ _ k5)
      have ys : W.cell? ⟨sb, 0, none⟩ = some (.pointer (some ⟨d, 0, none⟩)) := (World.cell?_of_block (g3 sb xs)).trans ks
      have hi : i < 6 := (List.getElem?_eq_some_iff.1 hf).1
      match i, hi, hf with
      | 0, _, hf => cases hf; exact clear_c g1 (by omega) ys
      | 1, _, hf => cases hf; exact wcreate_c g1 (by omega) y3 ys
      | 2, _, hf => cases hf; exact wappend_c g1 (by omega) pa pn pc ps (rd_two hr7 hno g2 g3 (fun j hj => by rw [hX7]; exact .inl hj)) (fun b o s e hn => (hno b o s e hn).imp id fun hx => by rw [hX7]; exact .inl hx) hnil ⟨y3, ys, y5⟩ x3 xs x5
      | 3, _, hf => cases hf; exact g1.sync
      | 4, _, hf => cases hf; exact wrename_c g1 (by omega) nm hnm ⟨y3, ys, y4⟩ x3 xs x4
      | 5, _, hf => cases hf; exact g1.sync)
  subst hX7
  have HIN := Lib.hid hIN
  have HB7 := Lib.hid hb7.symm
  have HW7 := Lib.hid hw7
  have HW7S := Lib.hid (show S2 b3 sb d w7 from ⟨cell_of_row w7 b3 0 _ _ _ k3, ks⟩)
  have HXS := Lib.hid hxs
  have HR6 := Lib.hid (show ∀ W, KpD (fun j => X j ∨ j = b3 ∨ j = b4 ∨ j = b5 ∨ j = b6 ∨ j = b7) w7 W → W.heap[b6]? = some (.cells #[.int .i64 0] 25 (0, 0)) from fun W hk => (hk b6 x6).trans k6)
  have HNE := Lib.hid (show b3 ≠ b6 ∧ sb ≠ b6 from ⟨by omega, by omega⟩)
  have HW := Lib.hid (show Below w.heap.size w w7 from r17)
  have HSZ := Lib.hid (show w.heap.size ≤ b6 from by omega)
  have HLT := Lib.hid h.lt
  have s3 : w4.cell? ⟨b3, 0, none⟩ = some (.pointer (some ⟨sb, 0, none⟩)) := by rw [← q7.cell (p := ⟨b3, 0, none⟩) (by show b3 < _; omega)]; exact cell_of_row w7 b3 0 _ _ _ k3
  have ss : w4.cell? ⟨sb, 0, none⟩ = some (.pointer (some ⟨d, 0, none⟩)) := by rw [← q7.cell (p := ⟨sb, 0, none⟩) (by show sb < _; omega)]; exact ks
  have HS4 := Lib.hid (show S2 b3 sb d (World.drew w4) from ⟨s3, ss⟩)
  have HH := Lib.hid (And.intro hb3 (And.intro hb4 (And.intro hb5 hb6)))
  have hmf : ∀ (fn : Fn) (first cap : Array Value) (w : World), (Instr.makeFunc fn first cap).run Tryd.prog w = .ok (.func fn first cap) w := fun _ _ _ _ => rfl
  have e4 : b3 + 1 = b4 := by omega
  have e5 : b4 + 1 = b5 := by omega
  have e6 : b5 + 1 = b6 := by omega
  clear hIN hb7 hw7 z1 z2 z3 z4 z7 zb q1 q2 q3 q4 q7 r47 r37 r27 r17 k3 k4 k5 k6 k7 hsl ks hd7 hr7 hbl x3 x4 x5 x6 x7 xs s3 ss hr hno h hcs hnm hnil
  go_enter_defers Tryd.func26, Tryd.ntmps26
  go_wp2_with fail
  rw [← hb3, ← hw1, e4, e5, e6, ← hw2, ← hw3, ← hw4]
  clear hw1 hw2 hw3 hw4 hb3 hb4 hb5 hb6 hmf e4 e5 e6
  have HS := HS4
  have HL1 := Lib.hid (fun W (hW : S2 b3 sb d W) => run_cell_st W ⟨b3, 0, none⟩ _ hW.c3)
  have HL2 := Lib.hid (fun W (hW : S2 b3 sb d W) => run_cell_disk W ⟨sb, 0, none⟩ _ hW.cs)
  refine wp_safe ?_
  refine anyH_begin (S := S2 b3 sb d) (by kernel_rfl) ?_
  refine anyH_loadG 0 (d := 8) (ty := 28) (x := (.tmp 3)) (gd := none) (p := .pointer (some ⟨b3, 0, none⟩)) (.pointer (some ⟨sb, 0, none⟩)) (by rfl) (fun o ho => wanted_plain ho _) (by kernel_rfl) (by kernel_rfl) (by kernel_rfl) (fun _ _ _ h => h) (by rfl) HL1.out HS.out ?_
  simp only [Act.put, List.setIfInBounds_toArray, List.set_cons_zero, List.set_cons_succ]
  refine anyH_pureG 1 (d := 9) (op := .makeFunc (.func 43) #[(.tmp 8)] #[]) (gd := none) (.func (.func 43) #[.pointer (some ⟨sb, 0, none⟩)] #[]) (by rfl) (fun o ho => wanted_plain ho _) (by kernel_rfl) (by kernel_rfl) (by kernel_rfl) (fun _ _ _ h => h) (fun o ho W hW => by unfold execOp; simp only [ho]; first | rfl | (go_simp; done) | simp [go_sem, Instr.makeFunc, Act.eval]) HS.out ?_
  simp only [Act.put, List.setIfInBounds_toArray, List.set_cons_zero, List.set_cons_succ]
  refine anyH_pureG 2 (d := 10) (op := .makeFunc (.func 44) #[] #[(.tmp 3)]) (gd := none) (.func (.func 44) #[] #[.pointer (some ⟨b3, 0, none⟩)]) (by rfl) (fun o ho => wanted_plain ho _) (by kernel_rfl) (by kernel_rfl) (by kernel_rfl) (fun _ _ _ h => h) (fun o ho W hW => by unfold execOp; simp only [ho]; first | rfl | (go_simp; done) | simp [go_sem, Instr.makeFunc, Act.eval]) HS.out ?_
  simp only [Act.put, List.setIfInBounds_toArray, List.set_cons_zero, List.set_cons_succ]
  refine anyH_pureG 3 (d := 11) (op := .makeFunc (.func 46) #[] #[(.tmp 3), (.tmp 5)]) (gd := none) (.func (.func 46) #[] #[.pointer (some ⟨b3, 0, none⟩), .pointer (some ⟨b5, 0, none⟩)]) (by rfl) (fun o ho => wanted_plain ho _) (by kernel_rfl) (by kernel_rfl) (by kernel_rfl) (fun _ _ _ h => h) (fun o ho W hW => by unfold execOp; simp only [ho]; first | rfl | (go_simp; done) | simp [go_sem, Instr.makeFunc, Act.eval]) HS.out ?_
  simp only [Act.put, List.setIfInBounds_toArray, List.set_cons_zero, List.set_cons_succ]
  refine anyH_loadG 4 (d := 12) (ty := 28) (x := (.tmp 3)) (gd := none) (p := .pointer (some ⟨b3, 0, none⟩)) (.pointer (some ⟨sb, 0, none⟩)) (by rfl) (fun o ho => wanted_plain ho _) (by kernel_rfl) (by kernel_rfl) (by kernel_rfl) (fun _ _ _ h => h) (by rfl) HL1.out HS.out ?_
  simp only [Act.put, List.setIfInBounds_toArray, List.set_cons_zero, List.set_cons_succ]
  refine anyH_pureG 5 (d := 13) (op := .nilCheck (.tmp 12)) (gd := none) (.pointer (some ⟨sb, 0, none⟩)) (by rfl) (fun o ho => wanted_plain ho _) (by kernel_rfl) (by kernel_rfl) (by kernel_rfl) (fun _ _ _ h => h) (fun o ho W hW => by unfold execOp; simp only [ho]; go_simp) HS.out ?_
  simp only [Act.put, List.setIfInBounds_toArray, List.set_cons_zero, List.set_cons_succ]
  refine anyH_pureG 6 (d := 14) (op := .fieldAddr 55 (.tmp 13) 0) (gd := none) (.pointer (some ⟨sb, 0, none⟩)) (by rfl) (fun o ho => wanted_plain ho _) (by kernel_rfl) (by kernel_rfl) (by kernel_rfl) (fun _ _ _ h => h) (fun o ho W hW => by unfold execOp; simp only [ho]; go_simp) HS.out ?_
  simp only [Act.put, List.setIfInBounds_toArray, List.set_cons_zero, List.set_cons_succ]
  refine anyH_loadG 7 (d := 15) (ty := 24) (x := (.tmp 14)) (gd := none) (p := .pointer (some ⟨sb, 0, none⟩)) (.pointer (some ⟨d, 0, none⟩)) (by rfl) (fun o ho => wanted_plain ho _) (by kernel_rfl) (by kernel_rfl) (by kernel_rfl) (fun _ _ _ h => h) (by rfl) HL2.out HS.out ?_
  simp only [Act.put, List.setIfInBounds_toArray, List.set_cons_zero, List.set_cons_succ]
  refine anyH_pureG 8 (d := 16) (op := .makeFunc (.func 19) #[(.tmp 15)] #[]) (gd := none) (.func (.func 19) #[.pointer (some ⟨d, 0, none⟩)] #[]) (by rfl) (fun o ho => wanted_plain ho _) (by kernel_rfl) (by kernel_rfl) (by kernel_rfl) (fun _ _ _ h => h) (fun o ho W hW => by unfold execOp; simp only [ho]; first | rfl | (go_simp; done) | simp [go_sem, Instr.makeFunc, Act.eval]) HS.out ?_
  simp only [Act.put, List.setIfInBounds_toArray, List.set_cons_zero, List.set_cons_succ]
  refine anyH_pureG 9 (d := 17) (op := .makeFunc (.func 48) #[] #[(.tmp 3), (.tmp 4)]) (gd := none) (.func (.func 48) #[] #[.pointer (some ⟨b3, 0, none⟩), .pointer (some ⟨b4, 0, none⟩)]) (by rfl) (fun o ho => wanted_plain ho _) (by kernel_rfl) (by kernel_rfl) (by kernel_rfl) (fun _ _ _ h => h) (fun o ho W hW => by unfold execOp; simp only [ho]; first | rfl | (go_simp; done) | simp [go_sem, Instr.makeFunc, Act.eval]) HS.out ?_
  simp only [Act.put, List.setIfInBounds_toArray, List.set_cons_zero, List.set_cons_succ]
  refine anyH_loadG 10 (d := 18) (ty := 28) (x := (.tmp 3)) (gd := none) (p := .pointer (some ⟨b3, 0, none⟩)) (.pointer (some ⟨sb, 0, none⟩)) (by rfl) (fun o ho => wanted_plain ho _) (by kernel_rfl) (by kernel_rfl) (by kernel_rfl) (fun _ _ _ h => h) (by rfl) HL1.out HS.out ?_
  simp only [Act.put, List.setIfInBounds_toArray, List.set_cons_zero, List.set_cons_succ]
  refine anyH_pureG 11 (d := 19) (op := .nilCheck (.tmp 18)) (gd := none) (.pointer (some ⟨sb, 0, none⟩)) (by rfl) (fun o ho => wanted_plain ho _) (by kernel_rfl) (by kernel_rfl) (by kernel_rfl) (fun _ _ _ h => h) (fun o ho W hW => by unfold execOp; simp only [ho]; go_simp) HS.out ?_
  simp only [Act.put, List.setIfInBounds_toArray, List.set_cons_zero, List.set_cons_succ]
  refine anyH_pureG 12 (d := 20) (op := .fieldAddr 55 (.tmp 19) 0) (gd := none) (.pointer (some ⟨sb, 0, none⟩)) (by rfl) (fun o ho => wanted_plain ho _) (by kernel_rfl) (by kernel_rfl) (by kernel_rfl) (fun _ _ _ h => h) (fun o ho W hW => by unfold execOp; simp only [ho]; go_simp) HS.out ?_
  simp only [Act.put, List.setIfInBounds_toArray, List.set_cons_zero, List.set_cons_succ]
  refine anyH_loadG 13 (d := 21) (ty := 24) (x := (.tmp 20)) (gd := none) (p := .pointer (some ⟨sb, 0, none⟩)) (.pointer (some ⟨d, 0, none⟩)) (by rfl) (fun o ho => wanted_plain ho _) (by kernel_rfl) (by kernel_rfl) (by kernel_rfl) (fun _ _ _ h => h) (by rfl) HL2.out HS.out ?_
  simp only [Act.put, List.setIfInBounds_toArray, List.set_cons_zero, List.set_cons_succ]
  refine anyH_pureG 14 (d := 22) (op := .makeFunc (.func 19) #[(.tmp 21)] #[]) (gd := none) (.func (.func 19) #[.pointer (some ⟨d, 0, none⟩)] #[]) (by rfl) (fun o ho => wanted_plain ho _) (by kernel_rfl) (by kernel_rfl) (by kernel_rfl) (fun _ _ _ h => h) (fun o ho W hW => by unfold execOp; simp only [ho]; first | rfl | (go_simp; done) | simp [go_sem, Instr.makeFunc, Act.eval]) HS.out ?_
  simp only [Act.put, List.setIfInBounds_toArray, List.set_cons_zero, List.set_cons_succ]
  refine wpAnyH_all (rs := [15]) (by kernel_rfl) (by simp) ?_
  intro k hk; simp only [List.mem_cons, List.not_mem_nil, or_false] at hk; subst hk
  refine op_atJ 15 (d := some 23) (op := .buildSlice 58 6 #[(0, (.tmp 9)), (1, (.tmp 10)), (2, (.tmp 11)), (3, (.tmp 16)), (4, (.tmp 17)), (5, (.tmp 22))]) (by rfl) ?_
  intro o5 hod5 hoo5
  refine wp_bs6 (.tmp 9) (.tmp 10) (.tmp 11) (.tmp 16) (.tmp 17) (.tmp 22) hoo5 ⟨43, #[.pointer (some ⟨sb, 0, none⟩)], #[]⟩ ⟨44, #[], #[.pointer (some ⟨b3, 0, none⟩)]⟩ ⟨46, #[], #[.pointer (some ⟨b3, 0, none⟩), .pointer (some ⟨b5, 0, none⟩)]⟩ ⟨19, #[.pointer (some ⟨d, 0, none⟩)], #[]⟩ ⟨48, #[], #[.pointer (some ⟨b3, 0, none⟩), .pointer (some ⟨b4, 0, none⟩)]⟩ ⟨19, #[.pointer (some ⟨d, 0, none⟩)], #[]⟩ (by rfl) (by rfl) (by rfl) (by rfl) (by rfl) (by rfl) ?_
  rw [hod5]
  clear hod5 hoo5
  rw [HB7.out, ← HW7.out]
  have HS7 := Lib.hid (show S2 b3 sb d w7 from HW7S.out)
  simp only [Act.put, List.setIfInBounds_toArray, List.set_cons_zero, List.set_cons_succ]
  refine ⟨HS7.out, ?_⟩
  clear HS
  refine anyH_callG 16 (d := some 24) (f := 17) (xs := #[(.tmp 23)]) (ts := #[58]) (gd := none) (vs := #[.slice (some ⟨b7, 0, none⟩) 6 6]) (by kernel_rfl) (by rfl) (fun o ho => wanted_plain ho _) (by go_simp) (by go_simp) (HIN.out) ?_
  rintro e8 w8 ⟨rfl, h82, h83, h84⟩
  have HS8 := Lib.hid (show S2 b3 sb d w8 from HS7.out.kp h84 (.inr (.inl rfl)) (.inl HXS.out))
  have HD8 := Lib.hid h82
  have HB8 := Lib.hid h83
  have HK8 := Lib.hid h84
  clear h82 h83 h84
  refine ⟨_, rfl, HS8.out, fun hS => ?_⟩
  clear hS
  simp only [Act.put, List.setIfInBounds_toArray, List.set_cons_zero, List.set_cons_succ]
  have hr6 := HR6.out w8 HK8.out
  refine wpAnyH_all (rs := [17]) (by kernel_rfl) (by simp) ?_
  intro k hk; simp only [List.mem_cons, List.not_mem_nil, or_false] at hk; subst hk
  refine op_atJ 17 (d := none) (op := .store 25 (.tmp 6) (.tmp 24)) (by rfl) ?_
  intro o0 hod hoo
  refine wp_store_one 25 (.tmp 6) (.tmp 24) hoo b6 0 (.int .i64 (runA (wrS nm ps) A).2) (by rfl) (by rfl) (row_there hr6 (by decide)) (by kernel_rfl) (by rfl) (by rfl) ?_
  rw [hod]
  clear hod hoo
  obtain ⟨w9, hw9⟩ : ∃ w9, w9 = w8.setCells b6 0 [.int .i64 (runA (wrS nm ps) A).2] := ⟨_, rfl⟩
  rw [← hw9]
  have HS9 := Lib.hid (show S2 b3 sb d w9 from by rw [hw9]; exact HS8.out.set HNE.out.1 HNE.out.2 _)
  simp only [Act.put, List.setIfInBounds_toArray, List.set_cons_zero, List.set_cons_succ]
  refine ⟨HS9.out, ?_⟩
  refine wpAnyH_done (by kernel_rfl) ?_ _
  clear HS7 HS8 HL1 HL2 HIN HS4
  have HD9 := Lib.hid (show Dx (fun j => X j ∨ j = b3 ∨ j = b4 ∨ j = b5 ∨ j = b6 ∨ j = b7) B d (N + 3 * 6) (runA (wrS nm ps) A).1 w9 from by
    rw [hw9]
    exact HD8.out.more (by show w8.heap.size ≤ (w8.setCell ⟨b6, 0, none⟩ _).heap.size; simp [World.setCell]) (fun k hk hn => Below.heap_setCell w8 ⟨b6, 0, none⟩ _ k fun e => hn (by rw [show k = b6 from e]; exact .inr (.inr (.inr (.inr (.inl rfl)))))) (fun j hj => .inl hj) (fun j hj => Nat.lt_of_lt_of_le (HD8.out.lt j hj) (by show w8.heap.size ≤ (w8.setCell ⟨b6, 0, none⟩ _).heap.size; simp [World.setCell])))
  have H6 := Lib.hid (show w9.heap[b6]? = some (.cells #[.int .i64 (runA (wrS nm ps) A).2] 25 (0, 0)) from by rw [hw9]; exact setCell_rowB hr6 0 _)
  have HB9 := Lib.hid (show Below B w8 w9 from by rw [hw9]; exact (Below.refl _ _).setCell (p := ⟨b6, 0, none⟩) (Nat.le_trans hXB HSZ.out) _)
  have HK9 := Lib.hid (show ∀ j, j ≠ b6 → w9.heap[j]? = w8.heap[j]? from fun j hj => by rw [hw9]; exact Below.heap_setCell w8 ⟨b6, 0, none⟩ _ j hj)
  have HDF := Lib.hid (wdefer_c HD9.out (by omega) (Nat.le_trans hXB HSZ.out) H6.out (.inr (.inr (.inr (.inr (.inl rfl))))) HS9.out)
  clear hw9 hr6 HD9 H6 HD8
  go_wp2_with fail
  refine leaves_cons (f := 42) (args := #[.pointer (some ⟨b6, 0, none⟩), .pointer (some ⟨b3, 0, none⟩)]) (by simp) (by simp [go_sem]) ?_
  refine HDF.out.mono ?_
  rintro e u' w'' ⟨rfl, rfl, k1, k2, k3, k4⟩
  have c6 : w''.cell? ⟨b6, 0, none⟩ = some (.int .i64 (wrF (runA (wrS nm ps) A)).2) := cell_of_row w'' b6 0 _ _ _ k2
  have HE := Lib.hid (show DxR X B d (N + 24) w (A.wr nm ps) (.returned (.int .i64 (wrF (runA (wrS nm ps) A)).2)) w'' from ⟨rfl, (k1.less fun j hj => .inl hj).mono (by omega), (HW.out.mono hXB).trans (HB8.out.trans (HB9.out.trans k3)), fun j hj => by
    have hjl := HLT.out j hj
    have hj6 : j ≠ b6 := by have := HSZ.out; omega
    rw [k4 j (.inl hj) hj6, HK9.out j hj6, HK8.out j (.inl hj)]
    exact HW.out.block j hjl⟩)
  clear k1 k2 k3 k4 HDF HB8 HB9 HK8 HK9 HW HSZ HLT HNE HXS HR6 HB7 HW7 HW7S HH
  have hres := HE.out
  simp [Leaves, settle, results, Tryd.results26, go_sem, c6]
  exact hres
end Go.Proofs.YtmomdfmilelilaaDoor
