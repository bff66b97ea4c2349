/-
  A journal is loaded.
-/
import Derived.Test.YtihbgigledmliaaJoad
import Derived.Test.YtihbgigledmliaaJsc
import Derived.Test.YtihbgigledmliaaDnn
namespace Go.Proofs.Ytihbgigledmliaa
open Go.RowKit
set_option linter.unusedVariables false
/-- a journal in memory -/
structure Jn (X : Nat → Prop) (B d jb : Nat) (nm : ByteArray) (sz : Int) (N : Nat) (A : Ad) (w : World) : Prop where
  dx : Dx X B d N A w
  xj : X jb
  bj : B ≤ jb
  row : w.heap[jb]? = some (.cells #[.pointer (some ⟨d, 0, none⟩), .string nm, .int .i64 sz] 82 (0, 0))
theorem Jn.below {X : Nat → Prop} {B d jb : Nat} {nm : ByteArray} {sz : Int} {N : Nat} {A : Ad} {w w' : World} (h : Jn X B d jb nm sz N A w) (hb : Below w.heap.size w w') : Jn X B d jb nm sz N A w' := ⟨h.dx.below hb, h.xj, h.bj, (hb.block jb (h.dx.lt jb h.xj)).trans h.row⟩
theorem Jn.cells {X : Nat → Prop} {B d jb : Nat} {nm : ByteArray} {sz : Int} {N : Nat} {A : Ad} {w : World} (h : Jn X B d jb nm sz N A w) : w.cell? ⟨jb, 0, none⟩ = some (.pointer (some ⟨d, 0, none⟩)) ∧ w.cell? ⟨jb, 1, none⟩ = some (.string nm) ∧ w.cell? ⟨jb, 2, none⟩ = some (.int .i64 sz) := ⟨(cell_of_row w jb 0 _ _ _ h.row).trans rfl, (cell_of_row w jb 1 _ _ _ h.row).trans rfl, (cell_of_row w jb 2 _ _ _ h.row).trans rfl⟩
theorem Jn.kp {X Y : Nat → Prop} {B d jb : Nat} {nm : ByteArray} {sz : Int} {N M : Nat} {A A' : Ad} {w w' : World} (h : Jn X B d jb nm sz N A w) (hd : Dx X B d M A' w') (hk : KpD X w w') : Jn X B d jb nm sz M A' w' := ⟨hd, h.xj, h.bj, (hk jb h.xj).trans h.row⟩
theorem setCell_rowJ {W : World} {g : Nat} {cur : Array Value} {t : TypeId} {fr : Nat × Nat} (h : W.heap[g]? = some (.cells cur t fr)) (k : Nat) (v : Value) : (W.setCell ⟨g, k, none⟩ v).heap[g]? = some (.cells (cur.setIfInBounds k v) t fr) := by
  obtain ⟨hl, he⟩ := Array.getElem?_eq_some_iff.1 h
  unfold World.setCell
  simp [hl, Array.getElem_modify_self, he]
theorem Jn.set {X : Nat → Prop} {B d jb : Nat} {nm : ByteArray} {sz : Int} {N : Nat} {A : Ad} {w : World} (h : Jn X B d jb nm sz N A w) (v : Int) : Jn X B d jb nm v N A (w.setCell ⟨jb, 2, none⟩ (.int .i64 v)) ∧ (w.setCell ⟨jb, 2, none⟩ (.int .i64 v)).heap.size = w.heap.size ∧ (∀ j, j ≠ jb → (w.setCell ⟨jb, 2, none⟩ (.int .i64 v)).heap[j]? = w.heap[j]?) ∧ Below B w (w.setCell ⟨jb, 2, none⟩ (.int .i64 v)) := by
  have hs : (w.setCell ⟨jb, 2, none⟩ (.int .i64 v)).heap.size = w.heap.size := by simp [World.setCell]
  have hk : ∀ j, j ≠ jb → (w.setCell ⟨jb, 2, none⟩ (.int .i64 v)).heap[j]? = w.heap[j]? := fun j hj => Below.heap_setCell w ⟨jb, 2, none⟩ _ j hj
  refine ⟨⟨h.dx.more (by omega) (fun k _ hn => hk k fun e => hn (by rw [e]; exact h.xj)) (fun j hj => .inl hj) (fun j hj => by rw [hs]; exact h.dx.lt j hj), h.xj, h.bj, ?_⟩, hs, hk, (Below.refl _ _).setCell (p := ⟨jb, 2, none⟩) h.bj _⟩
  rw [setCell_rowJ h.row 2]
  rfl
theorem Jn.frozen {X : Nat → Prop} {B d jb : Nat} {nm : ByteArray} {sz : Int} {N : Nat} {A : Ad} {w : World} (h : Jn X B d jb nm sz N A w) : w.frozen? ⟨jb, 2, none⟩ = false := frozen_of_row w jb 2 _ _ h.row
/-- a row of slices that its holder owns, its block and its elements' blocks -/
def OwA (X : Nat → Prop) (B jb : Nat) (w : World) (v : Value) (ps : List (List Nat)) : Prop :=
  ∃ vs, OwnV w B v vs ∧ vs.length = ps.length ∧ (∀ j, v.ownBlock = some j → X j ∧ j ≠ jb) ∧ ∀ (k : Nat) (p : List Nat) (u : Value), ps[k]? = some p → vs[k]? = some u → ∃ pa pc, u = .slice pa p.length pc ∧ Rd w pa p.length p ∧ p.length ≤ pc ∧ pc ≤ 9223372036854775807 ∧ ∀ b o s, pa = some ⟨b, o, s⟩ → p.length ≠ 0 → (b < B ∨ X b ∧ b ≠ jb) ∧ v.ownBlock ≠ some b
theorem OwA.stay {X : Nat → Prop} {B jb : Nat} {w w' : World} {v : Value} {ps : List (List Nat)} (h : OwA X B jb w v ps) (hz : w.heap.size ≤ w'.heap.size) (hk : ∀ j, j < w.heap.size → (j < B ∨ X j ∧ j ≠ jb) → w'.heap[j]? = w.heap[j]?) : OwA X B jb w' v ps := by
  obtain ⟨vs, h1, h2, h3, h4⟩ := h
  refine ⟨vs, ⟨h1.1, ?_⟩, h2, h3, fun k p u hp hu => ?_⟩
  · rcases h1.2 with h0 | ⟨g, cap, cur, e1, e2, e3, e4⟩
    · exact .inl h0
    · exact .inr ⟨g, cap, cur, e1, e2, (hk g (Array.getElem?_eq_some_iff.1 e3).1 (.inr (h3 g (by rw [e1]; rfl)))).trans e3, e4⟩
  · obtain ⟨pa, pc, e1, e2, e3, e4, e5⟩ := h4 k p u hp hu
    exact ⟨pa, pc, e1, rd_stay e2 hz fun b o s e hn => hk b (rd_blkJ e2 e hn) (e5 b o s e hn).1, e3, e4, e5⟩
theorem OwA.below {X : Nat → Prop} {B jb : Nat} {w w' : World} {v : Value} {ps : List (List Nat)} (h : OwA X B jb w v ps) (hb : Below w.heap.size w w') : OwA X B jb w' v ps := h.stay hb.size fun j hj _ => hb.block j hj
theorem OwA.more {X Y : Nat → Prop} {B jb : Nat} {w : World} {v : Value} {ps : List (List Nat)} (h : OwA X B jb w v ps) (hX : ∀ j, X j → Y j) : OwA Y B jb w v ps := by
  obtain ⟨vs, h1, h2, h3, h4⟩ := h
  refine ⟨vs, h1, h2, fun j e => ⟨hX j (h3 j e).1, (h3 j e).2⟩, fun k p u hp hu => ?_⟩
  obtain ⟨pa, pc, e1, e2, e3, e4, e5⟩ := h4 k p u hp hu
  exact ⟨pa, pc, e1, e2, e3, e4, fun b o s e hn => ⟨(e5 b o s e hn).1.imp id fun c => ⟨hX b c.1, c.2⟩, (e5 b o s e hn).2⟩⟩
theorem OwA.nil (X : Nat → Prop) (B jb : Nat) (w : World) : OwA X B jb w (.slice none 0 0) [] := ⟨[], OwnV.nil _ _, rfl, (fun j e => by cases e), fun k p u hp => by simp at hp⟩
theorem OwA.row {X : Nat → Prop} {B jb : Nat} {w : World} {v : Value} {ps : List (List Nat)} (h : OwA X B jb w v ps) : ∃ a n c, v = .slice a n c ∧ ps.length = n ∧ n ≤ c ∧ c ≤ 9223372036854775807 ∧ RowRd w a n ps := by
  obtain ⟨vs, h1, h2, h3, h4⟩ := h
  obtain ⟨a, n, c, e1, e2, e3, e4, e5⟩ := h1.form
  refine ⟨a, n, c, e1, by omega, e3, e4, by omega, e5.imp id fun ⟨g, f1, f2, f3, f4⟩ => ⟨g, 0, f1, fun i p hp => ?_⟩⟩
  have hi := (List.getElem?_eq_some_iff.1 hp).1
  obtain ⟨u, hu⟩ : ∃ u, vs[i]? = some u := ⟨_, List.getElem?_eq_getElem (by omega)⟩
  obtain ⟨pa, pc, g1, g2, g3, g4, _⟩ := h4 i p u hp hu
  exact ⟨pa, p.length, pc, by rw [Nat.zero_add, f4 i u hu, g1], g2, by omega⟩
theorem scan_flat : ∀ (n : Nat) (b : List Nat), b.length ≤ n → Frm.flatF (Frm.scanL b).1 = b.take (Frm.scanL b).2
  | 0, b, hn => by
    rw [Frm.scan_none (Frm.first_short (by omega))]
    rfl
  | n + 1, b, hn => by
    cases hf : Frm.firstL b with
    | none => rw [Frm.scan_none hf]; rfl
    | some p =>
      obtain ⟨h1, _, _, _, h2⟩ := Frm.first_some hf
      have ih := scan_flat n (b.drop (8 + p.length)) (by rw [List.length_drop]; omega)
      rw [Frm.scan_some hf]
      show Frm.flatF (p :: _) = b.take _
      have e : Frm.flatF (p :: (Frm.scanL (b.drop (8 + p.length))).1) = Frm.frameL p ++ Frm.flatF (Frm.scanL (b.drop (8 + p.length))).1 := by simp [Frm.flatF]
      rw [e, ih, h2, ← List.take_add]
theorem scan_bytes : ∀ (n : Nat) (b : List Nat), b.length ≤ n → (∀ y ∈ b, y < 256) → ∀ p ∈ (Frm.scanL b).1, ∀ y ∈ p, y < 256
  | 0, b, hn, hb => by
    rw [Frm.scan_none (Frm.first_short (by omega))]
    intro p hp
    cases hp
  | n + 1, b, hn, hb => by
    cases hf : Frm.firstL b with
    | none =>
      rw [Frm.scan_none hf]
      intro p hp
      cases hp
    | some p =>
      obtain ⟨h1, _, _, h2, _⟩ := Frm.first_some hf
      have ih := scan_bytes n (b.drop (8 + p.length)) (by rw [List.length_drop]; omega) (fun y hy => hb y (List.mem_of_mem_drop hy))
      rw [Frm.scan_some hf]
      intro q hq
      rcases List.mem_cons.1 hq with rfl | hq
      · intro y hy
        rw [h2] at hy
        exact hb y (List.mem_of_mem_drop (List.mem_of_mem_take hy))
      · exact ih q hq
def spJ (nm : ByteArray) : ByteArray := nm ++ ⟨#[43]⟩
/-- what is loaded: the records, and how many bytes they have -/
def recsA (A : Ad) (nm : ByteArray) : List (List Nat) := if A.down then [] else match lookF A.now nm with
  | none => []
  | some z => (Frm.scanL z).1
def usedA (A : Ad) (nm : ByteArray) : Nat := if A.down then 0 else match lookF A.now nm with
  | none => 0
  | some z => (Frm.scanL z).2
def Ad.load (A : Ad) (nm : ByteArray) : Ad × Int := if A.down then (A, 5) else match lookF A.now nm with
  | none => runA [mkA nm, Ad.sync] A
  | some z => if (Frm.scanL z).2 < z.length then A.rw nm (spJ nm) (Frm.flatF (Frm.scanL z).1) else (A, 0)
/-- what load leaves -/
def LoadR (X : Nat → Prop) (B d jb N : Nat) (nm : ByteArray) (w : World) (sz : Int) (rs : List (List Nat)) (r : Ad × Int) (e : Ending) (w' : World) : Prop :=
  ∃ (Y : Nat → Prop) (a : Option Addr) (n c : Nat), e = .returned (.tuple #[.slice a n c, .int .i64 r.2]) ∧ (∀ j, X j → Y j) ∧ (∀ j, Y j → X j ∨ w.heap.size ≤ j) ∧ Jn Y B d jb nm sz N r.1 w' ∧ Rcd Y B w' a n rs ∧ OwA Y B jb w' (.slice a n c) rs ∧ n ≤ c ∧ c ≤ 9223372036854775807 ∧ Below B w w' ∧ ∀ j, X j → j ≠ jb → w'.heap[j]? = w.heap[j]?
theorem scan_rcd {w w' : World} {b : List Nat} {e : Ending} (h : ScanR w b e w') (B jb : Nat) (hjb : jb < w.heap.size) (hB : B ≤ w.heap.size) : ∃ a n c, e = .returned (.tuple #[.slice a n c, .int .i64 (((Frm.scanL b).2 : Nat) : Int)]) ∧ Rcd (fun j => w.heap.size ≤ j ∧ j < w'.heap.size) B w' a n (Frm.scanL b).1 ∧ OwA (fun j => w.heap.size ≤ j ∧ j < w'.heap.size) B jb w' (.slice a n c) (Frm.scanL b).1 ∧ n ≤ c ∧ c ≤ 9223372036854775807 ∧ Below w.heap.size w w' := by
  obtain ⟨v, vs, gs, rfl, ho, hr, hb⟩ := h
  have ho' : OwnV w' B v vs := ⟨ho.1, ho.2.imp id fun ⟨g, cap, cur, e1, e2, e3⟩ => ⟨g, cap, cur, e1, Nat.le_trans hB e2, e3⟩⟩
  obtain ⟨a, n, c, rfl, hln, hnc, hcm, hrow⟩ := ho.form
  refine ⟨a, n, c, rfl, ⟨by rw [← hr.lv, hln], fun k p hp => ?_⟩, ⟨vs, ho', hr.lv, fun j e => ?_, fun k p u hp hu => ?_⟩, hnc, hcm, hb⟩
  · have hk : k < (Frm.scanL b).1.length := (List.getElem?_eq_some_iff.1 hp).1
    have hkn : k < n := by rw [← hln, hr.lv]; exact hk
    obtain ⟨g, rfl, hg1, hg2, hcell⟩ := hrow.resolve_left (by omega)
    obtain ⟨v, hv⟩ : ∃ v, vs[k]? = some v := ⟨_, List.getElem?_eq_getElem (by omega)⟩
    obtain ⟨g2, hg⟩ : ∃ g2, gs[k]? = some g2 := ⟨_, List.getElem?_eq_getElem (by rw [hr.lg]; exact hk)⟩
    obtain ⟨h1, h2⟩ := hr.rc k v g2 p hv hg hp
    obtain ⟨pa, pc, rfl, h3, h4, h5, h6, h7⟩ := h2.rd
    refine ⟨g, 0, pa, pc, rfl, .inr ⟨hg1, hg2⟩, hg2, by rw [Nat.zero_add]; exact hcell k _ hv, h6, fun b' o' s e hn => ?_, h5, h3, h4⟩
    have h8 := h7 (by omega)
    rw [h8] at e
    cases e
    exact .inr ⟨h1, h2.lt⟩
  · have := World.ownsRow.lt ho j e
    exact ⟨this, by omega⟩
  · have hk : k < (Frm.scanL b).1.length := (List.getElem?_eq_some_iff.1 hp).1
    obtain ⟨g2, hg⟩ : ∃ g2, gs[k]? = some g2 := ⟨_, List.getElem?_eq_getElem (by rw [hr.lg]; exact hk)⟩
    obtain ⟨h1, h2⟩ := hr.rc k u g2 p hu hg hp
    have hoth : some g2 ≠ (Value.slice a n c).ownBlock := by
      obtain ⟨_, cur, _, hh, _⟩ := h2
      exact ho.other hh
    obtain ⟨pa, pc, rfl, h3, h4, h5, h6, h7⟩ := h2.rd
    refine ⟨pa, pc, rfl, h6, h3, h4, fun b' o' s e hn => ?_⟩
    have h8 := h7 (by omega)
    rw [h8] at e
    cases e
    exact ⟨.inr ⟨⟨h1, h2.lt⟩, by omega⟩, fun e => hoth e.symm⟩
set_option maxRecDepth 100000 in
set_option maxHeartbeats 8000000 in
theorem jload_down {X : Nat → Prop} {B d N jb : Nat} {A : Ad} {w : World} {nm : ByteArray} (h : Jn X B d jb nm 0 N A w) (hN : N < 100000000) (hn : nm.size ≤ 1000) (hdn : A.down = true) :
    Calls Try.prog 34 #[.pointer (some ⟨jb, 0, none⟩)] w (LoadR X B d jb N nm w 0 [] (A, 5)) := by
  have hj := h.row
  have hjl : jb < w.heap.size := h.dx.lt jb h.xj
  have hnl : nm.size ≤ maxLen := by unfold maxLen; omega
  obtain ⟨b1, hb1⟩ : ∃ b1, b1 = w.heap.size := ⟨_, rfl⟩
  obtain ⟨w1, hw1⟩ : ∃ w1, w1 = w.alloc (.cells #[.pointer (some ⟨jb, 0, none⟩)] 54) := ⟨_, rfl⟩
  have z1 : w1.heap.size = b1 + 1 := by rw [hw1, hb1]; simp
  have q1 : Below w.heap.size w w1 := by rw [hw1]; exact (Below.refl _ _).alloc (Nat.le_refl _) _
  have qd : Below w1.heap.size w1 (World.drew w1) := below_drewN' _ w1 1
  have k1 : w1.heap[b1]? = some (.cells #[.pointer (some ⟨jb, 0, none⟩)] 54 (0, 0)) := by rw [hw1, hb1]; exact heap_alloc_new w _
  have hj1 := (q1.block jb hjl).trans hj
  have hS1 : HasC [(⟨b1, 0, none⟩, .pointer (some ⟨jb, 0, none⟩)), (⟨jb, 0, none⟩, .pointer (some ⟨d, 0, none⟩)), (⟨jb, 1, none⟩, .string nm)] (World.drew w1) := by
    intro p hp
    simp only [List.mem_cons, List.not_mem_nil, or_false] at hp
    rcases hp with rfl | rfl | rfl
    · exact cell_of_row w1 b1 0 _ _ _ k1
    · exact (cell_of_row w1 jb 0 _ _ _ hj1).trans rfl
    · exact (cell_of_row w1 jb 1 _ _ _ hj1).trans rfl
  have hd1 : Dx (fun j => X j ∨ j = b1) B d N A (World.drew w1) := h.dx.belowY (q1.trans (qd.mono q1.size)) (fun j hj => hj.imp id fun e => by omega) (fun j hj => by
    rcases hj with hj | hj
    · exact Nat.lt_of_lt_of_le (h.dx.lt j hj) q1.size
    · show j < w1.heap.size; omega)
  have HD1 := Lib.hid hd1
  have HJ1 := Lib.hid (show (World.drew w1).heap[jb]? = some (.cells #[.pointer (some ⟨d, 0, none⟩), .string nm, .int .i64 0] 82 (0, 0)) from hj1)
  have HB1 := Lib.hid (show Below w.heap.size w (World.drew w1) from q1.trans (qd.mono q1.size))
  have HZ1 := Lib.hid (show b1 < (World.drew w1).heap.size ∧ jb < (World.drew w1).heap.size ∧ b1 ≠ jb ∧ w.heap.size ≤ b1 from ⟨by show b1 < w1.heap.size; omega, by show jb < w1.heap.size; omega, by omega, by omega⟩)
  have HH := Lib.hid h
  have HS := Lib.hid hS1
  have HXB := Lib.hid (show B ≤ w.heap.size from Nat.le_of_lt (Nat.lt_of_le_of_lt h.dx.base.1 h.dx.base.2))
  have HRD := Lib.hid (show Calls Try.prog 46 #[.pointer (some ⟨d, 0, none⟩), .string nm, .int .i64 0, .int .i64 67108864] (World.drew w1) fun e w' => e = .returned (.tuple #[.slice none 0 0, .int .i64 5]) ∧ w' = World.drew w1 from by
    obtain ⟨S, k1, k2, -⟩ := hd1.ex
    have := aread k1 k2 nm hnl 0 67108864
    unfold RdA at this
    rw [hdn] at this
    simpa using this)
  obtain ⟨W1, hW1⟩ : ∃ W1, W1 = World.drew w1 := ⟨_, rfl⟩
  have HSC := Lib.hid (scan_c none 0 0 [] W1 ⟨rfl, by simp, .inl rfl⟩ (Nat.le_refl _) (by omega) (by omega))
  rw [← hW1] at HRD HS HZ1 HB1 HJ1 HD1
  have HBD := Lib.hid (Below.refl W1.heap.size W1)
  clear h hj hjl hnl z1 q1 qd k1 hj1 hS1 hd1
  go_enter Try.func34, Try.ntmps34
  go_upto_region 1 with fail
  rw [← hb1, ← hw1]
  clear hw1 hb1
  have HL1 := Lib.hid (fun W (hW : HasC [(⟨b1, 0, none⟩, .pointer (some ⟨jb, 0, none⟩)), (⟨jb, 0, none⟩, .pointer (some ⟨d, 0, none⟩)), (⟨jb, 1, none⟩, .string nm)] W) => run_cell_jn W ⟨b1, 0, none⟩ _ (hW (⟨b1, 0, none⟩, .pointer (some ⟨jb, 0, none⟩)) (by simp)))
  have HL2 := Lib.hid (fun W (hW : HasC [(⟨b1, 0, none⟩, .pointer (some ⟨jb, 0, none⟩)), (⟨jb, 0, none⟩, .pointer (some ⟨d, 0, none⟩)), (⟨jb, 1, none⟩, .string nm)] W) => run_cell_disk W ⟨jb, 0, none⟩ _ (hW (⟨jb, 0, none⟩, .pointer (some ⟨d, 0, none⟩)) (by simp)))
  have HL3 := Lib.hid (fun W (hW : HasC [(⟨b1, 0, none⟩, .pointer (some ⟨jb, 0, none⟩)), (⟨jb, 0, none⟩, .pointer (some ⟨d, 0, none⟩)), (⟨jb, 1, none⟩, .string nm)] W) => run_cell_s W ⟨jb, 1, none⟩ nm (hW (⟨jb, 1, none⟩, .string nm) (by simp)))
  refine anyH_begin (S := HasC [(⟨b1, 0, none⟩, .pointer (some ⟨jb, 0, none⟩)), (⟨jb, 0, none⟩, .pointer (some ⟨d, 0, none⟩)), (⟨jb, 1, none⟩, .string nm)]) (by kernel_rfl) ?_
  rw [← hW1]
  clear hW1
  refine anyH_loadG 0 (d := 10) (ty := 54) (x := (.tmp 1)) (gd := none) (p := .pointer (some ⟨b1, 0, none⟩)) (.pointer (some ⟨jb, 0, none⟩)) (by rfl) (fun o ho => wanted_plain ho _) (by kernel_rfl) (by kernel_rfl) (by kernel_rfl) (fun _ _ _ h => h) (by rfl) HL1.out HS.out ?_
  simp only [Act.put, List.setIfInBounds_toArray, List.set_cons_zero, List.set_cons_succ]
  refine anyH_pureG 1 (d := 11) (op := .nilCheck (.tmp 10)) (gd := none) (.pointer (some ⟨jb, 0, none⟩)) (by rfl) (fun o ho => wanted_plain ho _) (by kernel_rfl) (by kernel_rfl) (by kernel_rfl) (fun _ _ _ h => h) (fun o ho W hW => by unfold execOp; simp only [ho]; go_simp) HS.out ?_
  simp only [Act.put, List.setIfInBounds_toArray, List.set_cons_zero, List.set_cons_succ]
  refine anyH_pureG 2 (d := 12) (op := .fieldAddr 82 (.tmp 11) 0) (gd := none) (.pointer (some ⟨jb, 0, none⟩)) (by rfl) (fun o ho => wanted_plain ho _) (by kernel_rfl) (by kernel_rfl) (by kernel_rfl) (fun _ _ _ h => h) (fun o ho W hW => by unfold execOp; simp only [ho]; go_simp) HS.out ?_
  simp only [Act.put, List.setIfInBounds_toArray, List.set_cons_zero, List.set_cons_succ]
  refine anyH_loadG 3 (d := 13) (ty := 24) (x := (.tmp 12)) (gd := none) (p := .pointer (some ⟨jb, 0, none⟩)) (.pointer (some ⟨d, 0, none⟩)) (by rfl) (fun o ho => wanted_plain ho _) (by kernel_rfl) (by kernel_rfl) (by kernel_rfl) (fun _ _ _ h => h) (by rfl) HL2.out HS.out ?_
  simp only [Act.put, List.setIfInBounds_toArray, List.set_cons_zero, List.set_cons_succ]
  refine anyH_loadG 4 (d := 14) (ty := 54) (x := (.tmp 1)) (gd := none) (p := .pointer (some ⟨b1, 0, none⟩)) (.pointer (some ⟨jb, 0, none⟩)) (by rfl) (fun o ho => wanted_plain ho _) (by kernel_rfl) (by kernel_rfl) (by kernel_rfl) (fun _ _ _ h => h) (by rfl) HL1.out HS.out ?_
  simp only [Act.put, List.setIfInBounds_toArray, List.set_cons_zero, List.set_cons_succ]
  refine anyH_pureG 5 (d := 15) (op := .nilCheck (.tmp 14)) (gd := none) (.pointer (some ⟨jb, 0, none⟩)) (by rfl) (fun o ho => wanted_plain ho _) (by kernel_rfl) (by kernel_rfl) (by kernel_rfl) (fun _ _ _ h => h) (fun o ho W hW => by unfold execOp; simp only [ho]; go_simp) HS.out ?_
  simp only [Act.put, List.setIfInBounds_toArray, List.set_cons_zero, List.set_cons_succ]
  refine anyH_pureG 6 (d := 16) (op := .fieldAddr 82 (.tmp 15) 1) (gd := none) (.pointer (some ⟨jb, 1, none⟩)) (by rfl) (fun o ho => wanted_plain ho _) (by kernel_rfl) (by kernel_rfl) (by kernel_rfl) (fun _ _ _ h => h) (fun o ho W hW => by unfold execOp; simp only [ho]; go_simp) HS.out ?_
  simp only [Act.put, List.setIfInBounds_toArray, List.set_cons_zero, List.set_cons_succ]
  refine anyH_loadG 7 (d := 17) (ty := 9) (x := (.tmp 16)) (gd := none) (p := .pointer (some ⟨jb, 1, none⟩)) (.string nm) (by rfl) (fun o ho => wanted_plain ho _) (by kernel_rfl) (by kernel_rfl) (by kernel_rfl) (fun _ _ _ h => h) (by rfl) HL3.out HS.out ?_
  simp only [Act.put, List.setIfInBounds_toArray, List.set_cons_zero, List.set_cons_succ]
  refine anyH_callG 8 (d := some 18) (f := 46) (xs := #[(.tmp 13), (.tmp 17), (.const (.int .i64 0)), (.const (.int .i64 67108864))]) (ts := #[24, 9, 3, 3]) (gd := none) (vs := #[.pointer (some ⟨d, 0, none⟩), .string nm, .int .i64 0, .int .i64 67108864]) (by kernel_rfl) (by rfl) (fun o ho => wanted_plain ho _) (by go_simp) (by go_simp) (HRD.out) ?_
  rintro e2 w2 ⟨rfl, rfl⟩
  have HS2 := HS
  refine ⟨_, rfl, HS2.out, fun hS => ?_⟩
  clear hS
  simp only [Act.put, List.setIfInBounds_toArray, List.set_cons_zero, List.set_cons_succ]
  refine anyH_pureG 9 (d := 9) (op := .move (.tmp 18)) (gd := none) (.tuple #[.slice none 0 0, .int .i64 5]) (by rfl) (fun o ho => wanted_plain ho _) (by kernel_rfl) (by kernel_rfl) (by kernel_rfl) (fun _ _ _ h => h) (fun o ho W hW => by unfold execOp; simp only [ho]; go_simp) HS2.out ?_
  simp only [Act.put, List.setIfInBounds_toArray, List.set_cons_zero, List.set_cons_succ]
  refine anyH_pureG 10 (d := 19) (op := .extract (.tmp 9) 0) (gd := none) (.slice none 0 0) (by rfl) (fun o ho => wanted_plain ho _) (by kernel_rfl) (by kernel_rfl) (by kernel_rfl) (fun _ _ _ h => h) (fun o ho W hW => by unfold execOp; simp only [ho]; go_simp) HS2.out ?_
  simp only [Act.put, List.setIfInBounds_toArray, List.set_cons_zero, List.set_cons_succ]
  refine anyH_pureG 11 (d := 20) (op := .extract (.tmp 9) 1) (gd := none) (.int .i64 5) (by rfl) (fun o ho => wanted_plain ho _) (by kernel_rfl) (by kernel_rfl) (by kernel_rfl) (fun _ _ _ h => h) (fun o ho W hW => by unfold execOp; simp only [ho]; go_simp) HS2.out ?_
  simp only [Act.put, List.setIfInBounds_toArray, List.set_cons_zero, List.set_cons_succ]
  refine anyH_pureG 12 (d := 4) (op := .assign (.tmp 19)) (gd := none) (.slice none 0 0) (by rfl) (fun o ho => wanted_plain ho _) (by kernel_rfl) (by kernel_rfl) (by kernel_rfl) (fun _ _ _ h => h) (fun o ho W hW => by unfold execOp; simp only [ho]; go_simp) HS2.out ?_
  simp only [Act.put, List.setIfInBounds_toArray, List.set_cons_zero, List.set_cons_succ]
  refine anyH_pureG 13 (d := 5) (op := .assign (.tmp 20)) (gd := none) (.int .i64 5) (by rfl) (fun o ho => wanted_plain ho _) (by kernel_rfl) (by kernel_rfl) (by kernel_rfl) (fun _ _ _ h => h) (fun o ho W hW => by unfold execOp; simp only [ho]; go_simp) HS2.out ?_
  simp only [Act.put, List.setIfInBounds_toArray, List.set_cons_zero, List.set_cons_succ]
  refine wpAnyH_done (by kernel_rfl) ?_ _
  clear HL2 HL3 HRD HS2
  go_wp2_with fail
  refine HSC.out.mono ?_
  rintro e3 w3 hsc
  obtain ⟨a, n, c, rfl, hrc, how, hnc, hcm, hb3⟩ := scan_rcd hsc B jb (by have := HZ1.out.2.1; have := HBD.out.size; omega) (by have := HXB.out; have := HB1.out.size; have := HBD.out.size; omega)
  have HRC := Lib.hid hrc
  have HNC := Lib.hid (And.intro hnc hcm)
  have HB3 := Lib.hid hb3
  obtain ⟨Y, hY⟩ : ∃ Y : Nat → Prop, Y = fun j => (X j ∨ j = b1) ∨ (w2.heap.size ≤ j ∧ j < w3.heap.size) := ⟨_, rfl⟩
  have hdy : Dx Y B d N A w3 := HD1.out.belowY (HBD.out.trans (hb3.mono HBD.out.size)) (fun j hj => by rw [hY] at hj; exact hj.imp id fun e => Nat.le_trans HBD.out.size e.1) (fun j hj => by
    rw [hY] at hj
    rcases hj with hj | hj
    · exact Nat.lt_of_lt_of_le (HD1.out.lt j hj) (Nat.le_trans HBD.out.size hb3.size)
    · exact hj.2)
  have HJ3 := Lib.hid (show Jn Y B d jb nm 0 N A w3 from ⟨hdy, by rw [hY]; exact .inl (.inl HH.out.xj), HH.out.bj, ((HBD.out.trans (hb3.mono HBD.out.size)).block jb HZ1.out.2.1).trans HJ1.out⟩)
  have y1 : w3.cell? ⟨b1, 0, none⟩ = some (.pointer (some ⟨jb, 0, none⟩)) := ((HBD.out.trans (hb3.mono HBD.out.size)).cell (p := ⟨b1, 0, none⟩) HZ1.out.1).trans (HS.out (⟨b1, 0, none⟩, .pointer (some ⟨jb, 0, none⟩)) (by simp))
  obtain ⟨y2, y3, y4⟩ := HJ3.out.cells
  have y5 := HJ3.out.frozen
  have HYL := Lib.hid (show (∀ j, X j → Y j) ∧ (∀ j, Y j → X j ∨ w.heap.size ≤ j) ∧ (∀ j, w2.heap.size ≤ j ∧ j < w3.heap.size → Y j) from ⟨fun j hj => by rw [hY]; exact .inl (.inl hj), fun j hj => by
    rw [hY] at hj
    rcases hj with (hj | hj) | hj
    · exact .inl hj
    · exact .inr (by rw [hj]; exact HZ1.out.2.2.2)
    · exact .inr (Nat.le_trans (Nat.le_trans HB1.out.size HBD.out.size) hj.1), fun j hj => by rw [hY]; exact .inr hj⟩)
  obtain ⟨s1, s2, s3, s4⟩ := HJ3.out.set 0
  have HW4 := Lib.hid (show Below B w (w3.setCell ⟨jb, 2, none⟩ (.int .i64 0)) from ((HB1.out.trans ((HBD.out.trans (hb3.mono HBD.out.size)).mono HB1.out.size)).mono HXB.out).trans s4)
  have HK4 := Lib.hid (show ∀ j, X j → j ≠ jb → (w3.setCell ⟨jb, 2, none⟩ (.int .i64 0)).heap[j]? = w.heap[j]? from fun j hj hn => (s3 j hn).trans ((HB1.out.trans ((HBD.out.trans (hb3.mono HBD.out.size)).mono HB1.out.size)).block j (HH.out.dx.lt j hj)))
  have HRC4 := Lib.hid (show Rcd Y B (w3.setCell ⟨jb, 2, none⟩ (.int .i64 0)) a n [] from (hrc.stay (Nat.le_of_eq s2.symm) fun j hj ho => s3 j fun e => by
    rcases ho with ho | ho
    · have := HH.out.bj; omega
    · have := HZ1.out.2.1; have := HBD.out.size; omega).more HYL.out.2.2)
  have HOW4 := Lib.hid (show OwA Y B jb (w3.setCell ⟨jb, 2, none⟩ (.int .i64 0)) (.slice a n c) [] from (how.stay (Nat.le_of_eq s2.symm) fun j hj ho => s3 j fun e => by
    rcases ho with ho | ho
    · have := HH.out.bj; omega
    · exact ho.2 e).more HYL.out.2.2)
  have HJ4 := Lib.hid s1
  clear hdy hY s1 s2 s3 s4
  have e0 : (Frm.scanL []).2 = 0 := rfl
  simp only [e0, Int.cast_ofNat_Int]
  clear hrc how hnc hcm hb3 hsc HSC e0
  have HE := Lib.hid (show LoadR X B d jb N nm w 0 [] (A, 5) (.returned (.tuple #[.slice a n c, .int .i64 5])) (w3.setCell ⟨jb, 2, none⟩ (.int .i64 0)) from ⟨Y, a, n, c, rfl, HYL.out.1, HYL.out.2.1, HJ4.out, HRC4.out, HOW4.out, HNC.out.1, HNC.out.2, HW4.out, HK4.out⟩)
  go_wp2_with fail
  go_ret2
  exact HE.out
set_option maxRecDepth 100000 in
set_option maxHeartbeats 8000000 in
theorem jload_whole {X : Nat → Prop} {B d N jb : Nat} {A : Ad} {w : World} {nm : ByteArray} (h : Jn X B d jb nm 0 N A w) (hN : N < 100000000) (hn : nm.size ≤ 1000) (hdn : A.down = false) (z : List Nat) (hz : lookF A.now nm = some z) (hzl : z.length < 1048576) (hc : ¬ (Frm.scanL z).2 < z.length) :
    Calls Try.prog 34 #[.pointer (some ⟨jb, 0, none⟩)] w (LoadR X B d jb (N + 24) nm w (((Frm.scanL z).2 : Nat) : Int) (Frm.scanL z).1 ((A, 0))) := by
  have hj := h.row
  have hjl : jb < w.heap.size := h.dx.lt jb h.xj
  have hnl : nm.size ≤ maxLen := by unfold maxLen; omega
  obtain ⟨b1, hb1⟩ : ∃ b1, b1 = w.heap.size := ⟨_, rfl⟩
  obtain ⟨w1, hw1⟩ : ∃ w1, w1 = w.alloc (.cells #[.pointer (some ⟨jb, 0, none⟩)] 54) := ⟨_, rfl⟩
  have z1 : w1.heap.size = b1 + 1 := by rw [hw1, hb1]; simp
  have q1 : Below w.heap.size w w1 := by rw [hw1]; exact (Below.refl _ _).alloc (Nat.le_refl _) _
  have qd : Below w1.heap.size w1 (World.drew w1) := below_drewN' _ w1 1
  have k1 : w1.heap[b1]? = some (.cells #[.pointer (some ⟨jb, 0, none⟩)] 54 (0, 0)) := by rw [hw1, hb1]; exact heap_alloc_new w _
  have hj1 := (q1.block jb hjl).trans hj
  have hS1 : HasC [(⟨b1, 0, none⟩, .pointer (some ⟨jb, 0, none⟩)), (⟨jb, 0, none⟩, .pointer (some ⟨d, 0, none⟩)), (⟨jb, 1, none⟩, .string nm)] (World.drew w1) := by
    intro p hp
    simp only [List.mem_cons, List.not_mem_nil, or_false] at hp
    rcases hp with rfl | rfl | rfl
    · exact cell_of_row w1 b1 0 _ _ _ k1
    · exact (cell_of_row w1 jb 0 _ _ _ hj1).trans rfl
    · exact (cell_of_row w1 jb 1 _ _ _ hj1).trans rfl
  have hd1 : Dx (fun j => X j ∨ j = b1) B d N A (World.drew w1) := h.dx.belowY (q1.trans (qd.mono q1.size)) (fun j hj => hj.imp id fun e => by omega) (fun j hj => by
    rcases hj with hj | hj
    · exact Nat.lt_of_lt_of_le (h.dx.lt j hj) q1.size
    · show j < w1.heap.size; omega)
  have HD1 := Lib.hid hd1
  have HJ1 := Lib.hid (show (World.drew w1).heap[jb]? = some (.cells #[.pointer (some ⟨d, 0, none⟩), .string nm, .int .i64 0] 82 (0, 0)) from hj1)
  have HB1 := Lib.hid (show Below w.heap.size w (World.drew w1) from q1.trans (qd.mono q1.size))
  have HZ1 := Lib.hid (show b1 < (World.drew w1).heap.size ∧ jb < (World.drew w1).heap.size ∧ b1 ≠ jb ∧ w.heap.size ≤ b1 from ⟨by show b1 < w1.heap.size; omega, by show jb < w1.heap.size; omega, by omega, by omega⟩)
  have HH := Lib.hid h
  have HS := Lib.hid hS1
  have HXB := Lib.hid (show B ≤ w.heap.size from Nat.le_of_lt (Nat.lt_of_le_of_lt h.dx.base.1 h.dx.base.2))
  obtain ⟨zl, hzz⟩ : ∃ zl, zl = z.length := ⟨_, rfl⟩
  have hrd : Calls Try.prog 46 #[.pointer (some ⟨d, 0, none⟩), .string nm, .int .i64 0, .int .i64 67108864] (World.drew w1) fun e w' => ∃ va vc, e = .returned (.tuple #[.slice va zl vc, .int .i64 0]) ∧ zl ≤ vc ∧ vc ≤ 9223372036854775807 ∧ Rd w' va zl z ∧ Below (World.drew w1).heap.size (World.drew w1) w' := by
    obtain ⟨S, k1, k2, -⟩ := hd1.ex
    have hh := aread k1 k2 nm hnl 0 67108864
    refine hh.mono ?_
    intro e w' he
    unfold RdA at he
    rw [hdn, hz] at he
    simp only [Bool.false_eq_true, if_false] at he
    rw [if_neg (by omega)] at he
    obtain ⟨va, vn, vc, rfl, ho, hvn, hvb, hb⟩ := he
    have e1 : (z.drop (0 : Int).toNat).take (67108864 : Int).toNat = z := by
      rw [show (0 : Int).toNat = 0 from rfl, List.drop_zero, List.take_of_length_le (by rw [show (67108864 : Int).toNat = 67108864 from rfl]; omega)]
    rw [e1] at ho hvn hvb
    subst hvn
    obtain ⟨a', c', e2, h1, h2, h3⟩ := ho.rd hvb
    obtain ⟨e3, _, e4⟩ := Value.slice.inj e2
    subst e3 e4
    exact ⟨va, vc, by rw [hzz], by rw [hzz]; exact h1, h2, by rw [hzz]; exact h3, hb⟩
  have HRD := Lib.hid hrd
  have HZL := Lib.hid hzl
  have HU := Lib.hid hzz
  have HZLK := Lib.hid hz
  have HC := Lib.hid hc
  obtain ⟨us, hus⟩ : ∃ us, us = (Frm.scanL z).2 := ⟨_, rfl⟩
  rw [← hus] at HC ⊢
  have HUS := Lib.hid hus
  obtain ⟨W1, hW1⟩ : ∃ W1, W1 = World.drew w1 := ⟨_, rfl⟩
  rw [← hW1] at HRD HS HZ1 HB1 HJ1 HD1
  clear hrd hzz hz hzl hc hus hdn
  clear h hj hjl hnl z1 q1 qd k1 hj1 hS1 hd1
  go_enter Try.func34, Try.ntmps34
  go_upto_region 1 with fail
  rw [← hb1, ← hw1]
  clear hw1 hb1
  have HL1 := Lib.hid (fun W (hW : HasC [(⟨b1, 0, none⟩, .pointer (some ⟨jb, 0, none⟩)), (⟨jb, 0, none⟩, .pointer (some ⟨d, 0, none⟩)), (⟨jb, 1, none⟩, .string nm)] W) => run_cell_jn W ⟨b1, 0, none⟩ _ (hW (⟨b1, 0, none⟩, .pointer (some ⟨jb, 0, none⟩)) (by simp)))
  have HL2 := Lib.hid (fun W (hW : HasC [(⟨b1, 0, none⟩, .pointer (some ⟨jb, 0, none⟩)), (⟨jb, 0, none⟩, .pointer (some ⟨d, 0, none⟩)), (⟨jb, 1, none⟩, .string nm)] W) => run_cell_disk W ⟨jb, 0, none⟩ _ (hW (⟨jb, 0, none⟩, .pointer (some ⟨d, 0, none⟩)) (by simp)))
  have HL3 := Lib.hid (fun W (hW : HasC [(⟨b1, 0, none⟩, .pointer (some ⟨jb, 0, none⟩)), (⟨jb, 0, none⟩, .pointer (some ⟨d, 0, none⟩)), (⟨jb, 1, none⟩, .string nm)] W) => run_cell_s W ⟨jb, 1, none⟩ nm (hW (⟨jb, 1, none⟩, .string nm) (by simp)))
  refine anyH_begin (S := HasC [(⟨b1, 0, none⟩, .pointer (some ⟨jb, 0, none⟩)), (⟨jb, 0, none⟩, .pointer (some ⟨d, 0, none⟩)), (⟨jb, 1, none⟩, .string nm)]) (by kernel_rfl) ?_
  rw [← hW1]
  clear hW1
  refine anyH_loadG 0 (d := 10) (ty := 54) (x := (.tmp 1)) (gd := none) (p := .pointer (some ⟨b1, 0, none⟩)) (.pointer (some ⟨jb, 0, none⟩)) (by rfl) (fun o ho => wanted_plain ho _) (by kernel_rfl) (by kernel_rfl) (by kernel_rfl) (fun _ _ _ h => h) (by rfl) HL1.out HS.out ?_
  simp only [Act.put, List.setIfInBounds_toArray, List.set_cons_zero, List.set_cons_succ]
  refine anyH_pureG 1 (d := 11) (op := .nilCheck (.tmp 10)) (gd := none) (.pointer (some ⟨jb, 0, none⟩)) (by rfl) (fun o ho => wanted_plain ho _) (by kernel_rfl) (by kernel_rfl) (by kernel_rfl) (fun _ _ _ h => h) (fun o ho W hW => by unfold execOp; simp only [ho]; go_simp) HS.out ?_
  simp only [Act.put, List.setIfInBounds_toArray, List.set_cons_zero, List.set_cons_succ]
  refine anyH_pureG 2 (d := 12) (op := .fieldAddr 82 (.tmp 11) 0) (gd := none) (.pointer (some ⟨jb, 0, none⟩)) (by rfl) (fun o ho => wanted_plain ho _) (by kernel_rfl) (by kernel_rfl) (by kernel_rfl) (fun _ _ _ h => h) (fun o ho W hW => by unfold execOp; simp only [ho]; go_simp) HS.out ?_
  simp only [Act.put, List.setIfInBounds_toArray, List.set_cons_zero, List.set_cons_succ]
  refine anyH_loadG 3 (d := 13) (ty := 24) (x := (.tmp 12)) (gd := none) (p := .pointer (some ⟨jb, 0, none⟩)) (.pointer (some ⟨d, 0, none⟩)) (by rfl) (fun o ho => wanted_plain ho _) (by kernel_rfl) (by kernel_rfl) (by kernel_rfl) (fun _ _ _ h => h) (by rfl) HL2.out HS.out ?_
  simp only [Act.put, List.setIfInBounds_toArray, List.set_cons_zero, List.set_cons_succ]
  refine anyH_loadG 4 (d := 14) (ty := 54) (x := (.tmp 1)) (gd := none) (p := .pointer (some ⟨b1, 0, none⟩)) (.pointer (some ⟨jb, 0, none⟩)) (by rfl) (fun o ho => wanted_plain ho _) (by kernel_rfl) (by kernel_rfl) (by kernel_rfl) (fun _ _ _ h => h) (by rfl) HL1.out HS.out ?_
  simp only [Act.put, List.setIfInBounds_toArray, List.set_cons_zero, List.set_cons_succ]
  refine anyH_pureG 5 (d := 15) (op := .nilCheck (.tmp 14)) (gd := none) (.pointer (some ⟨jb, 0, none⟩)) (by rfl) (fun o ho => wanted_plain ho _) (by kernel_rfl) (by kernel_rfl) (by kernel_rfl) (fun _ _ _ h => h) (fun o ho W hW => by unfold execOp; simp only [ho]; go_simp) HS.out ?_
  simp only [Act.put, List.setIfInBounds_toArray, List.set_cons_zero, List.set_cons_succ]
  refine anyH_pureG 6 (d := 16) (op := .fieldAddr 82 (.tmp 15) 1) (gd := none) (.pointer (some ⟨jb, 1, none⟩)) (by rfl) (fun o ho => wanted_plain ho _) (by kernel_rfl) (by kernel_rfl) (by kernel_rfl) (fun _ _ _ h => h) (fun o ho W hW => by unfold execOp; simp only [ho]; go_simp) HS.out ?_
  simp only [Act.put, List.setIfInBounds_toArray, List.set_cons_zero, List.set_cons_succ]
  refine anyH_loadG 7 (d := 17) (ty := 9) (x := (.tmp 16)) (gd := none) (p := .pointer (some ⟨jb, 1, none⟩)) (.string nm) (by rfl) (fun o ho => wanted_plain ho _) (by kernel_rfl) (by kernel_rfl) (by kernel_rfl) (fun _ _ _ h => h) (by rfl) HL3.out HS.out ?_
  simp only [Act.put, List.setIfInBounds_toArray, List.set_cons_zero, List.set_cons_succ]
  refine anyH_callG 8 (d := some 18) (f := 46) (xs := #[(.tmp 13), (.tmp 17), (.const (.int .i64 0)), (.const (.int .i64 67108864))]) (ts := #[24, 9, 3, 3]) (gd := none) (vs := #[.pointer (some ⟨d, 0, none⟩), .string nm, .int .i64 0, .int .i64 67108864]) (by kernel_rfl) (by rfl) (fun o ho => wanted_plain ho _) (by go_simp) (by go_simp) (HRD.out) ?_
  rintro e2 w2 ⟨va, vc, rfl, hvc, hvm, hrv, hbd⟩
  have HBD := Lib.hid hbd
  have HRV := Lib.hid hrv
  have HVC := Lib.hid (And.intro hvc hvm)
  have HS2 := Lib.hid (show HasC [(⟨b1, 0, none⟩, .pointer (some ⟨jb, 0, none⟩)), (⟨jb, 0, none⟩, .pointer (some ⟨d, 0, none⟩)), (⟨jb, 1, none⟩, .string nm)] w2 from HS.out.below hbd (by simp [HZ1.out.1, HZ1.out.2.1]))
  clear hbd hrv hvc hvm
  refine ⟨_, rfl, HS2.out, fun hS => ?_⟩
  clear hS
  simp only [Act.put, List.setIfInBounds_toArray, List.set_cons_zero, List.set_cons_succ]
  refine anyH_pureG 9 (d := 9) (op := .move (.tmp 18)) (gd := none) (.tuple #[.slice va zl vc, .int .i64 0]) (by rfl) (fun o ho => wanted_plain ho _) (by kernel_rfl) (by kernel_rfl) (by kernel_rfl) (fun _ _ _ h => h) (fun o ho W hW => by unfold execOp; simp only [ho]; go_simp) HS2.out ?_
  simp only [Act.put, List.setIfInBounds_toArray, List.set_cons_zero, List.set_cons_succ]
  refine anyH_pureG 10 (d := 19) (op := .extract (.tmp 9) 0) (gd := none) (.slice va zl vc) (by rfl) (fun o ho => wanted_plain ho _) (by kernel_rfl) (by kernel_rfl) (by kernel_rfl) (fun _ _ _ h => h) (fun o ho W hW => by unfold execOp; simp only [ho]; go_simp) HS2.out ?_
  simp only [Act.put, List.setIfInBounds_toArray, List.set_cons_zero, List.set_cons_succ]
  refine anyH_pureG 11 (d := 20) (op := .extract (.tmp 9) 1) (gd := none) (.int .i64 0) (by rfl) (fun o ho => wanted_plain ho _) (by kernel_rfl) (by kernel_rfl) (by kernel_rfl) (fun _ _ _ h => h) (fun o ho W hW => by unfold execOp; simp only [ho]; go_simp) HS2.out ?_
  simp only [Act.put, List.setIfInBounds_toArray, List.set_cons_zero, List.set_cons_succ]
  refine anyH_pureG 12 (d := 4) (op := .assign (.tmp 19)) (gd := none) (.slice va zl vc) (by rfl) (fun o ho => wanted_plain ho _) (by kernel_rfl) (by kernel_rfl) (by kernel_rfl) (fun _ _ _ h => h) (fun o ho W hW => by unfold execOp; simp only [ho]; go_simp) HS2.out ?_
  simp only [Act.put, List.setIfInBounds_toArray, List.set_cons_zero, List.set_cons_succ]
  refine anyH_pureG 13 (d := 5) (op := .assign (.tmp 20)) (gd := none) (.int .i64 0) (by rfl) (fun o ho => wanted_plain ho _) (by kernel_rfl) (by kernel_rfl) (by kernel_rfl) (fun _ _ _ h => h) (fun o ho W hW => by unfold execOp; simp only [ho]; go_simp) HS2.out ?_
  simp only [Act.put, List.setIfInBounds_toArray, List.set_cons_zero, List.set_cons_succ]
  refine wpAnyH_done (by kernel_rfl) ?_ _
  clear HL2 HL3 HRD HS2
  have HSC := Lib.hid (scan_c va zl vc z w2 HRV.out HVC.out.1 (by have := HU.out; have := HZL.out; omega) HVC.out.2)
  have HZB := Lib.hid (show ∀ p ∈ (Frm.scanL z).1, ∀ y ∈ p, y < 256 from scan_bytes z.length z (Nat.le_refl _) HRV.out.2.1)
  go_wp2_with fail
  refine HSC.out.mono ?_
  rintro e3 w3 hsc
  obtain ⟨a, n, c, rfl, hrc, how, hnc, hcm, hb3⟩ := scan_rcd hsc B jb (by have := HZ1.out.2.1; have := HBD.out.size; omega) (by have := HXB.out; have := HB1.out.size; have := HBD.out.size; omega)
  rw [← HUS.out]
  have HRC := Lib.hid hrc
  have HNC := Lib.hid (And.intro hnc hcm)
  have HB3 := Lib.hid hb3
  obtain ⟨Y, hY⟩ : ∃ Y : Nat → Prop, Y = fun j => (X j ∨ j = b1) ∨ (w2.heap.size ≤ j ∧ j < w3.heap.size) := ⟨_, rfl⟩
  have hdy : Dx Y B d N A w3 := HD1.out.belowY (HBD.out.trans (hb3.mono HBD.out.size)) (fun j hj => by rw [hY] at hj; exact hj.imp id fun e => Nat.le_trans HBD.out.size e.1) (fun j hj => by
    rw [hY] at hj
    rcases hj with hj | hj
    · exact Nat.lt_of_lt_of_le (HD1.out.lt j hj) (Nat.le_trans HBD.out.size hb3.size)
    · exact hj.2)
  have HJ3 := Lib.hid (show Jn Y B d jb nm 0 N A w3 from ⟨hdy, by rw [hY]; exact .inl (.inl HH.out.xj), HH.out.bj, ((HBD.out.trans (hb3.mono HBD.out.size)).block jb HZ1.out.2.1).trans HJ1.out⟩)
  have y1 : w3.cell? ⟨b1, 0, none⟩ = some (.pointer (some ⟨jb, 0, none⟩)) := ((HBD.out.trans (hb3.mono HBD.out.size)).cell (p := ⟨b1, 0, none⟩) HZ1.out.1).trans (HS.out (⟨b1, 0, none⟩, .pointer (some ⟨jb, 0, none⟩)) (by simp))
  obtain ⟨y2, y3, y4⟩ := HJ3.out.cells
  have y5 := HJ3.out.frozen
  have HYL := Lib.hid (show (∀ j, X j → Y j) ∧ (∀ j, Y j → X j ∨ w.heap.size ≤ j) ∧ (∀ j, w2.heap.size ≤ j ∧ j < w3.heap.size → Y j) from ⟨fun j hj => by rw [hY]; exact .inl (.inl hj), fun j hj => by
    rw [hY] at hj
    rcases hj with (hj | hj) | hj
    · exact .inl hj
    · exact .inr (by rw [hj]; exact HZ1.out.2.2.2)
    · exact .inr (Nat.le_trans (Nat.le_trans HB1.out.size HBD.out.size) hj.1), fun j hj => by rw [hY]; exact .inr hj⟩)
  obtain ⟨s1, s2, s3, s4⟩ := HJ3.out.set (us : Int)
  have HW4 := Lib.hid (show Below B w (w3.setCell ⟨jb, 2, none⟩ (.int .i64 (us : Int))) from ((HB1.out.trans ((HBD.out.trans (hb3.mono HBD.out.size)).mono HB1.out.size)).mono HXB.out).trans s4)
  have HK4 := Lib.hid (show ∀ j, X j → j ≠ jb → (w3.setCell ⟨jb, 2, none⟩ (.int .i64 (us : Int))).heap[j]? = w.heap[j]? from fun j hj hn => (s3 j hn).trans ((HB1.out.trans ((HBD.out.trans (hb3.mono HBD.out.size)).mono HB1.out.size)).block j (HH.out.dx.lt j hj)))
  have HRC4 := Lib.hid (show Rcd Y B (w3.setCell ⟨jb, 2, none⟩ (.int .i64 (us : Int))) a n (Frm.scanL z).1 from (hrc.stay (Nat.le_of_eq s2.symm) fun j hj ho => s3 j fun e => by
    rcases ho with ho | ho
    · have := HH.out.bj; omega
    · have := HZ1.out.2.1; have := HBD.out.size; omega).more HYL.out.2.2)
  have HOW4 := Lib.hid (show OwA Y B jb (w3.setCell ⟨jb, 2, none⟩ (.int .i64 (us : Int))) (.slice a n c) (Frm.scanL z).1 from (how.stay (Nat.le_of_eq s2.symm) fun j hj ho => s3 j fun e => by
    rcases ho with ho | ho
    · have := HH.out.bj; omega
    · exact ho.2 e).more HYL.out.2.2)
  have HJ4 := Lib.hid s1
  clear hdy hY s1 s2 s3 s4
  clear hrc how hnc hcm hb3 hsc HSC
  have hlt : ¬ ((us : Nat) : Int) < ((zl : Nat) : Int) := by have := HU.out; have := HC.out; omega
  have HE := Lib.hid (show LoadR X B d jb (N + 24) nm w (us : Int) (Frm.scanL z).1 (A, 0) (.returned (.tuple #[.slice a n c, .int .i64 0])) (w3.setCell ⟨jb, 2, none⟩ (.int .i64 (us : Int))) from ⟨Y, a, n, c, rfl, HYL.out.1, HYL.out.2.1, ⟨HJ4.out.dx.mono (by omega), HJ4.out.xj, HJ4.out.bj, HJ4.out.row⟩, HRC4.out, HOW4.out, HNC.out.1, HNC.out.2, HW4.out, HK4.out⟩)
  go_wp2_with fail
  go_ret2
  exact HE.out
set_option maxRecDepth 100000 in
set_option maxHeartbeats 8000000 in
theorem jload_cut {X : Nat → Prop} {B d N jb : Nat} {A : Ad} {w : World} {nm : ByteArray} (h : Jn X B d jb nm 0 N A w) (hN : N < 100000000) (hn : nm.size ≤ 1000) (hdn : A.down = false) (z : List Nat) (hz : lookF A.now nm = some z) (hzl : z.length < 1048576) (hc : (Frm.scanL z).2 < z.length) :
    Calls Try.prog 34 #[.pointer (some ⟨jb, 0, none⟩)] w (LoadR X B d jb (N + 24) nm w (((Frm.scanL z).2 : Nat) : Int) (Frm.scanL z).1 (A.rw nm (spJ nm) (Frm.flatF (Frm.scanL z).1))) := by
  have hj := h.row
  have hjl : jb < w.heap.size := h.dx.lt jb h.xj
  have hnl : nm.size ≤ maxLen := by unfold maxLen; omega
  obtain ⟨b1, hb1⟩ : ∃ b1, b1 = w.heap.size := ⟨_, rfl⟩
  obtain ⟨w1, hw1⟩ : ∃ w1, w1 = w.alloc (.cells #[.pointer (some ⟨jb, 0, none⟩)] 54) := ⟨_, rfl⟩
  have z1 : w1.heap.size = b1 + 1 := by rw [hw1, hb1]; simp
  have q1 : Below w.heap.size w w1 := by rw [hw1]; exact (Below.refl _ _).alloc (Nat.le_refl _) _
  have qd : Below w1.heap.size w1 (World.drew w1) := below_drewN' _ w1 1
  have k1 : w1.heap[b1]? = some (.cells #[.pointer (some ⟨jb, 0, none⟩)] 54 (0, 0)) := by rw [hw1, hb1]; exact heap_alloc_new w _
  have hj1 := (q1.block jb hjl).trans hj
  have hS1 : HasC [(⟨b1, 0, none⟩, .pointer (some ⟨jb, 0, none⟩)), (⟨jb, 0, none⟩, .pointer (some ⟨d, 0, none⟩)), (⟨jb, 1, none⟩, .string nm)] (World.drew w1) := by
    intro p hp
    simp only [List.mem_cons, List.not_mem_nil, or_false] at hp
    rcases hp with rfl | rfl | rfl
    · exact cell_of_row w1 b1 0 _ _ _ k1
    · exact (cell_of_row w1 jb 0 _ _ _ hj1).trans rfl
    · exact (cell_of_row w1 jb 1 _ _ _ hj1).trans rfl
  have hd1 : Dx (fun j => X j ∨ j = b1) B d N A (World.drew w1) := h.dx.belowY (q1.trans (qd.mono q1.size)) (fun j hj => hj.imp id fun e => by omega) (fun j hj => by
    rcases hj with hj | hj
    · exact Nat.lt_of_lt_of_le (h.dx.lt j hj) q1.size
    · show j < w1.heap.size; omega)
  have HD1 := Lib.hid hd1
  have HJ1 := Lib.hid (show (World.drew w1).heap[jb]? = some (.cells #[.pointer (some ⟨d, 0, none⟩), .string nm, .int .i64 0] 82 (0, 0)) from hj1)
  have HB1 := Lib.hid (show Below w.heap.size w (World.drew w1) from q1.trans (qd.mono q1.size))
  have HZ1 := Lib.hid (show b1 < (World.drew w1).heap.size ∧ jb < (World.drew w1).heap.size ∧ b1 ≠ jb ∧ w.heap.size ≤ b1 from ⟨by show b1 < w1.heap.size; omega, by show jb < w1.heap.size; omega, by omega, by omega⟩)
  have HH := Lib.hid h
  have HS := Lib.hid hS1
  have HXB := Lib.hid (show B ≤ w.heap.size from Nat.le_of_lt (Nat.lt_of_le_of_lt h.dx.base.1 h.dx.base.2))
  obtain ⟨zl, hzz⟩ : ∃ zl, zl = z.length := ⟨_, rfl⟩
  have hrd : Calls Try.prog 46 #[.pointer (some ⟨d, 0, none⟩), .string nm, .int .i64 0, .int .i64 67108864] (World.drew w1) fun e w' => ∃ va vc, e = .returned (.tuple #[.slice va zl vc, .int .i64 0]) ∧ zl ≤ vc ∧ vc ≤ 9223372036854775807 ∧ Rd w' va zl z ∧ Below (World.drew w1).heap.size (World.drew w1) w' := by
    obtain ⟨S, k1, k2, -⟩ := hd1.ex
    have hh := aread k1 k2 nm hnl 0 67108864
    refine hh.mono ?_
    intro e w' he
    unfold RdA at he
    rw [hdn, hz] at he
    simp only [Bool.false_eq_true, if_false] at he
    rw [if_neg (by omega)] at he
    obtain ⟨va, vn, vc, rfl, ho, hvn, hvb, hb⟩ := he
    have e1 : (z.drop (0 : Int).toNat).take (67108864 : Int).toNat = z := by
      rw [show (0 : Int).toNat = 0 from rfl, List.drop_zero, List.take_of_length_le (by rw [show (67108864 : Int).toNat = 67108864 from rfl]; omega)]
    rw [e1] at ho hvn hvb
    subst hvn
    obtain ⟨a', c', e2, h1, h2, h3⟩ := ho.rd hvb
    obtain ⟨e3, _, e4⟩ := Value.slice.inj e2
    subst e3 e4
    exact ⟨va, vc, by rw [hzz], by rw [hzz]; exact h1, h2, by rw [hzz]; exact h3, hb⟩
  have HRD := Lib.hid hrd
  have HZL := Lib.hid hzl
  have HU := Lib.hid hzz
  have HZLK := Lib.hid hz
  have HC := Lib.hid hc
  obtain ⟨us, hus⟩ : ∃ us, us = (Frm.scanL z).2 := ⟨_, rfl⟩
  rw [← hus] at HC ⊢
  have HUS := Lib.hid hus
  obtain ⟨W1, hW1⟩ : ∃ W1, W1 = World.drew w1 := ⟨_, rfl⟩
  rw [← hW1] at HRD HS HZ1 HB1 HJ1 HD1
  clear hrd hzz hz hzl hc hus hdn
  clear h hj hjl hnl z1 q1 qd k1 hj1 hS1 hd1
  go_enter Try.func34, Try.ntmps34
  go_upto_region 1 with fail
  rw [← hb1, ← hw1]
  clear hw1 hb1
  have HL1 := Lib.hid (fun W (hW : HasC [(⟨b1, 0, none⟩, .pointer (some ⟨jb, 0, none⟩)), (⟨jb, 0, none⟩, .pointer (some ⟨d, 0, none⟩)), (⟨jb, 1, none⟩, .string nm)] W) => run_cell_jn W ⟨b1, 0, none⟩ _ (hW (⟨b1, 0, none⟩, .pointer (some ⟨jb, 0, none⟩)) (by simp)))
  have HL2 := Lib.hid (fun W (hW : HasC [(⟨b1, 0, none⟩, .pointer (some ⟨jb, 0, none⟩)), (⟨jb, 0, none⟩, .pointer (some ⟨d, 0, none⟩)), (⟨jb, 1, none⟩, .string nm)] W) => run_cell_disk W ⟨jb, 0, none⟩ _ (hW (⟨jb, 0, none⟩, .pointer (some ⟨d, 0, none⟩)) (by simp)))
  have HL3 := Lib.hid (fun W (hW : HasC [(⟨b1, 0, none⟩, .pointer (some ⟨jb, 0, none⟩)), (⟨jb, 0, none⟩, .pointer (some ⟨d, 0, none⟩)), (⟨jb, 1, none⟩, .string nm)] W) => run_cell_s W ⟨jb, 1, none⟩ nm (hW (⟨jb, 1, none⟩, .string nm) (by simp)))
  refine anyH_begin (S := HasC [(⟨b1, 0, none⟩, .pointer (some ⟨jb, 0, none⟩)), (⟨jb, 0, none⟩, .pointer (some ⟨d, 0, none⟩)), (⟨jb, 1, none⟩, .string nm)]) (by kernel_rfl) ?_
  rw [← hW1]
  clear hW1
  refine anyH_loadG 0 (d := 10) (ty := 54) (x := (.tmp 1)) (gd := none) (p := .pointer (some ⟨b1, 0, none⟩)) (.pointer (some ⟨jb, 0, none⟩)) (by rfl) (fun o ho => wanted_plain ho _) (by kernel_rfl) (by kernel_rfl) (by kernel_rfl) (fun _ _ _ h => h) (by rfl) HL1.out HS.out ?_
  simp only [Act.put, List.setIfInBounds_toArray, List.set_cons_zero, List.set_cons_succ]
  refine anyH_pureG 1 (d := 11) (op := .nilCheck (.tmp 10)) (gd := none) (.pointer (some ⟨jb, 0, none⟩)) (by rfl) (fun o ho => wanted_plain ho _) (by kernel_rfl) (by kernel_rfl) (by kernel_rfl) (fun _ _ _ h => h) (fun o ho W hW => by unfold execOp; simp only [ho]; go_simp) HS.out ?_
  simp only [Act.put, List.setIfInBounds_toArray, List.set_cons_zero, List.set_cons_succ]
  refine anyH_pureG 2 (d := 12) (op := .fieldAddr 82 (.tmp 11) 0) (gd := none) (.pointer (some ⟨jb, 0, none⟩)) (by rfl) (fun o ho => wanted_plain ho _) (by kernel_rfl) (by kernel_rfl) (by kernel_rfl) (fun _ _ _ h => h) (fun o ho W hW => by unfold execOp; simp only [ho]; go_simp) HS.out ?_
  simp only [Act.put, List.setIfInBounds_toArray, List.set_cons_zero, List.set_cons_succ]
  refine anyH_loadG 3 (d := 13) (ty := 24) (x := (.tmp 12)) (gd := none) (p := .pointer (some ⟨jb, 0, none⟩)) (.pointer (some ⟨d, 0, none⟩)) (by rfl) (fun o ho => wanted_plain ho _) (by kernel_rfl) (by kernel_rfl) (by kernel_rfl) (fun _ _ _ h => h) (by rfl) HL2.out HS.out ?_
  simp only [Act.put, List.setIfInBounds_toArray, List.set_cons_zero, List.set_cons_succ]
  refine anyH_loadG 4 (d := 14) (ty := 54) (x := (.tmp 1)) (gd := none) (p := .pointer (some ⟨b1, 0, none⟩)) (.pointer (some ⟨jb, 0, none⟩)) (by rfl) (fun o ho => wanted_plain ho _) (by kernel_rfl) (by kernel_rfl) (by kernel_rfl) (fun _ _ _ h => h) (by rfl) HL1.out HS.out ?_
  simp only [Act.put, List.setIfInBounds_toArray, List.set_cons_zero, List.set_cons_succ]
  refine anyH_pureG 5 (d := 15) (op := .nilCheck (.tmp 14)) (gd := none) (.pointer (some ⟨jb, 0, none⟩)) (by rfl) (fun o ho => wanted_plain ho _) (by kernel_rfl) (by kernel_rfl) (by kernel_rfl) (fun _ _ _ h => h) (fun o ho W hW => by unfold execOp; simp only [ho]; go_simp) HS.out ?_
  simp only [Act.put, List.setIfInBounds_toArray, List.set_cons_zero, List.set_cons_succ]
  refine anyH_pureG 6 (d := 16) (op := .fieldAddr 82 (.tmp 15) 1) (gd := none) (.pointer (some ⟨jb, 1, none⟩)) (by rfl) (fun o ho => wanted_plain ho _) (by kernel_rfl) (by kernel_rfl) (by kernel_rfl) (fun _ _ _ h => h) (fun o ho W hW => by unfold execOp; simp only [ho]; go_simp) HS.out ?_
  simp only [Act.put, List.setIfInBounds_toArray, List.set_cons_zero, List.set_cons_succ]
  refine anyH_loadG 7 (d := 17) (ty := 9) (x := (.tmp 16)) (gd := none) (p := .pointer (some ⟨jb, 1, none⟩)) (.string nm) (by rfl) (fun o ho => wanted_plain ho _) (by kernel_rfl) (by kernel_rfl) (by kernel_rfl) (fun _ _ _ h => h) (by rfl) HL3.out HS.out ?_
  simp only [Act.put, List.setIfInBounds_toArray, List.set_cons_zero, List.set_cons_succ]
  refine anyH_callG 8 (d := some 18) (f := 46) (xs := #[(.tmp 13), (.tmp 17), (.const (.int .i64 0)), (.const (.int .i64 67108864))]) (ts := #[24, 9, 3, 3]) (gd := none) (vs := #[.pointer (some ⟨d, 0, none⟩), .string nm, .int .i64 0, .int .i64 67108864]) (by kernel_rfl) (by rfl) (fun o ho => wanted_plain ho _) (by go_simp) (by go_simp) (HRD.out) ?_
  rintro e2 w2 ⟨va, vc, rfl, hvc, hvm, hrv, hbd⟩
  have HBD := Lib.hid hbd
  have HRV := Lib.hid hrv
  have HVC := Lib.hid (And.intro hvc hvm)
  have HS2 := Lib.hid (show HasC [(⟨b1, 0, none⟩, .pointer (some ⟨jb, 0, none⟩)), (⟨jb, 0, none⟩, .pointer (some ⟨d, 0, none⟩)), (⟨jb, 1, none⟩, .string nm)] w2 from HS.out.below hbd (by simp [HZ1.out.1, HZ1.out.2.1]))
  clear hbd hrv hvc hvm
  refine ⟨_, rfl, HS2.out, fun hS => ?_⟩
  clear hS
  simp only [Act.put, List.setIfInBounds_toArray, List.set_cons_zero, List.set_cons_succ]
  refine anyH_pureG 9 (d := 9) (op := .move (.tmp 18)) (gd := none) (.tuple #[.slice va zl vc, .int .i64 0]) (by rfl) (fun o ho => wanted_plain ho _) (by kernel_rfl) (by kernel_rfl) (by kernel_rfl) (fun _ _ _ h => h) (fun o ho W hW => by unfold execOp; simp only [ho]; go_simp) HS2.out ?_
  simp only [Act.put, List.setIfInBounds_toArray, List.set_cons_zero, List.set_cons_succ]
  refine anyH_pureG 10 (d := 19) (op := .extract (.tmp 9) 0) (gd := none) (.slice va zl vc) (by rfl) (fun o ho => wanted_plain ho _) (by kernel_rfl) (by kernel_rfl) (by kernel_rfl) (fun _ _ _ h => h) (fun o ho W hW => by unfold execOp; simp only [ho]; go_simp) HS2.out ?_
  simp only [Act.put, List.setIfInBounds_toArray, List.set_cons_zero, List.set_cons_succ]
  refine anyH_pureG 11 (d := 20) (op := .extract (.tmp 9) 1) (gd := none) (.int .i64 0) (by rfl) (fun o ho => wanted_plain ho _) (by kernel_rfl) (by kernel_rfl) (by kernel_rfl) (fun _ _ _ h => h) (fun o ho W hW => by unfold execOp; simp only [ho]; go_simp) HS2.out ?_
  simp only [Act.put, List.setIfInBounds_toArray, List.set_cons_zero, List.set_cons_succ]
  refine anyH_pureG 12 (d := 4) (op := .assign (.tmp 19)) (gd := none) (.slice va zl vc) (by rfl) (fun o ho => wanted_plain ho _) (by kernel_rfl) (by kernel_rfl) (by kernel_rfl) (fun _ _ _ h => h) (fun o ho W hW => by unfold execOp; simp only [ho]; go_simp) HS2.out ?_
  simp only [Act.put, List.setIfInBounds_toArray, List.set_cons_zero, List.set_cons_succ]
  refine anyH_pureG 13 (d := 5) (op := .assign (.tmp 20)) (gd := none) (.int .i64 0) (by rfl) (fun o ho => wanted_plain ho _) (by kernel_rfl) (by kernel_rfl) (by kernel_rfl) (fun _ _ _ h => h) (fun o ho W hW => by unfold execOp; simp only [ho]; go_simp) HS2.out ?_
  simp only [Act.put, List.setIfInBounds_toArray, List.set_cons_zero, List.set_cons_succ]
  refine wpAnyH_done (by kernel_rfl) ?_ _
  clear HL2 HL3 HRD HS2
  have HSC := Lib.hid (scan_c va zl vc z w2 HRV.out HVC.out.1 (by have := HU.out; have := HZL.out; omega) HVC.out.2)
  have HZB := Lib.hid (show ∀ p ∈ (Frm.scanL z).1, ∀ y ∈ p, y < 256 from scan_bytes z.length z (Nat.le_refl _) HRV.out.2.1)
  go_wp2_with fail
  refine HSC.out.mono ?_
  rintro e3 w3 hsc
  obtain ⟨a, n, c, rfl, hrc, how, hnc, hcm, hb3⟩ := scan_rcd hsc B jb (by have := HZ1.out.2.1; have := HBD.out.size; omega) (by have := HXB.out; have := HB1.out.size; have := HBD.out.size; omega)
  rw [← HUS.out]
  have HRC := Lib.hid hrc
  have HNC := Lib.hid (And.intro hnc hcm)
  have HB3 := Lib.hid hb3
  obtain ⟨Y, hY⟩ : ∃ Y : Nat → Prop, Y = fun j => (X j ∨ j = b1) ∨ (w2.heap.size ≤ j ∧ j < w3.heap.size) := ⟨_, rfl⟩
  have hdy : Dx Y B d N A w3 := HD1.out.belowY (HBD.out.trans (hb3.mono HBD.out.size)) (fun j hj => by rw [hY] at hj; exact hj.imp id fun e => Nat.le_trans HBD.out.size e.1) (fun j hj => by
    rw [hY] at hj
    rcases hj with hj | hj
    · exact Nat.lt_of_lt_of_le (HD1.out.lt j hj) (Nat.le_trans HBD.out.size hb3.size)
    · exact hj.2)
  have HJ3 := Lib.hid (show Jn Y B d jb nm 0 N A w3 from ⟨hdy, by rw [hY]; exact .inl (.inl HH.out.xj), HH.out.bj, ((HBD.out.trans (hb3.mono HBD.out.size)).block jb HZ1.out.2.1).trans HJ1.out⟩)
  have y1 : w3.cell? ⟨b1, 0, none⟩ = some (.pointer (some ⟨jb, 0, none⟩)) := ((HBD.out.trans (hb3.mono HBD.out.size)).cell (p := ⟨b1, 0, none⟩) HZ1.out.1).trans (HS.out (⟨b1, 0, none⟩, .pointer (some ⟨jb, 0, none⟩)) (by simp))
  obtain ⟨y2, y3, y4⟩ := HJ3.out.cells
  have y5 := HJ3.out.frozen
  have HYL := Lib.hid (show (∀ j, X j → Y j) ∧ (∀ j, Y j → X j ∨ w.heap.size ≤ j) ∧ (∀ j, w2.heap.size ≤ j ∧ j < w3.heap.size → Y j) from ⟨fun j hj => by rw [hY]; exact .inl (.inl hj), fun j hj => by
    rw [hY] at hj
    rcases hj with (hj | hj) | hj
    · exact .inl hj
    · exact .inr (by rw [hj]; exact HZ1.out.2.2.2)
    · exact .inr (Nat.le_trans (Nat.le_trans HB1.out.size HBD.out.size) hj.1), fun j hj => by rw [hY]; exact .inr hj⟩)
  obtain ⟨s1, s2, s3, s4⟩ := HJ3.out.set (us : Int)
  have HW4 := Lib.hid (show Below B w (w3.setCell ⟨jb, 2, none⟩ (.int .i64 (us : Int))) from ((HB1.out.trans ((HBD.out.trans (hb3.mono HBD.out.size)).mono HB1.out.size)).mono HXB.out).trans s4)
  have HK4 := Lib.hid (show ∀ j, X j → j ≠ jb → (w3.setCell ⟨jb, 2, none⟩ (.int .i64 (us : Int))).heap[j]? = w.heap[j]? from fun j hj hn => (s3 j hn).trans ((HB1.out.trans ((HBD.out.trans (hb3.mono HBD.out.size)).mono HB1.out.size)).block j (HH.out.dx.lt j hj)))
  have HRC4 := Lib.hid (show Rcd Y B (w3.setCell ⟨jb, 2, none⟩ (.int .i64 (us : Int))) a n (Frm.scanL z).1 from (hrc.stay (Nat.le_of_eq s2.symm) fun j hj ho => s3 j fun e => by
    rcases ho with ho | ho
    · have := HH.out.bj; omega
    · have := HZ1.out.2.1; have := HBD.out.size; omega).more HYL.out.2.2)
  have HOW4 := Lib.hid (show OwA Y B jb (w3.setCell ⟨jb, 2, none⟩ (.int .i64 (us : Int))) (.slice a n c) (Frm.scanL z).1 from (how.stay (Nat.le_of_eq s2.symm) fun j hj ho => s3 j fun e => by
    rcases ho with ho | ho
    · have := HH.out.bj; omega
    · exact ho.2 e).more HYL.out.2.2)
  have HJ4 := Lib.hid s1
  clear hdy hY s1 s2 s3 s4
  clear hrc how hnc hcm hb3 hsc HSC
  have hlt : ((us : Nat) : Int) < ((zl : Nat) : Int) := by have := HU.out; have := HC.out; omega
  have HRW := Lib.hid (jrewrite_c HJ4.out.dx hN HJ4.out.xj (by
    obtain ⟨g1, g2, g3⟩ := HJ4.out.cells
    intro p hp
    simp only [List.mem_cons, List.not_mem_nil, or_false] at hp
    rcases hp with rfl | rfl
    · exact g1
    · exact g2) hn a n c (Frm.scanL z).1 HRC4.out (by
      have h1 := Frm.scan_cnt z.length z (Nat.le_refl _)
      have h2 := HRC4.out.ln
      have := HZL.out
      omega) (by
      rw [scan_flat z.length z (Nat.le_refl _), List.length_take]
      have := HZL.out
      omega) HZB.out)
  obtain ⟨r, hr⟩ : ∃ r, A.rw nm (spJ nm) (Frm.flatF (Frm.scanL z).1) = r := ⟨_, rfl⟩
  rw [show nm ++ ⟨#[43]⟩ = spJ nm from rfl, hr] at HRW
  have HRR := Lib.hid hr
  obtain ⟨A', x⟩ := r
  have z1' : (w3.setCell ⟨jb, 2, none⟩ (.int .i64 (us : Int))).cell? ⟨b1, 0, none⟩ = some (.pointer (some ⟨jb, 0, none⟩)) := (World.cell?_of_block (a := ⟨b1, 0, none⟩) (Below.heap_setCell w3 ⟨jb, 2, none⟩ _ b1 HZ1.out.2.2.1)).trans y1
  clear hr
  go_wp2_with fail
  refine HRW.out.mono ?_
  rintro e5 w5 ⟨rfl, g1, g2, g3⟩
  have HE := Lib.hid (show LoadR X B d jb (N + 24) nm w (us : Int) (Frm.scanL z).1 (A.rw nm (spJ nm) (Frm.flatF (Frm.scanL z).1)) (.returned (.tuple #[.slice a n c, .int .i64 x])) w5 from by rw [HRR.out]; exact ⟨Y, a, n, c, rfl, HYL.out.1, HYL.out.2.1, HJ4.out.kp (Y := Y) g1 g3, HRC4.out.stay g2.size (fun j _ hj => hj.elim (fun e => g2.block j e) fun e => g3 j e), HOW4.out.stay g2.size (fun j _ hj => hj.elim (fun e => g2.block j e) fun e => g3 j e.1), HNC.out.1, HNC.out.2, HW4.out.trans g2, fun j hj hne => (g3 j (HYL.out.1 j hj)).trans (HK4.out j hj hne)⟩)
  clear g1 g2 g3 HRW z1'
  go_wp2_with fail
  go_ret2
  exact HE.out
set_option maxRecDepth 100000 in
set_option maxHeartbeats 8000000 in
theorem jload_none {X : Nat → Prop} {B d N jb : Nat} {A : Ad} {w : World} {nm : ByteArray} (h : Jn X B d jb nm 0 N A w) (hN : N < 100000000) (hn : nm.size ≤ 1000) (hdn : A.down = false) (hz : lookF A.now nm = none) :
    Calls Try.prog 34 #[.pointer (some ⟨jb, 0, none⟩)] w (LoadR X B d jb (N + 24) nm w 0 [] (runA [mkA nm, Ad.sync] A)) := by
  have hj := h.row
  have hjl : jb < w.heap.size := h.dx.lt jb h.xj
  have hnl : nm.size ≤ maxLen := by unfold maxLen; omega
  obtain ⟨b1, hb1⟩ : ∃ b1, b1 = w.heap.size := ⟨_, rfl⟩
  obtain ⟨w1, hw1⟩ : ∃ w1, w1 = w.alloc (.cells #[.pointer (some ⟨jb, 0, none⟩)] 54) := ⟨_, rfl⟩
  have z1 : w1.heap.size = b1 + 1 := by rw [hw1, hb1]; simp
  have q1 : Below w.heap.size w w1 := by rw [hw1]; exact (Below.refl _ _).alloc (Nat.le_refl _) _
  have qd : Below w1.heap.size w1 (World.drew w1) := below_drewN' _ w1 1
  have k1 : w1.heap[b1]? = some (.cells #[.pointer (some ⟨jb, 0, none⟩)] 54 (0, 0)) := by rw [hw1, hb1]; exact heap_alloc_new w _
  have hj1 := (q1.block jb hjl).trans hj
  have hS1 : HasC [(⟨b1, 0, none⟩, .pointer (some ⟨jb, 0, none⟩)), (⟨jb, 0, none⟩, .pointer (some ⟨d, 0, none⟩)), (⟨jb, 1, none⟩, .string nm)] (World.drew w1) := by
    intro p hp
    simp only [List.mem_cons, List.not_mem_nil, or_false] at hp
    rcases hp with rfl | rfl | rfl
    · exact cell_of_row w1 b1 0 _ _ _ k1
    · exact (cell_of_row w1 jb 0 _ _ _ hj1).trans rfl
    · exact (cell_of_row w1 jb 1 _ _ _ hj1).trans rfl
  have hd1 : Dx (fun j => X j ∨ j = b1) B d N A (World.drew w1) := h.dx.belowY (q1.trans (qd.mono q1.size)) (fun j hj => hj.imp id fun e => by omega) (fun j hj => by
    rcases hj with hj | hj
    · exact Nat.lt_of_lt_of_le (h.dx.lt j hj) q1.size
    · show j < w1.heap.size; omega)
  have HD1 := Lib.hid hd1
  have HJ1 := Lib.hid (show (World.drew w1).heap[jb]? = some (.cells #[.pointer (some ⟨d, 0, none⟩), .string nm, .int .i64 0] 82 (0, 0)) from hj1)
  have HB1 := Lib.hid (show Below w.heap.size w (World.drew w1) from q1.trans (qd.mono q1.size))
  have HZ1 := Lib.hid (show b1 < (World.drew w1).heap.size ∧ jb < (World.drew w1).heap.size ∧ b1 ≠ jb ∧ w.heap.size ≤ b1 from ⟨by show b1 < w1.heap.size; omega, by show jb < w1.heap.size; omega, by omega, by omega⟩)
  have HH := Lib.hid h
  have HS := Lib.hid hS1
  have HXB := Lib.hid (show B ≤ w.heap.size from Nat.le_of_lt (Nat.lt_of_le_of_lt h.dx.base.1 h.dx.base.2))
  have HRD := Lib.hid (show Calls Try.prog 46 #[.pointer (some ⟨d, 0, none⟩), .string nm, .int .i64 0, .int .i64 67108864] (World.drew w1) fun e w' => e = .returned (.tuple #[.slice none 0 0, .int .i64 6]) ∧ w' = World.drew w1 from by
    obtain ⟨S, k1, k2, -⟩ := hd1.ex
    have := aread k1 k2 nm hnl 0 67108864
    unfold RdA at this
    rw [hdn, hz] at this
    simpa using this)
  obtain ⟨W1, hW1⟩ : ∃ W1, W1 = World.drew w1 := ⟨_, rfl⟩
  rw [← hW1] at HRD HS HZ1 HB1 HJ1 HD1
  have q9 : Below W1.heap.size W1 (W1.alloc (.cells #[.func (.func 47) #[] #[.pointer (some ⟨b1, 0, none⟩)], .func (.func 50) #[.pointer (some ⟨d, 0, none⟩)] #[]] 68)) := (Below.refl _ _).alloc (Nat.le_refl _) _
  have hin : Calls Try.prog 49 #[.slice (some ⟨W1.heap.size, 0, none⟩) 2 2] (W1.alloc (.cells #[.func (.func 47) #[] #[.pointer (some ⟨b1, 0, none⟩)], .func (.func 50) #[.pointer (some ⟨d, 0, none⟩)] #[]] 68)) (DxR (fun j => (X j ∨ j = b1) ∨ j = W1.heap.size) B d (N + 3 * 2) (W1.alloc (.cells #[.func (.func 47) #[] #[.pointer (some ⟨b1, 0, none⟩)], .func (.func 50) #[.pointer (some ⟨d, 0, none⟩)] #[]] 68)) (runA [mkA nm, Ad.sync] A)) := by
    have k9 : (W1.alloc (.cells #[.func (.func 47) #[] #[.pointer (some ⟨b1, 0, none⟩)], .func (.func 50) #[.pointer (some ⟨d, 0, none⟩)] #[]] 68)).heap[W1.heap.size]? = some (.cells #[.func (.func 47) #[] #[.pointer (some ⟨b1, 0, none⟩)], .func (.func 50) #[.pointer (some ⟨d, 0, none⟩)] #[]] 68 (0, 0)) := heap_alloc_new W1 _
    have hd9 : Dx (fun j => (X j ∨ j = b1) ∨ j = W1.heap.size) B d N A (W1.alloc (.cells #[.func (.func 47) #[] #[.pointer (some ⟨b1, 0, none⟩)], .func (.func 50) #[.pointer (some ⟨d, 0, none⟩)] #[]] 68)) := HD1.out.belowY q9 (fun j hj => hj.imp id fun e => by omega) (fun j hj => hj.elim (fun e => Nat.lt_of_lt_of_le (HD1.out.lt j e) q9.size) fun e => by rw [e]; simp)
    have hL9 : HasC [(⟨b1, 0, none⟩, .pointer (some ⟨jb, 0, none⟩)), (⟨jb, 0, none⟩, .pointer (some ⟨d, 0, none⟩)), (⟨jb, 1, none⟩, .string nm)] (W1.alloc (.cells #[.func (.func 47) #[] #[.pointer (some ⟨b1, 0, none⟩)], .func (.func 50) #[.pointer (some ⟨d, 0, none⟩)] #[]] 68)) := HS.out.below q9 (by simp [HZ1.out.1, HZ1.out.2.1])
    refine jorder_ad hd9 W1.heap.size 2 (fun i => match i with | 0 => ⟨47, #[], #[.pointer (some ⟨b1, 0, none⟩)]⟩ | _ => ⟨50, #[.pointer (some ⟨d, 0, none⟩)], #[]⟩) [mkA nm, Ad.sync] rfl (by omega) (.inr rfl) (fun i hi => by
      rw [cell_of_row _ _ i _ _ _ k9]
      match i, hi with
      | 0, _ => rfl
      | 1, _ => rfl) (fun i hi => by
      match i, hi with
      | 0, _ => exact enters_of Try.func47 (by kernel_rfl) rfl
      | 1, _ => exact enters_of Try.func50 (by kernel_rfl) rfl) (fun i f hf A1 W g4 g5 g6 => by
      have yL : HasC [(⟨b1, 0, none⟩, .pointer (some ⟨jb, 0, none⟩)), (⟨jb, 0, none⟩, .pointer (some ⟨d, 0, none⟩)), (⟨jb, 1, none⟩, .string nm)] W := hL9.kp g6 (by simp [HH.out.xj])
      have hi : i < 2 := (List.getElem?_eq_some_iff.1 hf).1
      match i, hi, hf with
      | 0, _, hf => cases hf; exact jcr_c (b2 := b1) (jb := jb) g4 (by omega) nm hnl yL (by simp [HH.out.xj])
      | 1, _, hf => cases hf; exact g4.sync)
  obtain ⟨r, hr⟩ : ∃ r, runA [mkA nm, Ad.sync] A = r := ⟨_, rfl⟩
  rw [hr] at hin
  have HRR := Lib.hid hr
  obtain ⟨A', x⟩ := r
  have HIN := Lib.hid hin
  have HQ9 := Lib.hid q9
  have hmf : ∀ (fn : Fn) (first cap : Array Value) (w : World), (Instr.makeFunc fn first cap).run Try.prog w = .ok (.func fn first cap) w := fun _ _ _ _ => rfl
  have y1 : W1.cell? ⟨b1, 0, none⟩ = some (.pointer (some ⟨jb, 0, none⟩)) := HS.out (⟨b1, 0, none⟩, .pointer (some ⟨jb, 0, none⟩)) (by simp)
  have y2 : W1.cell? ⟨jb, 0, none⟩ = some (.pointer (some ⟨d, 0, none⟩)) := HS.out (⟨jb, 0, none⟩, .pointer (some ⟨d, 0, none⟩)) (by simp)
  clear hin q9 hr hdn hz
  clear h hj hjl hnl z1 q1 qd k1 hj1 hS1 hd1
  go_enter Try.func34, Try.ntmps34
  go_upto_region 1 with fail
  rw [← hb1, ← hw1]
  clear hw1 hb1
  have HL1 := Lib.hid (fun W (hW : HasC [(⟨b1, 0, none⟩, .pointer (some ⟨jb, 0, none⟩)), (⟨jb, 0, none⟩, .pointer (some ⟨d, 0, none⟩)), (⟨jb, 1, none⟩, .string nm)] W) => run_cell_jn W ⟨b1, 0, none⟩ _ (hW (⟨b1, 0, none⟩, .pointer (some ⟨jb, 0, none⟩)) (by simp)))
  have HL2 := Lib.hid (fun W (hW : HasC [(⟨b1, 0, none⟩, .pointer (some ⟨jb, 0, none⟩)), (⟨jb, 0, none⟩, .pointer (some ⟨d, 0, none⟩)), (⟨jb, 1, none⟩, .string nm)] W) => run_cell_disk W ⟨jb, 0, none⟩ _ (hW (⟨jb, 0, none⟩, .pointer (some ⟨d, 0, none⟩)) (by simp)))
  have HL3 := Lib.hid (fun W (hW : HasC [(⟨b1, 0, none⟩, .pointer (some ⟨jb, 0, none⟩)), (⟨jb, 0, none⟩, .pointer (some ⟨d, 0, none⟩)), (⟨jb, 1, none⟩, .string nm)] W) => run_cell_s W ⟨jb, 1, none⟩ nm (hW (⟨jb, 1, none⟩, .string nm) (by simp)))
  refine anyH_begin (S := HasC [(⟨b1, 0, none⟩, .pointer (some ⟨jb, 0, none⟩)), (⟨jb, 0, none⟩, .pointer (some ⟨d, 0, none⟩)), (⟨jb, 1, none⟩, .string nm)]) (by kernel_rfl) ?_
  rw [← hW1]
  clear hW1
  refine anyH_loadG 0 (d := 10) (ty := 54) (x := (.tmp 1)) (gd := none) (p := .pointer (some ⟨b1, 0, none⟩)) (.pointer (some ⟨jb, 0, none⟩)) (by rfl) (fun o ho => wanted_plain ho _) (by kernel_rfl) (by kernel_rfl) (by kernel_rfl) (fun _ _ _ h => h) (by rfl) HL1.out HS.out ?_
  simp only [Act.put, List.setIfInBounds_toArray, List.set_cons_zero, List.set_cons_succ]
  refine anyH_pureG 1 (d := 11) (op := .nilCheck (.tmp 10)) (gd := none) (.pointer (some ⟨jb, 0, none⟩)) (by rfl) (fun o ho => wanted_plain ho _) (by kernel_rfl) (by kernel_rfl) (by kernel_rfl) (fun _ _ _ h => h) (fun o ho W hW => by unfold execOp; simp only [ho]; go_simp) HS.out ?_
  simp only [Act.put, List.setIfInBounds_toArray, List.set_cons_zero, List.set_cons_succ]
  refine anyH_pureG 2 (d := 12) (op := .fieldAddr 82 (.tmp 11) 0) (gd := none) (.pointer (some ⟨jb, 0, none⟩)) (by rfl) (fun o ho => wanted_plain ho _) (by kernel_rfl) (by kernel_rfl) (by kernel_rfl) (fun _ _ _ h => h) (fun o ho W hW => by unfold execOp; simp only [ho]; go_simp) HS.out ?_
  simp only [Act.put, List.setIfInBounds_toArray, List.set_cons_zero, List.set_cons_succ]
  refine anyH_loadG 3 (d := 13) (ty := 24) (x := (.tmp 12)) (gd := none) (p := .pointer (some ⟨jb, 0, none⟩)) (.pointer (some ⟨d, 0, none⟩)) (by rfl) (fun o ho => wanted_plain ho _) (by kernel_rfl) (by kernel_rfl) (by kernel_rfl) (fun _ _ _ h => h) (by rfl) HL2.out HS.out ?_
  simp only [Act.put, List.setIfInBounds_toArray, List.set_cons_zero, List.set_cons_succ]
  refine anyH_loadG 4 (d := 14) (ty := 54) (x := (.tmp 1)) (gd := none) (p := .pointer (some ⟨b1, 0, none⟩)) (.pointer (some ⟨jb, 0, none⟩)) (by rfl) (fun o ho => wanted_plain ho _) (by kernel_rfl) (by kernel_rfl) (by kernel_rfl) (fun _ _ _ h => h) (by rfl) HL1.out HS.out ?_
  simp only [Act.put, List.setIfInBounds_toArray, List.set_cons_zero, List.set_cons_succ]
  refine anyH_pureG 5 (d := 15) (op := .nilCheck (.tmp 14)) (gd := none) (.pointer (some ⟨jb, 0, none⟩)) (by rfl) (fun o ho => wanted_plain ho _) (by kernel_rfl) (by kernel_rfl) (by kernel_rfl) (fun _ _ _ h => h) (fun o ho W hW => by unfold execOp; simp only [ho]; go_simp) HS.out ?_
  simp only [Act.put, List.setIfInBounds_toArray, List.set_cons_zero, List.set_cons_succ]
  refine anyH_pureG 6 (d := 16) (op := .fieldAddr 82 (.tmp 15) 1) (gd := none) (.pointer (some ⟨jb, 1, none⟩)) (by rfl) (fun o ho => wanted_plain ho _) (by kernel_rfl) (by kernel_rfl) (by kernel_rfl) (fun _ _ _ h => h) (fun o ho W hW => by unfold execOp; simp only [ho]; go_simp) HS.out ?_
  simp only [Act.put, List.setIfInBounds_toArray, List.set_cons_zero, List.set_cons_succ]
  refine anyH_loadG 7 (d := 17) (ty := 9) (x := (.tmp 16)) (gd := none) (p := .pointer (some ⟨jb, 1, none⟩)) (.string nm) (by rfl) (fun o ho => wanted_plain ho _) (by kernel_rfl) (by kernel_rfl) (by kernel_rfl) (fun _ _ _ h => h) (by rfl) HL3.out HS.out ?_
  simp only [Act.put, List.setIfInBounds_toArray, List.set_cons_zero, List.set_cons_succ]
  refine anyH_callG 8 (d := some 18) (f := 46) (xs := #[(.tmp 13), (.tmp 17), (.const (.int .i64 0)), (.const (.int .i64 67108864))]) (ts := #[24, 9, 3, 3]) (gd := none) (vs := #[.pointer (some ⟨d, 0, none⟩), .string nm, .int .i64 0, .int .i64 67108864]) (by kernel_rfl) (by rfl) (fun o ho => wanted_plain ho _) (by go_simp) (by go_simp) (HRD.out) ?_
  rintro e2 w2 ⟨rfl, rfl⟩
  have HS2 := HS
  refine ⟨_, rfl, HS2.out, fun hS => ?_⟩
  clear hS
  simp only [Act.put, List.setIfInBounds_toArray, List.set_cons_zero, List.set_cons_succ]
  refine anyH_pureG 9 (d := 9) (op := .move (.tmp 18)) (gd := none) (.tuple #[.slice none 0 0, .int .i64 6]) (by rfl) (fun o ho => wanted_plain ho _) (by kernel_rfl) (by kernel_rfl) (by kernel_rfl) (fun _ _ _ h => h) (fun o ho W hW => by unfold execOp; simp only [ho]; go_simp) HS2.out ?_
  simp only [Act.put, List.setIfInBounds_toArray, List.set_cons_zero, List.set_cons_succ]
  refine anyH_pureG 10 (d := 19) (op := .extract (.tmp 9) 0) (gd := none) (.slice none 0 0) (by rfl) (fun o ho => wanted_plain ho _) (by kernel_rfl) (by kernel_rfl) (by kernel_rfl) (fun _ _ _ h => h) (fun o ho W hW => by unfold execOp; simp only [ho]; go_simp) HS2.out ?_
  simp only [Act.put, List.setIfInBounds_toArray, List.set_cons_zero, List.set_cons_succ]
  refine anyH_pureG 11 (d := 20) (op := .extract (.tmp 9) 1) (gd := none) (.int .i64 6) (by rfl) (fun o ho => wanted_plain ho _) (by kernel_rfl) (by kernel_rfl) (by kernel_rfl) (fun _ _ _ h => h) (fun o ho W hW => by unfold execOp; simp only [ho]; go_simp) HS2.out ?_
  simp only [Act.put, List.setIfInBounds_toArray, List.set_cons_zero, List.set_cons_succ]
  refine anyH_pureG 12 (d := 4) (op := .assign (.tmp 19)) (gd := none) (.slice none 0 0) (by rfl) (fun o ho => wanted_plain ho _) (by kernel_rfl) (by kernel_rfl) (by kernel_rfl) (fun _ _ _ h => h) (fun o ho W hW => by unfold execOp; simp only [ho]; go_simp) HS2.out ?_
  simp only [Act.put, List.setIfInBounds_toArray, List.set_cons_zero, List.set_cons_succ]
  refine anyH_pureG 13 (d := 5) (op := .assign (.tmp 20)) (gd := none) (.int .i64 6) (by rfl) (fun o ho => wanted_plain ho _) (by kernel_rfl) (by kernel_rfl) (by kernel_rfl) (fun _ _ _ h => h) (fun o ho W hW => by unfold execOp; simp only [ho]; go_simp) HS2.out ?_
  simp only [Act.put, List.setIfInBounds_toArray, List.set_cons_zero, List.set_cons_succ]
  refine wpAnyH_done (by kernel_rfl) ?_ _
  clear HL2 HL3 HRD HS2
  go_wp2_with fail
  refine HIN.out.mono ?_
  rintro e5 w5 ⟨rfl, g1, g2, g3⟩
  have HE := Lib.hid (show LoadR X B d jb (N + 24) nm w 0 [] (runA [mkA nm, Ad.sync] A) (.returned (.tuple #[.slice none 0 0, .int .i64 x])) w5 from by
    rw [HRR.out]
    have hb5 : Below B w w5 := ((HB1.out.trans (HQ9.out.mono HB1.out.size)).mono HXB.out).trans g2
    refine ⟨_, none, 0, 0, rfl, fun j hj => .inl (.inl hj), fun j hj => ?_, ⟨g1.mono (by omega), .inl (.inl HH.out.xj), HH.out.bj, (g3 jb (.inl (.inl HH.out.xj))).trans ((HQ9.out.block jb HZ1.out.2.1).trans HJ1.out)⟩, ⟨rfl, fun k p hp => by simp at hp⟩, OwA.nil _ _ _ _, Nat.le_refl _, by omega, hb5, fun j hj _ => (g3 j (.inl (.inl hj))).trans ((HB1.out.trans (HQ9.out.mono HB1.out.size)).block j (HH.out.dx.lt j hj))⟩
    rcases hj with (hj | hj) | hj
    · exact .inl hj
    · exact .inr (by rw [hj]; exact HZ1.out.2.2.2)
    · exact .inr (by rw [hj]; exact HB1.out.size))
  clear g1 g2 g3 HIN hmf y1 y2
  go_wp2_with fail
  go_ret2
  exact HE.out
theorem jload_c {X : Nat → Prop} {B d N jb : Nat} {A : Ad} {w : World} {nm : ByteArray} (h : Jn X B d jb nm 0 N A w) (hN : N < 100000000) (hn : nm.size ≤ 1000) (hzl : ∀ z, lookF A.now nm = some z → z.length < 1048576) :
    Calls Try.prog 34 #[.pointer (some ⟨jb, 0, none⟩)] w (LoadR X B d jb (N + 24) nm w (usedA A nm : Nat) (recsA A nm) (A.load nm)) := by
  unfold usedA recsA Ad.load
  cases hdn : A.down with
  | true =>
    simp only [if_true]
    refine (jload_down h hN hn hdn).mono ?_
    rintro e w' ⟨Y, a, n, c, h1, h2, h3, h4, h5⟩
    exact ⟨Y, a, n, c, h1, h2, h3, ⟨h4.dx.mono (by omega), h4.xj, h4.bj, h4.row⟩, h5⟩
  | false =>
    simp only [Bool.false_eq_true, if_false]
    cases hz : lookF A.now nm with
    | none => exact jload_none h hN hn hdn hz
    | some z =>
      simp only
      by_cases hc : (Frm.scanL z).2 < z.length
      · rw [if_pos hc]; exact jload_cut h hN hn hdn z hz (hzl z hz) hc
      · rw [if_neg hc]; exact jload_whole h hN hn hdn z hz (hzl z hz) hc
end Go.Proofs.Ytihbgigledmliaa
