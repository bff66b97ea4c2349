/-
  A table in memory; Apply.
-/
import Derived.Test.YtihbgigledmliaaTbq
namespace Go.Proofs.Ytihbgigledmliaa
open Go.RowKit Go.Maps
set_option linter.unusedVariables false
theorem TM.stay {B m n : Nat} {V : Nat → Prop} {w w' : World} {D : DU} {f : ByteArray → Option (List Nat)} (h : TM B V w m n D f) (hm : w'.heap[m]? = w.heap[m]?) (hv : ∀ k, V k → w'.heap[k]? = w.heap[k]?) : TM B V w' m n D f := by
  refine ⟨h.bm, ?_, fun s => (h.vs s).imp id fun ⟨v, zs, e1, e2, e3, e4, e5, e6⟩ => ⟨v, zs, e1, e2, e3, row_keep e4 fun k e => hv k (e6 k e), e5, e6⟩, h.ks⟩
  obtain ⟨es, clock, hh, r⟩ := h.mp
  exact ⟨es, clock, hm.trans hh, r⟩
/-- a table in memory -/
structure Tbl (X : Nat → Prop) (B d jb tb m n N : Nat) (nm : ByteArray) (sz : Nat) (A : Ad) (f : ByteArray → Option (List Nat)) (dn : Bool) (w : World) : Prop where
  jn : Jn X B d jb nm (sz : Int) N A w
  tm : ∃ D, TM B (fun k => X k ∧ k ≠ jb ∧ k ≠ tb) w m n D f
  row : TRow w tb (.pointer (some ⟨jb, 0, none⟩)) m dn
  tx : X tb
  tj : tb ≠ jb
  mx : X m
  bt : B ≤ tb
theorem Tbl.mt {X : Nat → Prop} {B d jb tb m n N sz : Nat} {nm : ByteArray} {A : Ad} {f : ByteArray → Option (List Nat)} {dn : Bool} {w : World} (h : Tbl X B d jb tb m n N nm sz A f dn w) : m ≠ tb ∧ m ≠ jb ∧ B ≤ m ∧ m < w.heap.size ∧ tb < w.heap.size := by
  obtain ⟨D, hD⟩ := h.tm
  obtain ⟨es, cl, hm⟩ := tmap_block hD.mp
  refine ⟨fun e => ?_, fun e => ?_, hD.bm, (Array.getElem?_eq_some_iff.1 hm).1, (Array.getElem?_eq_some_iff.1 h.row).1⟩
  · have := h.row
    unfold TRow at this
    rw [← e, hm] at this
    cases this
  · have := h.jn.row
    rw [← e, hm] at this
    cases this
theorem Tbl.below {X : Nat → Prop} {B d jb tb m n N sz : Nat} {nm : ByteArray} {A : Ad} {f : ByteArray → Option (List Nat)} {dn : Bool} {w w' : World} (h : Tbl X B d jb tb m n N nm sz A f dn w) (hb : Below w.heap.size w w') : Tbl X B d jb tb m n N nm sz A f dn w' := by
  obtain ⟨D, hD⟩ := h.tm
  exact ⟨h.jn.below hb, ⟨D, hD.below hb⟩, (hb.block tb h.mt.2.2.2.2).trans h.row, h.tx, h.tj, h.mx, h.bt⟩
/-- the journal has changed -/
theorem Tbl.kept {X : Nat → Prop} {B d jb tb m n N N' sz sz' : Nat} {nm : ByteArray} {A A' : Ad} {f : ByteArray → Option (List Nat)} {dn : Bool} {w w' : World} (h : Tbl X B d jb tb m n N nm sz A f dn w) (hj : Jn X B d jb nm (sz' : Int) N' A' w') (hk : ∀ j, X j → j ≠ jb → w'.heap[j]? = w.heap[j]?) : Tbl X B d jb tb m n N' nm sz' A' f dn w' := by
  obtain ⟨D, hD⟩ := h.tm
  exact ⟨hj, ⟨D, hD.stay (hk m h.mx h.mt.2.1) fun k hk' => hk k hk'.1 hk'.2.1⟩, (hk tb h.tx h.tj).trans h.row, h.tx, h.tj, h.mx, h.bt⟩
/-- down is set -/
theorem Tbl.set {X : Nat → Prop} {B d jb tb m n N sz : Nat} {nm : ByteArray} {A : Ad} {f : ByteArray → Option (List Nat)} {dn : Bool} {w : World} (h : Tbl X B d jb tb m n N nm sz A f dn w) (b : Bool) : Tbl X B d jb tb m n N nm sz A f b (w.setCell ⟨tb, 2, none⟩ (.bool b)) ∧ Below B w (w.setCell ⟨tb, 2, none⟩ (.bool b)) ∧ ∀ j, j ≠ tb → (w.setCell ⟨tb, 2, none⟩ (.bool b)).heap[j]? = w.heap[j]? := by
  obtain ⟨D, hD⟩ := h.tm
  have hs : (w.setCell ⟨tb, 2, none⟩ (.bool b)).heap.size = w.heap.size := by simp [World.setCell]
  have hk : ∀ j, j ≠ tb → (w.setCell ⟨tb, 2, none⟩ (.bool b)).heap[j]? = w.heap[j]? := fun j hj => Below.heap_setCell w ⟨tb, 2, none⟩ _ j hj
  refine ⟨⟨⟨h.jn.dx.more (by omega) (fun k _ hn => hk k fun e => hn (by rw [e]; exact h.tx)) (fun j hj => .inl hj) (fun j hj => by rw [hs]; exact h.jn.dx.lt j hj), h.jn.xj, h.jn.bj, (hk jb fun e => h.tj e.symm).trans h.jn.row⟩, ⟨D, hD.stay (hk m h.mt.1) fun k e => hk k e.2.2⟩, ?_, h.tx, h.tj, h.mx, h.bt⟩, (Below.refl _ _).setCell (p := ⟨tb, 2, none⟩) h.bt _, hk⟩
  unfold TRow
  rw [setCell_rowJ h.row 2]
  rfl
/-- changes are done -/
theorem Tbl.done {X : Nat → Prop} {B d jb tb m n N sz len : Nat} {nm : ByteArray} {A : Ad} {f : ByteArray → Option (List Nat)} {dn : Bool} {w w' : World} {L : List Cg} (h : Tbl X B d jb tb m n N nm sz A f dn w) (hl : L.length = len) (hp : PutW B (fun k => X k ∧ k ≠ jb ∧ k ≠ tb) w m n f L len w') :
    Tbl (fun j => X j ∨ (w.heap.size ≤ j ∧ j < w'.heap.size)) B d jb tb m (n + len) N nm sz A (applyL f L) dn w' ∧ Kb w w' m := by
  obtain ⟨D, hD, hk⟩ := hp
  obtain ⟨t1, t2, t3, t4, t5⟩ := h.mt
  have hjl := h.jn.dx.lt jb h.jn.xj
  rw [List.take_of_length_le (by omega)] at hD
  refine ⟨⟨⟨h.jn.dx.more hk.1 (fun k a b => hk.2.1 k a fun e => b (by rw [e]; exact h.mx)) (fun j hj => hj.imp id fun e => e.1) (fun j hj => hj.elim (fun e => Nat.lt_of_lt_of_le (h.jn.dx.lt j e) hk.1) fun e => e.2), .inl h.jn.xj, h.jn.bj, (hk.2.1 jb hjl (fun e => t2 e.symm)).trans h.jn.row⟩, ⟨D, hD.moreV fun j hj => ?_⟩, (hk.2.1 tb t5 fun e => t1 e.symm).trans h.row, .inl h.tx, h.tj, .inl h.mx, h.bt⟩, hk⟩
  rcases hj with hj | hj
  · exact ⟨.inl hj.1, hj.2⟩
  · exact ⟨.inr hj, by omega, by omega⟩
set_option maxRecDepth 100000 in
set_option maxHeartbeats 2000000 in
theorem tnoted_c {X : Nat → Prop} {B d jb tb m n N sz : Nat} {nm : ByteArray} {A : Ad} {f : ByteArray → Option (List Nat)} {dn : Bool} {w : World} (h : Tbl X B d jb tb m n N nm sz A f dn w) (x : Int) :
    Calls Try.prog 23 #[.pointer (some ⟨tb, 0, none⟩), .int .i64 x] w fun e w' => e = .returned (.int .i64 x) ∧ Tbl X B d jb tb m n N nm sz A f (dn || decide (x = 5)) w' ∧ Below B w w' ∧ ∀ j, j ≠ tb → w'.heap[j]? = w.heap[j]? := by
  by_cases h5 : x = 5
  · subst h5
    have hc : w.cell? ⟨tb, 2, none⟩ = some (.bool dn) := h.row.cells.2.2
    have hf : w.frozen? ⟨tb, 2, none⟩ = false := frozen_of_row w tb 2 _ _ h.row
    have HE := Lib.hid (h.set true)
    rw [show (dn || decide ((5 : Int) = 5)) = true from by simp]
    clear h
    go_enter Try.func23, Try.ntmps23
    go_wp2_with fail
    go_ret
    exact ⟨rfl, HE.out⟩
  · have hx : (x == 5) = false := by simp [h5]
    have HE := Lib.hid h
    rw [show (dn || decide (x = 5)) = dn from by simp [h5]]
    clear h
    go_enter Try.func23, Try.ntmps23
    go_wp2_with fail
    go_ret
    exact ⟨rfl, HE.out, Below.refl _ _, fun _ _ => rfl⟩
theorem encG_ok : ∀ (L : List Cg) (acc : List Nat), acc.length ≤ 1048568 → (∀ z ∈ acc, z < 256) → (∀ c ∈ L, ∀ z ∈ c.val, z < 256) → (encG acc L).2 = 0 → (∀ c ∈ L, soundC c.key c.vn = true) ∧ (encG acc L).1.length ≤ 1048568 ∧ ∀ z ∈ (encG acc L).1, z < 256
  | [], acc, h1, h2, _, _ => ⟨fun c hc => by simp at hc, h1, h2⟩
  | c :: l, acc, h1, h2, h3, h => by
    unfold encG at h ⊢
    by_cases hs : soundC c.key c.vn = false
    · rw [if_pos hs] at h; exact absurd h (show ¬ (1 : Int) = 0 by decide)
    · rw [if_neg hs] at h ⊢
      by_cases hb : 1048568 < (acc ++ chgB c.key c.gone c.val).length
      · rw [if_pos hb] at h; exact absurd h (show ¬ (8 : Int) = 0 by decide)
      · rw [if_neg hb] at h ⊢
        obtain ⟨g1, g2, g3⟩ := encG_ok l _ (by omega) (fun z hz => (List.mem_append.1 hz).elim (h2 z) (chgB_byte c.key c.gone c.val (h3 c List.mem_cons_self) z)) (fun c' hc' => h3 c' (List.mem_cons_of_mem _ hc')) h
        refine ⟨fun c' hc' => ?_, g2, g3⟩
        rcases List.mem_cons.1 hc' with rfl | hc'
        · cases hx : soundC c'.key c'.vn
          · exact absurd hx hs
          · rfl
        · exact g1 c' hc'
theorem encT_ok {L : List Cg} (hv : ∀ c ∈ L, ∀ z ∈ c.val, z < 256) (h : (encT L).2 = 0) : L.length ≤ 256 ∧ (∀ c ∈ L, soundC c.key c.vn = true) ∧ (encT L).1.length ≤ 1048568 ∧ ∀ z ∈ (encT L).1, z < 256 := by
  unfold encT at h ⊢
  by_cases h1 : 256 < L.length
  · rw [if_pos h1] at h; exact absurd h (show ¬ (8 : Int) = 0 by decide)
  · rw [if_neg h1] at h ⊢
    have hc := Cntm.cnt_len10 L.length (by omega)
    exact ⟨by omega, encG_ok L _ (by omega) (Cntm.cnt_byte _) hv h⟩
end Go.Proofs.Ytihbgigledmliaa
