/-
  A disk of the program among blocks of others'; steps in order on it.
-/
import Derived.Test.YtihbgigledmliaaBia
import Derived.Test.YtihbgigledmliaaDkwa
import Derived.Test.YtihbgigledmliaaDnn
namespace Go.Proofs.Ytihbgigledmliaa
open Go.RowKit
set_option linter.unusedVariables false
/-- what others may write, a call of a disk leaves as it was -/
def KpD (X : Nat → Prop) (w w' : World) : Prop := ∀ j, X j → w'.heap[j]? = w.heap[j]?
theorem KpD.refl (X : Nat → Prop) (w : World) : KpD X w w := fun _ _ => rfl
theorem KpD.trans {X : Nat → Prop} {w w1 w2 : World} (h : KpD X w w1) (k : KpD X w1 w2) : KpD X w w2 := fun j hj => (k j hj).trans (h j hj)
theorem KpD.less {X Y : Nat → Prop} {w w' : World} (h : KpD X w w') (hy : ∀ j, Y j → X j) : KpD Y w w' := fun j hj => h j (hy j hj)
theorem KpD.ofBelow {X : Nat → Prop} {w w' : World} (hb : Below w.heap.size w w') (hx : ∀ j, X j → j < w.heap.size) : KpD X w w' := fun j hj => hb.block j (hx j hj)
/-- a disk; X: blocks that are others' -/
structure Dx (X : Nat → Prop) (B d N : Nat) (A : Ad) (w : World) : Prop where
  ex : ∃ S, DK B d S w ∧ RA N S A ∧ ∀ j, X j → ¬ S.own d j
  lt : ∀ j, X j → j < w.heap.size
theorem Dx.mono {X : Nat → Prop} {B d N M : Nat} {A : Ad} {w : World} (h : Dx X B d N A w) (hM : N ≤ M) : Dx X B d M A w := by
  obtain ⟨S, h1, h2, h3⟩ := h.ex
  exact ⟨⟨S, h1, h2.mono hM, h3⟩, h.lt⟩
theorem Dx.base {X : Nat → Prop} {B d N : Nat} {A : Ad} {w : World} (h : Dx X B d N A w) : B ≤ d ∧ d < w.heap.size := by
  obtain ⟨S, h1, h2, h3⟩ := h.ex
  exact ⟨h1.base, h1.lt⟩
/-- others write; other blocks are theirs -/
theorem Dx.more {X Y : Nat → Prop} {B d N : Nat} {A : Ad} {w w' : World} (h : Dx X B d N A w) (hz : w.heap.size ≤ w'.heap.size) (hb : ∀ k, k < w.heap.size → ¬ X k → w'.heap[k]? = w.heap[k]?) (hY : ∀ j, Y j → X j ∨ w.heap.size ≤ j) (hlt : ∀ j, Y j → j < w'.heap.size) : Dx Y B d N A w' := by
  obtain ⟨S, h1, h2, h3⟩ := h.ex
  refine ⟨⟨S, h1.keep fun k hk => hb k (h1.ownLt hk).2 fun hx => h3 k hx hk, h2, fun j hj ho => ?_⟩, hlt⟩
  rcases hY j hj with h5 | h5
  · exact h3 j h5 ho
  · have := (h1.ownLt ho).2; omega
theorem Dx.below {X : Nat → Prop} {B d N : Nat} {A : Ad} {w w' : World} (h : Dx X B d N A w) (hb : Below w.heap.size w w') : Dx X B d N A w' := h.more hb.size (fun k hk _ => hb.block k hk) (fun _ hj => .inl hj) fun j hj => Nat.lt_of_lt_of_le (h.lt j hj) hb.size
theorem Dx.belowY {X Y : Nat → Prop} {B d N : Nat} {A : Ad} {w w' : World} (h : Dx X B d N A w) (hb : Below w.heap.size w w') (hY : ∀ j, Y j → X j ∨ w.heap.size ≤ j) (hlt : ∀ j, Y j → j < w'.heap.size) : Dx Y B d N A w' := h.more hb.size (fun k hk _ => hb.block k hk) hY hlt
theorem Dx.less {X Y : Nat → Prop} {B d N : Nat} {A : Ad} {w : World} (h : Dx X B d N A w) (hY : ∀ j, Y j → X j) : Dx Y B d N A w := h.more (Nat.le_refl _) (fun _ _ _ => rfl) (fun j hj => .inl (hY j hj)) fun j hj => h.lt j (hY j hj)
/-- what a call of a disk leaves -/
def DxR (X : Nat → Prop) (B d N : Nat) (w : World) (r : Ad × Int) (e : Ending) (w' : World) : Prop := e = .returned (.int .i64 r.2) ∧ Dx X B d N r.1 w' ∧ Below B w w' ∧ KpD X w w'
theorem Dx.call {X : Nat → Prop} {B d N N' : Nat} {A : Ad} {r : Ad × Int} {w : World} (h : Dx X B d N A w) {f : FuncId} {xs : Array Value}
    (hc : ∀ S, DK B d S w → RA N S A → (∀ j, X j → ¬ S.own d j) → Calls Try.prog f xs w fun e w' => e = .returned (.int .i64 r.2) ∧ Did B d N' S w r.1 w') :
    Calls Try.prog f xs w (DxR X B d N' w r) := by
  obtain ⟨S, h1, h2, h4⟩ := h.ex
  refine (hc S h1 h2 h4).mono ?_
  rintro e w' ⟨rfl, S', k1, k2, k3⟩
  refine ⟨rfl, ⟨⟨S', k1, k2, fun j hj ho => ?_⟩, fun j hj => Nat.lt_of_lt_of_le (h.lt j hj) k3.size⟩, k3.below h1, fun j hj => k3.block j (h.lt j hj) (h4 j hj)⟩
  rcases k3.own j ho with h5 | h5
  · exact h4 j hj h5
  · have := h.lt j hj; omega
theorem Dx.create {X : Nat → Prop} {B d N : Nat} {A : Ad} {w : World} (h : Dx X B d N A w) (s : ByteArray) (hs : s.size ≤ maxLen) (hN : N < 1000000000) : Calls Try.prog 48 #[.pointer (some ⟨d, 0, none⟩), .string s] w (DxR X B d (N + 3) w (A.step ⟨0, s, ⟨#[]⟩, []⟩)) := h.call fun S h1 h2 _ => acreate h1 h2 s hs hN
theorem Dx.remove {X : Nat → Prop} {B d N : Nat} {A : Ad} {w : World} (h : Dx X B d N A w) (s : ByteArray) (hs : s.size ≤ maxLen) (hN : N < 1000000000) : Calls Try.prog 93 #[.pointer (some ⟨d, 0, none⟩), .string s] w (DxR X B d (N + 3) w (A.step ⟨2, s, ⟨#[]⟩, []⟩)) := h.call fun S h1 h2 _ => aremove h1 h2 s hs hN
theorem Dx.rename {X : Nat → Prop} {B d N : Nat} {A : Ad} {w : World} (h : Dx X B d N A w) (s t : ByteArray) (hs : s.size ≤ maxLen) (ht : t.size ≤ maxLen) (hN : N < 1000000000) : Calls Try.prog 80 #[.pointer (some ⟨d, 0, none⟩), .string s, .string t] w (DxR X B d (N + 3) w (A.step ⟨3, s, t, []⟩)) := h.call fun S h1 h2 _ => arename h1 h2 s t hs ht hN
theorem Dx.sync {X : Nat → Prop} {B d N : Nat} {A : Ad} {w : World} (h : Dx X B d N A w) : Calls Try.prog 50 #[.pointer (some ⟨d, 0, none⟩)] w (DxR X B d (N + 3) w A.sync) := (h.call (N' := N) fun S h1 h2 _ => async h1 h2).mono fun e w' ⟨h1, h2, h3⟩ => ⟨h1, h2.mono (by omega), h3⟩
theorem Dx.append {X : Nat → Prop} {B d N : Nat} {A : Ad} {w : World} (h : Dx X B d N A w) (s : ByteArray) (hs : s.size ≤ maxLen) (pa : Option Addr) (n c : Nat) (ps : List Nat) (hr : Rd w pa n ps) (hno : ∀ b o s, pa = some ⟨b, o, s⟩ → n ≠ 0 → b < B ∨ X b) (hnil : pa = none → c = 0) (hN : N < 1000000000) : Calls Try.prog 57 #[.pointer (some ⟨d, 0, none⟩), .string s, .slice pa n c] w (DxR X B d (N + 3) w (A.step ⟨1, s, ⟨#[]⟩, ps⟩)) := h.call fun S h1 h2 h4 => aappend h1 h2 s hs pa n c ps ⟨hr, fun b o sp e hn ho => by
    rcases hno b o sp e hn with h5 | h5
    · have := (h1.ownLt ho).1; omega
    · exact h4 b h5 ho, hnil⟩ hN
/-- steps up to the first one that has an error -/
def runA : List (Ad → Ad × Int) → Ad → Ad × Int
  | [], A => (A, 0)
  | f :: fs, A => if (f A).2 ≠ 0 then f A else runA fs (f A).1
theorem runA_app : ∀ (l m : List (Ad → Ad × Int)) (A A1 : Ad), runA l A = (A1, 0) → runA (l ++ m) A = runA m A1
  | [], m, A, A1, h => by cases h; rfl
  | f :: l, m, A, A1, h => by
    have e1 : runA (f :: l) A = if (f A).2 ≠ 0 then f A else runA l (f A).1 := rfl
    have e2 : runA (f :: l ++ m) A = if (f A).2 ≠ 0 then f A else runA (l ++ m) (f A).1 := rfl
    rw [e1] at h
    rw [e2]
    by_cases h0 : (f A).2 ≠ 0
    · rw [if_pos h0] at h
      rw [h] at h0
      exact absurd rfl h0
    · rw [if_neg h0] at h ⊢
      exact runA_app l m _ A1 h
theorem runA_at {fs : List (Ad → Ad × Int)} {i : Nat} {f : Ad → Ad × Int} (hf : fs[i]? = some f) {A A1 : Ad} (h : runA (fs.take i) A = (A1, 0)) : ((f A1).2 = 0 → runA (fs.take (i + 1)) A = ((f A1).1, 0)) ∧ ((f A1).2 ≠ 0 → runA fs A = f A1) := by
  refine ⟨fun h0 => ?_, fun h0 => ?_⟩
  · rw [List.take_add_one, hf, runA_app _ _ _ _ h]
    show (if (f A1).2 ≠ 0 then f A1 else ((f A1).1, 0)) = _
    rw [if_neg (by rw [h0]; exact fun h => h rfl)]
  · have hs : fs = fs.take i ++ f :: fs.drop (i + 1) := by
      have hi := (List.getElem?_eq_some_iff.1 hf)
      conv => lhs; rw [← List.take_append_drop i fs]
      rw [List.drop_eq_getElem_cons hi.1, hi.2]
    rw [hs, runA_app _ _ _ _ h]
    show (if (f A1).2 ≠ 0 then f A1 else _) = _
    rw [if_pos h0]
end Go.Proofs.Ytihbgigledmliaa
