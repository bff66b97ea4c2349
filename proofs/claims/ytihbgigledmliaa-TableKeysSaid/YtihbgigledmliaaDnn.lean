/-
  A disk in memory is the document's: what is told of it.
-/
import Derived.Test.YtihbgigledmliaaDnm
import Derived.Test.YtihbgigledmliaaDkwa
namespace Go.Proofs.Ytihbgigledmliaa
open Go.RowKit Go.Maps Go.Sort
set_option linter.unusedVariables false
/-- what Names answers -/
def NmA (A : Ad) (head : ByteArray) (w : World) (e : Ending) (w' : World) : Prop := if A.down then e = .returned (.tuple #[.slice none 0 0, .int .i64 5]) ∧ w' = w else NmT A.now head w e w'
theorem at_small {B d N : Nat} {S : Dsk} {A : Ad} {w : World} (h : DK B d S w) (r : RA N S A) (s : ByteArray) (hs : (S.at s).isSome = true) : s.size ≤ 160 := by
  cases e : S.at s with
  | none => rw [e] at hs; cases hs
  | some b =>
    obtain ⟨f, hf, hn⟩ := h.rest.at e
    rw [← hn]
    exact r.nms b f hf
/-- what Read answers -/
def RdA (A : Ad) (s : ByteArray) (x n : Int) (w : World) (e : Ending) (w' : World) : Prop :=
  if A.down then e = .returned (.tuple #[.slice none 0 0, .int .i64 5]) ∧ w' = w else match lookF A.now s with
  | none => e = .returned (.tuple #[.slice none 0 0, .int .i64 6]) ∧ w' = w
  | some z => if x < 0 ∨ n < 0 then e = .returned (.tuple #[.slice none 0 0, .int .i64 1]) ∧ w' = w else
    ∃ va vn vc, e = .returned (.tuple #[.slice va vn vc, .int .i64 0]) ∧ Own w' w.heap.size (.slice va vn vc) ((z.drop x.toNat).take n.toNat) ∧ vn = ((z.drop x.toNat).take n.toNat).length ∧ (∀ y ∈ (z.drop x.toNat).take n.toNat, y < 256) ∧ Below w.heap.size w w'
theorem aread {B d N : Nat} {S : Dsk} {A : Ad} {w : World} (h : DK B d S w) (r : RA N S A) (s : ByteArray) (hs : s.size ≤ maxLen) (x n : Int) : Calls Try.prog 46 #[.pointer (some ⟨d, 0, none⟩), .string s, .int .i64 x, .int .i64 n] w (RdA A s x n w) := by
  unfold RdA
  rcases down_cases A with hd | hd
  · rw [hd]
    have hf := find_down (s := s) (r.down.trans hd)
    refine (dread_no h s hs x n (by rw [hf]; decide)).mono ?_
    rw [hf]
    rintro e w' ⟨rfl, rfl⟩
    exact ⟨rfl, rfl⟩
  · rw [hd]
    have hdS := r.down.trans hd
    simp only [Bool.false_eq_true, if_false]
    cases ha : S.at s with
    | none =>
      rw [r.none ha]
      have hf := find_none hdS ha
      refine (dread_no h s hs x n (by rw [hf]; decide)).mono ?_
      rw [hf]
      rintro e w' ⟨rfl, rfl⟩
      exact ⟨rfl, rfl⟩
    | some b =>
      obtain ⟨f, hfl, hfs⟩ := h.rest.at ha
      rw [r.has ha hfl]
      simp only
      by_cases hb : x < 0 ∨ n < 0
      · simp only [if_pos hb]
        exact dread_bad h s hs x n hdS ha hb
      · simp only [if_neg hb]
        exact dread_ok h s hs x n hdS ha hfl (by omega) (by omega) (by have := r.zsl b f hfl; omega)
/-- what Size answers -/
def SzA (A : Ad) (s : ByteArray) (w : World) (e : Ending) (w' : World) : Prop := w' = w ∧
  if A.down then e = .returned (.tuple #[.int .i64 0, .int .i64 5]) else match lookF A.now s with
  | none => e = .returned (.tuple #[.int .i64 0, .int .i64 6])
  | some z => e = .returned (.tuple #[.int .i64 (z.length : Int), .int .i64 0])
end Go.Proofs.Ytihbgigledmliaa
