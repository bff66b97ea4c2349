/-
  A disk in memory is the document's: what is told of it.
-/
import Derived.Test.YtmomdfmilelilaaDoorDnm
import Derived.Test.YtmomdfmilelilaaDoorDkw
namespace Go.Proofs.YtmomdfmilelilaaDoor
open Go.RowKit Go.Maps Go.Sort
set_option linter.unusedVariables false
set_option maxRecDepth 100000 in
theorem dnames_down {B d : Nat} {S : Dsk} {w : World} (h : DK B d S w) (hd : S.down = true) (head : ByteArray) : Calls Tryd.prog 32 #[.pointer (some ⟨d, 0, none⟩), .string head] w fun e w' => e = .returned (.tuple #[.slice none 0 0, .int .i64 5]) ∧ w' = w := by
  have HR := Lib.hid (dready_c h)
  rw [hd] at HR
  clear h
  go_enter Tryd.func32, Tryd.ntmps32
  go_wp2_with fail
  refine HR.out.mono ?_
  rintro e1 w1 ⟨rfl, rfl⟩
  go_wp2_with fail
  go_ret2
  exact ⟨rfl, rfl⟩
set_option maxRecDepth 100000 in
set_option maxHeartbeats 4000000 in
theorem dnames_nil {B d : Nat} {S : Dsk} {w : World} (h : DK B d S w) (hd : S.down = false) (hm : S.mb = none) (head : ByteArray) : Calls Tryd.prog 32 #[.pointer (some ⟨d, 0, none⟩), .string head] w fun e w' => e = .returned (.tuple #[.slice none 0 0, .int .i64 0]) ∧ Below w.heap.size w w' := by
  have HR := Lib.hid (dready_c h)
  rw [hd] at HR
  have c1 := h.cells.2.1
  rw [hm] at c1
  have hrg := fun W => run_range_nilMap (P := Tryd.prog) W 50 9 73 Tryd.underlying50
  have hnx : ∀ (W : World) ty, (Instr.next (.pointer (some ⟨W.heap.size, 0, none⟩)) false ty).run Tryd.prog (W.alloc (.mapIter none 0 #[] 0)) = _ := fun W ty => run_next_nilMap W ty 0 0 #[]
  clear h
  go_enter Tryd.func32, Tryd.ntmps32
  go_wp2_with fail
  refine HR.out.mono ?_
  rintro e1 w1 ⟨rfl, rfl⟩
  go_wp2_with fail
  refine wp_loop_rounds 1 ?_
  rw [rounds_succ]
  go_wp2_with fail
  refine (slices_Sort_string_none none 0 _).mono ?_
  rintro e3 w3 ⟨rfl, rfl⟩
  go_wp2_with fail
  go_ret2
  exact ⟨rfl, (Below.refl _ _).alloc (Nat.le_refl _) _⟩
/-- what Names answers -/
def NmA (A : Ad) (head : ByteArray) (w : World) (e : Ending) (w' : World) : Prop := if A.down then e = .returned (.tuple #[.slice none 0 0, .int .i64 5]) ∧ w' = w else NmT A.now head w e w'
theorem at_small {B d N : Nat} {S : Dsk} {A : Ad} {w : World} (h : DK B d S w) (r : RA N S A) (s : ByteArray) (hs : (S.at s).isSome = true) : s.size ≤ 160 := by
  cases e : S.at s with
  | none => rw [e] at hs; cases hs
  | some b =>
    obtain ⟨f, hf, hn⟩ := h.rest.at e
    rw [← hn]
    exact r.nms b f hf
theorem anames {B d N : Nat} {S : Dsk} {A : Ad} {w : World} (h : DK B d S w) (r : RA N S A) (head : ByteArray) (hz : A.now.length ≤ 100000) : Calls Tryd.prog 32 #[.pointer (some ⟨d, 0, none⟩), .string head] w (NmA A head w) := by
  unfold NmA
  rcases down_cases A with hd | hd
  · rw [hd]
    exact dnames_down h (r.down.trans hd) head
  · rw [hd]
    have hdS := r.down.trans hd
    cases hm : S.mb with
    | none =>
      have hD : A.now = [] := by
        have h1 := r.size
        rcases h.rest.hm with ⟨_, h2⟩ | ⟨m, h2, _⟩
        · rw [h2] at h1
          exact List.eq_nil_of_length_eq_zero h1.symm
        · rw [hm] at h2; cases h2
      refine (dnames_nil h hdS hm head).mono ?_
      rintro e w' ⟨rfl, hb⟩
      simp only [Bool.false_eq_true, if_false]
      rw [hD]
      exact ⟨none, 0, 0, rfl, World.ownsRow_nil _ _ _ _, rfl, hb⟩
    | some m => exact dnames_loop h hdS hm head (by rw [r.size]; exact hz) (fun s hs => at_small h r s hs) r.js
/-- what Read answers -/
def RdA (A : Ad) (s : ByteArray) (x n : Int) (w : World) (e : Ending) (w' : World) : Prop :=
  if A.down then e = .returned (.tuple #[.slice none 0 0, .int .i64 5]) ∧ w' = w else match lookF A.now s with
  | none => e = .returned (.tuple #[.slice none 0 0, .int .i64 6]) ∧ w' = w
  | some z => if x < 0 ∨ n < 0 then e = .returned (.tuple #[.slice none 0 0, .int .i64 1]) ∧ w' = w else
    ∃ va vn vc, e = .returned (.tuple #[.slice va vn vc, .int .i64 0]) ∧ Own w' w.heap.size (.slice va vn vc) ((z.drop x.toNat).take n.toNat) ∧ vn = ((z.drop x.toNat).take n.toNat).length ∧ (∀ y ∈ (z.drop x.toNat).take n.toNat, y < 256) ∧ Below w.heap.size w w'
theorem aread {B d N : Nat} {S : Dsk} {A : Ad} {w : World} (h : DK B d S w) (r : RA N S A) (s : ByteArray) (hs : s.size ≤ maxLen) (x n : Int) : Calls Tryd.prog 57 #[.pointer (some ⟨d, 0, none⟩), .string s, .int .i64 x, .int .i64 n] w (RdA A s x n w) := by
  unfold RdA
  rcases down_cases A with hd | hd
  · rw [hd]
    have hf := find_down (s := s) (r.down.trans hd)
    refine (dread_no h s hs x n (by rw [hf]; decide)).mono ?_
    rw [hf]
    rintro e w' ⟨rfl, rfl⟩
    exact ⟨rfl, rfl⟩
  · rw [hd]
    have hdS := r.down.trans hd
    simp only [Bool.false_eq_true, if_false]
    cases ha : S.at s with
    | none =>
      rw [r.none ha]
      have hf := find_none hdS ha
      refine (dread_no h s hs x n (by rw [hf]; decide)).mono ?_
      rw [hf]
      rintro e w' ⟨rfl, rfl⟩
      exact ⟨rfl, rfl⟩
    | some b =>
      obtain ⟨f, hfl, hfs⟩ := h.rest.at ha
      rw [r.has ha hfl]
      simp only
      by_cases hb : x < 0 ∨ n < 0
      · simp only [if_pos hb]
        exact dread_bad h s hs x n hdS ha hb
      · simp only [if_neg hb]
        exact dread_ok h s hs x n hdS ha hfl (by omega) (by omega) (by have := r.zsl b f hfl; omega)
/-- what Size answers -/
def SzA (A : Ad) (s : ByteArray) (w : World) (e : Ending) (w' : World) : Prop := w' = w ∧
  if A.down then e = .returned (.tuple #[.int .i64 0, .int .i64 5]) else match lookF A.now s with
  | none => e = .returned (.tuple #[.int .i64 0, .int .i64 6])
  | some z => e = .returned (.tuple #[.int .i64 (z.length : Int), .int .i64 0])
theorem asize {B d N : Nat} {S : Dsk} {A : Ad} {w : World} (h : DK B d S w) (r : RA N S A) (s : ByteArray) (hs : s.size ≤ maxLen) : Calls Tryd.prog 24 #[.pointer (some ⟨d, 0, none⟩), .string s] w (SzA A s w) := by
  unfold SzA
  rcases down_cases A with hd | hd
  · rw [hd]
    have hf := find_down (s := s) (r.down.trans hd)
    refine (dsize_no h s hs (by rw [hf]; decide)).mono ?_
    rw [hf]
    rintro e w' ⟨rfl, rfl⟩
    exact ⟨rfl, rfl⟩
  · rw [hd]
    have hdS := r.down.trans hd
    simp only [Bool.false_eq_true, if_false]
    cases ha : S.at s with
    | none =>
      rw [r.none ha]
      have hf := find_none hdS ha
      refine (dsize_no h s hs (by rw [hf]; decide)).mono ?_
      rw [hf]
      rintro e w' ⟨rfl, rfl⟩
      exact ⟨rfl, rfl⟩
    | some b =>
      obtain ⟨f, hfl, hfs⟩ := h.rest.at ha
      rw [r.has ha hfl]
      refine (dsize_ok h s hs hdS ha hfl).mono ?_
      rintro e w' ⟨rfl, rfl⟩
      exact ⟨rfl, rfl⟩
end Go.Proofs.YtmomdfmilelilaaDoor
