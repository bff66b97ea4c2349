/-
  The walks over Index and Cut at one byte, and over the program's media types.
-/
import Derived.Test.YtjjkfbebaoikbaaDoorNmn
import Derived.Lib.Bytealg
namespace Go.Proofs.YtjjkfbebaoikbaaDoor
set_option linter.unusedVariables false
open Go.RowKit Go.Proofs.Nm
theorem below_dn {B : Nat} {a w : World} (h : Below B a w) (n : Nat) : Below B a (w.drewN n) := h.trans ⟨rfl, rfl, rfl, Nat.le_refl _, fun _ _ => rfl⟩
/-- IndexByte of a text -/
theorem ixb (l : List UInt8) (x : UInt8) : Lib.indexByte l x = if x ∈ l then ((cutL x l).1.length : Int) else -1 := by
  induction l with
  | nil => rfl
  | cons c l ih =>
    unfold Lib.indexByte cutL
    by_cases h : c = x
    · subst h
      rw [if_pos (by simp), if_pos (by simp), if_pos (by simp)]
      rfl
    · have h' : (c == x) = false := by simpa using h
      have hx : ¬ x = c := fun e => h e.symm
      rw [h', ih]
      by_cases hm : x ∈ l
      · have e1 : (((cutL x l).1.length : Int) == -1) = false := by rw [beq_eq_false_iff_ne]; omega
        rw [if_pos hm, e1, if_pos (List.mem_cons_of_mem _ hm)]
        simp
      · rw [if_neg hm, if_neg (fun h => (List.mem_cons.1 h).elim hx hm)]
        rfl
set_option maxRecDepth 100000 in
theorem index1_c (l : List UInt8) (x : UInt8) (w : World) (hl : l.length ≤ 140737488351232) :
    Calls Tryd.prog 63 #[.string (T l), .string ⟨#[x]⟩] w fun e w' => e = .returned (.int .i64 (Lib.indexByte l x)) ∧ w' = w := by
  by_cases he : [x] = l
  · have HE := Lib.hid (show Lib.indexByte l x = 0 by rw [← he]; simp [Lib.indexByte])
    have he1 : ([x] == l) = true := by simpa using he
    clear he
    go_enter Tryd.func63, Tryd.ntmps63
    go_wp2
    go_ret
    exact ⟨by rw [HE.out]; rfl, rfl⟩
  · have he1 : ([x] == l) = false := by simpa using he
    clear he
    have HB := stringslite_IndexByte (T l) (x.toNat : Int)
    have HX : ((x.toNat : Int)).toNat.toUInt8 = x := by simp
    rw [HX] at HB
    clear HX
    go_enter Tryd.func63, Tryd.ntmps63
    go_wp2_with (go_at_call 67; (refine (HB _).mono ?_); rintro e w' ⟨rfl, rfl⟩)
    go_ret
    exact ⟨rfl, rfl⟩
theorem ret_cut {a b c d : ByteArray} {f : Bool} (h : a.data.toList = c.data.toList) (k : b.data.toList = d.data.toList) : Ending.returned (.tuple #[.string a, .string b, .bool f]) = .returned (.tuple #[.string c, .string d, .bool f]) := by
  obtain ⟨⟨a⟩⟩ := a
  obtain ⟨⟨b⟩⟩ := b
  obtain ⟨⟨c⟩⟩ := c
  obtain ⟨⟨d⟩⟩ := d
  obtain rfl : a = c := h
  obtain rfl : b = d := k
  rfl
def cutV (x : UInt8) (l : List UInt8) : Value := .tuple #[.string (T (cutL x l).1), .string (T ((cutL x l).2.getD [])), .bool (cutL x l).2.isSome]
theorem cutL_lens (x : UInt8) (l : List UInt8) : (cutL x l).1.length ≤ l.length ∧ ((cutL x l).2.getD []).length ≤ l.length := by
  rcases cutL_back x l with ⟨r, hr, he⟩ | ⟨hn, he, _⟩
  · rw [hr]
    have := congrArg List.length he
    simp only [List.length_append, List.length_cons] at this
    exact ⟨by omega, by show r.length ≤ _; omega⟩
  · rw [hn, ← he]
    exact ⟨Nat.le_refl _, by simp⟩
end Go.Proofs.YtjjkfbebaoikbaaDoor
