/-
  The walks over Index and Cut at one byte, and over the program's media types.
-/
import Derived.Test.YtjoomfikfbbnmaaDoorNmn
import Derived.Lib.Bytealg
namespace Go.Proofs.YtjoomfikfbbnmaaDoor
set_option linter.unusedVariables false
open Go.RowKit Go.Proofs.Nm
theorem below_dn {B : Nat} {a w : World} (h : Below B a w) (n : Nat) : Below B a (w.drewN n) := h.trans ⟨rfl, rfl, rfl, Nat.le_refl _, fun _ _ => rfl⟩
/-- IndexByte of a text -/
theorem ixb (l : List UInt8) (x : UInt8) : Lib.indexByte l x = if x ∈ l then ((cutL x l).1.length : Int) else -1 := by
  induction l with
  | nil => rfl
  | cons c l ih =>
    unfold Lib.indexByte cutL
    by_cases h : c = x
    · subst h
      rw [if_pos (by simp), if_pos (by simp), if_pos (by simp)]
      rfl
    · have h' : (c == x) = false := by simpa using h
      have hx : ¬ x = c := fun e => h e.symm
      rw [h', ih]
      by_cases hm : x ∈ l
      · have e1 : (((cutL x l).1.length : Int) == -1) = false := by rw [beq_eq_false_iff_ne]; omega
        rw [if_pos hm, e1, if_pos (List.mem_cons_of_mem _ hm)]
        simp
      · rw [if_neg hm, if_neg (fun h => (List.mem_cons.1 h).elim hx hm)]
        rfl
set_option maxRecDepth 100000 in
theorem index1_c (l : List UInt8) (x : UInt8) (w : World) (hl : l.length ≤ 140737488351232) :
    Calls Tryd.prog 51 #[.string (T l), .string ⟨#[x]⟩] w fun e w' => e = .returned (.int .i64 (Lib.indexByte l x)) ∧ w' = w := by
  by_cases he : [x] = l
  · have HE := Lib.hid (show Lib.indexByte l x = 0 by rw [← he]; simp [Lib.indexByte])
    have he1 : ([x] == l) = true := by simpa using he
    clear he
    go_enter Tryd.func51, Tryd.ntmps51
    go_wp2
    go_ret
    exact ⟨by rw [HE.out]; rfl, rfl⟩
  · have he1 : ([x] == l) = false := by simpa using he
    clear he
    have HB := stringslite_IndexByte (T l) (x.toNat : Int)
    have HX : ((x.toNat : Int)).toNat.toUInt8 = x := by simp
    rw [HX] at HB
    clear HX
    go_enter Tryd.func51, Tryd.ntmps51
    go_wp2_with (go_at_call 57; (refine (HB _).mono ?_); rintro e w' ⟨rfl, rfl⟩)
    go_ret
    exact ⟨rfl, rfl⟩
theorem ret_cut {a b c d : ByteArray} {f : Bool} (h : a.data.toList = c.data.toList) (k : b.data.toList = d.data.toList) : Ending.returned (.tuple #[.string a, .string b, .bool f]) = .returned (.tuple #[.string c, .string d, .bool f]) := by
  obtain ⟨⟨a⟩⟩ := a
  obtain ⟨⟨b⟩⟩ := b
  obtain ⟨⟨c⟩⟩ := c
  obtain ⟨⟨d⟩⟩ := d
  obtain rfl : a = c := h
  obtain rfl : b = d := k
  rfl
def cutV (x : UInt8) (l : List UInt8) : Value := .tuple #[.string (T (cutL x l).1), .string (T ((cutL x l).2.getD [])), .bool (cutL x l).2.isSome]
set_option maxRecDepth 100000 in
theorem cutlite_c (l : List UInt8) (x : UInt8) (w : World) (hl : l.length ≤ 140737488351232) :
    Calls Tryd.prog 37 #[.string (T l), .string ⟨#[x]⟩] w fun e w' => e = .returned (cutV x l) ∧ Below w.heap.size w w' := by
  have HI := Lib.hid (fun W => index1_c l x W hl)
  rcases cutL_back x l with ⟨r, hr, he⟩ | ⟨hn, he, hx⟩
  · obtain ⟨p, hp⟩ : ∃ p, p = (cutL x l).1 := ⟨_, rfl⟩
    rw [← hp] at he
    have HV := Lib.hid (show cutV x l = .tuple #[.string (T p), .string (T r), .bool true] by unfold cutV; rw [hr, ← hp]; rfl)
    rw [ixb, if_pos (by rw [he]; simp), ← hp] at HI
    clear hr hp
    have hz : (T l).size = p.length + (r.length + 1) := by rw [he]; simp [ByteArray.size]
    have hpl : p.length + 1 ≤ l.length := by rw [he]; simp
    have HE := Lib.hid he
    clear he
    go_enter Tryd.func37, Tryd.ntmps37
    go_wp2_with (go_at_call 51; (refine (HI.out _).mono ?_); rintro e w' ⟨rfl, rfl⟩)
    go_quiet (fail)
    go_wp2
    go_ret3
    refine ⟨?_, ?_⟩
    · rw [HV.out]
      exact ret_cut (by rw [Lib.extract_data, HE.out]; simp) (by rw [Lib.extract_data, HE.out]; simp; exact List.take_of_length_le (by omega))
    · exact below_dn (Below.refl _ _) _
  · rw [ixb, if_neg hx] at HI
    have HV := Lib.hid (show cutV x l = .tuple #[.string (T l), .string (T []), .bool false] by unfold cutV; rw [hn, ← he]; rfl)
    clear hn he hx
    go_enter Tryd.func37, Tryd.ntmps37
    go_wp2_with (go_at_call 51; (refine (HI.out _).mono ?_); rintro e w' ⟨rfl, rfl⟩)
    go_ret3
    exact ⟨HV.out.symm ▸ rfl, Below.refl _ _⟩

theorem cut_c (l : List UInt8) (x : UInt8) (w : World) (hl : l.length ≤ 140737488351232) :
    Calls Tryd.prog 26 #[.string (T l), .string ⟨#[x]⟩] w fun e w' => e = .returned (cutV x l) ∧ Below w.heap.size w w' := by
  have HC := Lib.hid (fun W => cutlite_c l x W hl)
  unfold cutV at HC ⊢
  go_enter Tryd.func26, Tryd.ntmps26
  go_wp2_with (go_at_call 37; (refine (HC.out _).mono ?_); rintro e w1 ⟨rfl, hb⟩; have HB := Lib.hid hb; clear hb)
  go_ret3
  exact ⟨rfl, HB.out⟩
theorem cutL_lens (x : UInt8) (l : List UInt8) : (cutL x l).1.length ≤ l.length ∧ ((cutL x l).2.getD []).length ≤ l.length := by
  rcases cutL_back x l with ⟨r, hr, he⟩ | ⟨hn, he, _⟩
  · rw [hr]
    have := congrArg List.length he
    simp only [List.length_append, List.length_cons] at this
    exact ⟨by omega, by show r.length ≤ _; omega⟩
  · rw [hn, ← he]
    exact ⟨Nat.le_refl _, by simp⟩
set_option maxRecDepth 100000 in
theorem media_c (l : List UInt8) (w : World) (hl : l.length ≤ 140737488351232) :
    Calls Tryd.prog 15 #[.string (T l)] w fun e w' => e = .returned (.bool (mediaL l && decide (l.length ≤ 127))) ∧ Below w.heap.size w w' := by
  have HC := Lib.hid (fun W => cut_c l 47 W hl)
  unfold cutV at HC
  obtain ⟨h1, h2⟩ := cutL_lens 47 l
  have HM := Lib.hid (show mediaL l = ((cutL 47 l).2.isSome && (halfL (cutL 47 l).1 && halfL ((cutL 47 l).2.getD []))) by
    unfold mediaL
    cases (cutL 47 l).2 <;> rfl)
  obtain ⟨p, hp⟩ : ∃ p, p = (cutL 47 l).1 := ⟨_, rfl⟩
  obtain ⟨r, hr⟩ : ∃ r, r = (cutL 47 l).2.getD [] := ⟨_, rfl⟩
  obtain ⟨f, hf⟩ : ∃ f, f = (cutL 47 l).2.isSome := ⟨_, rfl⟩
  rw [← hp, ← hr, ← hf] at HC HM
  rw [← hp] at h1
  rw [← hr] at h2
  clear hp hr hf
  have H1 := Lib.hid (fun W => half_c p W (by omega))
  have H2 := Lib.hid (fun W => half_c r W (by omega))
  have hz : (T l).size = l.length := by simp [ByteArray.size]
  have HZ := Lib.hid hz
  clear hz
  cases f with
  | false =>
    go_enter Tryd.func15, Tryd.ntmps15
    go_wp2_with (go_at_call 26; (refine (HC.out _).mono ?_); rintro e w1 ⟨rfl, hb⟩; have HB := Lib.hid hb; clear hb)
    go_ret
    exact ⟨ret_bool (by rw [HM.out]; rfl), HB.out⟩
  | true =>
    by_cases h127 : l.length ≤ 127
    · have h127' : (l.length : Int) ≤ 127 := by omega
      have HM2 := Lib.hid (show (mediaL l && decide (l.length ≤ 127)) = (halfL p && halfL r) by rw [HM.out, decide_eq_true h127]; simp)
      clear h127 HM
      cases ha : halfL p with
      | false =>
        rw [ha] at H1 HM2
        clear ha
        go_enter Tryd.func15, Tryd.ntmps15
        go_wp2_with (first | (go_at_call 26; (refine (HC.out _).mono ?_); rintro e w1 ⟨rfl, hb⟩; have HB := Lib.hid hb; clear hb HC) | (go_at_call 27; (refine (H1.out _).mono ?_); rintro e w2 ⟨rfl, hb⟩; have HB2 := Lib.hid hb; clear hb H1))
        go_ret
        exact ⟨ret_bool (by rw [HM2.out]; rfl), HB.out.trans (HB2.out.mono HB.out.size)⟩
      | true =>
        rw [ha] at H1 HM2
        clear ha
        go_enter Tryd.func15, Tryd.ntmps15
        go_wp2_with (first | (go_at_call 26; (refine (HC.out _).mono ?_); rintro e w1 ⟨rfl, hb⟩; have HB := Lib.hid hb; clear hb HC) | (go_at_call 27; (first | ((refine (H1.out _).mono ?_); clear H1; rintro e w2 ⟨rfl, hb⟩; have HB2 := Lib.hid hb; clear hb) | ((refine (H2.out _).mono ?_); clear H2; rintro e w3 ⟨rfl, hb⟩; have HB3 := Lib.hid hb; clear hb))))
        go_ret
        exact ⟨ret_bool (by rw [HM2.out]; rfl), (HB.out.trans (HB2.out.mono HB.out.size)).trans (HB3.out.mono (Nat.le_trans HB.out.size HB2.out.size))⟩
    · have h127' : 127 < (l.length : Int) := by omega
      have HM2 := Lib.hid (show (mediaL l && decide (l.length ≤ 127)) = false by rw [decide_eq_false h127]; simp)
      clear h127
      go_enter Tryd.func15, Tryd.ntmps15
      go_wp2_with (go_at_call 26; (refine (HC.out _).mono ?_); rintro e w1 ⟨rfl, hb⟩; have HB := Lib.hid hb; clear hb)
      go_ret
      exact ⟨ret_bool (by rw [HM2.out]), HB.out⟩
end Go.Proofs.YtjoomfikfbbnmaaDoor
