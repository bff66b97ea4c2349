/-
  The walks over the program's names: parts, tags, halves, media types.
-/
import Derived.Test.YtjjkfbebaoikbaaDoorNmw
namespace Go.Proofs.YtjjkfbebaoikbaaDoor
set_option linter.unusedVariables false
open Go.RowKit Go.Proofs.Nm
def runL : List UInt8 := [97, 98, 99, 100, 101, 102, 103, 104, 105, 106, 107, 108, 109, 110, 111, 112, 113, 114, 115, 116, 117, 118, 119, 120, 121, 122, 48, 49, 50, 51, 52, 53, 54, 55, 56, 57]
theorem all_bytes {f g : UInt8 → Bool} (h : ∀ n, n < 256 → f (UInt8.ofNat n) = g (UInt8.ofNat n)) (c : UInt8) : f c = g c := by
  have := h c.toNat c.toNat_lt
  rwa [UInt8.ofNat_toNat] at this
theorem run_small : (fun c => runL.contains c) = smallB := by
  funext c
  exact all_bytes (by decide +kernel) c
theorem trim_run (l : List UInt8) (w : World) :
    Calls Tryd.prog 51 #[.string (T l), .string ⟨#[97, 98, 99, 100, 101, 102, 103, 104, 105, 106, 107, 108, 109, 110, 111, 112, 113, 114, 115, 116, 117, 118, 119, 120, 121, 122, 48, 49, 50, 51, 52, 53, 54, 55, 56, 57]⟩] w fun e w' => e = .returned (.string (T (l.dropWhile smallB))) ∧ Below w.heap.size w w' := by
  rw [← run_small]
  exact trim_c l runL w (by decide) (by decide)
theorem trim_dash (l : List UInt8) (w : World) :
    Calls Tryd.prog 51 #[.string (T l), .string ⟨#[45]⟩] w fun e w' => e = .returned (.string (T (l.dropWhile (· == 45)))) ∧ Below w.heap.size w w' := by
  have h : (fun c : UInt8 => c == 45) = (fun c => [45].contains c) := by funext c; rw [Bool.eq_iff_iff]; simp
  rw [h]
  exact trim_c l [45] w (by decide) (by decide)
theorem T_eq {a : ByteArray} {l : List UInt8} (h : a.data.toList = l) : a = T l := by
  obtain ⟨⟨a⟩⟩ := a
  obtain rfl : a = l := h
  rfl
theorem ret_str {a b : ByteArray} (h : a.data.toList = b.data.toList) : Ending.returned (.string a) = .returned (.string b) := by
  obtain ⟨⟨a⟩⟩ := a
  obtain ⟨⟨b⟩⟩ := b
  obtain rfl : a = b := h
  rfl
theorem prefix_c (l p : List UInt8) (b : Bool) (hb : Lib.hasPrefix l p = b) (w : World) :
    Calls Tryd.prog 61 #[.string (T l), .string (T p)] w fun e w' => e = .returned (.bool b) ∧ w' = w := by
  rw [← hb]
  exact strings_HasPrefix (T l) (T p) w
theorem sep_other (l : List UInt8) (w : World) (h1 : Lib.hasPrefix l [45] = false) (h2 : Lib.hasPrefix l [95, 95] = false) (h3 : Lib.hasPrefix l [95] = false) (h4 : Lib.hasPrefix l [46] = false) :
    Calls Tryd.prog 52 #[.string (T l)] w fun e w' => e = .returned (.string (T l)) ∧ Below w.heap.size w w' := by
  have P1 := prefix_c l [45] false h1
  have P2 := prefix_c l [95, 95] false h2
  have P3 := prefix_c l [95] false h3
  have P4 := prefix_c l [46] false h4
  clear h1 h2 h3 h4
  go_enter Tryd.func52, Tryd.ntmps52
  go_wp2_with (go_at_call 61; (first | (with_reducible refine (P1 _).mono ?_) | (with_reducible refine (P2 _).mono ?_) | (with_reducible refine (P3 _).mono ?_) | (with_reducible refine (P4 _).mono ?_)); rintro e w' ⟨rfl, rfl⟩)
  go_ret
  exact ⟨rfl, Below.refl _ _⟩
theorem sep_two (m : List UInt8) (w : World) (hm : m.length ≤ 140737488351232) :
    Calls Tryd.prog 52 #[.string (T (95 :: 95 :: m))] w fun e w' => e = .returned (.string (T m)) ∧ Below w.heap.size w w' := by
  have P1 := prefix_c (95 :: 95 :: m) [45] false rfl
  have P2 := prefix_c (95 :: 95 :: m) [95, 95] true (by simp [Lib.hasPrefix])
  go_enter Tryd.func52, Tryd.ntmps52
  go_wp2_with (go_at_call 61; (first | (with_reducible refine (P1 _).mono ?_) | (with_reducible refine (P2 _).mono ?_)); rintro e w' ⟨rfl, rfl⟩)
  go_ret
  exact ⟨ret_str (by rw [Lib.extract_data]; simp), Below.refl _ _⟩
theorem sep_one (m : List UInt8) (w : World) (hm : m.length ≤ 140737488351232) (h2 : Lib.hasPrefix (95 :: m) [95, 95] = false) :
    Calls Tryd.prog 52 #[.string (T (95 :: m))] w fun e w' => e = .returned (.string (T m)) ∧ Below w.heap.size w w' := by
  have P1 := prefix_c (95 :: m) [45] false rfl
  have P2 := prefix_c (95 :: m) [95, 95] false h2
  have P3 := prefix_c (95 :: m) [95] true (by simp [Lib.hasPrefix])
  clear h2
  go_enter Tryd.func52, Tryd.ntmps52
  go_wp2_with (go_at_call 61; (first | (with_reducible refine (P1 _).mono ?_) | (with_reducible refine (P2 _).mono ?_) | (with_reducible refine (P3 _).mono ?_)); rintro e w' ⟨rfl, rfl⟩)
  go_ret
  exact ⟨ret_str (by rw [Lib.extract_data]; simp), Below.refl _ _⟩
theorem sep_dot (m : List UInt8) (w : World) (hm : m.length ≤ 140737488351232) :
    Calls Tryd.prog 52 #[.string (T (46 :: m))] w fun e w' => e = .returned (.string (T m)) ∧ Below w.heap.size w w' := by
  have P1 := prefix_c (46 :: m) [45] false rfl
  have P2 := prefix_c (46 :: m) [95, 95] false rfl
  have P3 := prefix_c (46 :: m) [95] false rfl
  have P4 := prefix_c (46 :: m) [46] true (by simp [Lib.hasPrefix])
  go_enter Tryd.func52, Tryd.ntmps52
  go_wp2_with (go_at_call 61; (first | (with_reducible refine (P1 _).mono ?_) | (with_reducible refine (P2 _).mono ?_) | (with_reducible refine (P3 _).mono ?_) | (with_reducible refine (P4 _).mono ?_)); rintro e w' ⟨rfl, rfl⟩)
  go_ret
  exact ⟨ret_str (by rw [Lib.extract_data]; simp), Below.refl _ _⟩
theorem sep_dash (m : List UInt8) (w : World) (hm : m.length ≤ 140737488351232) :
    Calls Tryd.prog 52 #[.string (T (45 :: m))] w fun e w' => e = .returned (.string (T (m.dropWhile (· == 45)))) ∧ Below w.heap.size w w' := by
  have P1 := prefix_c (45 :: m) [45] true (by simp [Lib.hasPrefix])
  have P2 := trim_dash (45 :: m)
  rw [show (45 :: m).dropWhile (· == 45) = m.dropWhile (· == 45) from by rw [List.dropWhile_cons, if_pos (by rfl)]] at P2
  go_enter Tryd.func52, Tryd.ntmps52
  go_wp2_with (first | (go_at_call 61; (with_reducible refine (P1 _).mono ?_); rintro e w' ⟨rfl, rfl⟩) | (go_at_call 51; (with_reducible refine (P2 _).mono ?_); rintro e w1 ⟨rfl, hb⟩; have HB := Lib.hid hb; clear hb))
  go_ret
  exact ⟨rfl, HB.out⟩
theorem sep_c (l : List UInt8) (w : World) (hl : l.length ≤ 140737488351232) :
    Calls Tryd.prog 52 #[.string (T l)] w fun e w' => e = .returned (.string (T (aftS l))) ∧ Below w.heap.size w w' := by
  cases l with
  | nil => exact sep_other [] w rfl rfl rfl rfl
  | cons c m =>
    simp only [List.length_cons] at hl
    by_cases h1 : c = 45
    · subst h1
      exact sep_dash m w (by omega)
    by_cases h2 : c = 95
    · subst h2
      cases m with
      | nil => exact sep_one [] w (by simp) rfl
      | cons d m =>
        simp only [List.length_cons] at hl
        by_cases h3 : d = 95
        · subst h3
          exact sep_two m w (by omega)
        · have e : aftS (95 :: d :: m) = d :: m := by dsimp only [aftS]; rw [if_neg (by decide), if_pos (by rfl), if_neg (by simpa using h3)]
          rw [e]
          exact sep_one (d :: m) w (by simp; omega) (by simp [Lib.hasPrefix, List.isPrefixOf]; intro h; exact absurd h.symm h3)
    by_cases h3 : c = 46
    · subst h3
      exact sep_dot m w (by omega)
    have e : aftS (c :: m) = c :: m := by dsimp only [aftS]; rw [if_neg (by simpa using h1), if_neg (by simpa using h2), if_neg (by simpa using h3)]
    rw [e]
    have n : ∀ (x : UInt8) (r : List UInt8), c ≠ x → Lib.hasPrefix (c :: m) (x :: r) = false := fun x r h => by
      simp [Lib.hasPrefix, List.isPrefixOf]; intro h'; exact absurd h'.symm h
    exact sep_other (c :: m) w (n _ _ h1) (n _ _ h2) (n _ _ h2) (n _ _ h3)

set_option maxRecDepth 100000 in
set_option maxHeartbeats 4000000 in
theorem part_c (l : List UInt8) (w : World) (hl : l.length ≤ 140737488351232) (hs : 47 ∉ l) :
    Calls Tryd.prog 43 #[.string (T l)] w fun e w' => e = .returned (.bool (goR 2 l)) ∧ Below w.heap.size w w' := by
  have HS := Lib.hid hs
  clear hs
  go_enter Tryd.func43, Tryd.ntmps43
  go_wp2
  go_loopw [0] (fun v wr => ∃ m : List UInt8, v = .string (T m) ∧ m.length ≤ l.length ∧ Hid (47 ∉ m ∧ goR 2 l = goR 2 m ∧ Below w.heap.size w wr)) (fun v _ => match v with | .string s => s.size | _ => 0)
  case atStart => exact ⟨l, rfl, Nat.le_refl _, Lib.hid ⟨HS.out, rfl, Below.refl _ _⟩⟩
  case round =>
    clear HS
    obtain ⟨m, rfl, hm, H⟩ := hrel
    obtain ⟨r, hr⟩ : ∃ r, r = m.dropWhile smallB := ⟨_, rfl⟩
    have HT := Lib.hid (trim_run m)
    rw [← hr] at HT
    have hrl : r.length ≤ m.length := by rw [hr]; exact (List.dropWhile_sublist _).length_le
    by_cases he : r.length = m.length
    · have HE := Lib.hid (show goR 2 l = false by rw [H.out.2.1]; exact goR_none m (by rw [← hr]; exact he) H.out.1)
      have he1 : ((r.length : Int) == (m.length : Int)) = true := by rw [he]; simp
      clear he hr
      go_wp2_with (go_at_call 51; (with_reducible refine (HT.out _).mono ?_); rintro e w1 ⟨rfl, hb⟩; have HB := Lib.hid hb; clear hb)
      go_ret
      exact ⟨ret_bool HE.out.symm, H.out.2.2.trans (HB.out.mono H.out.2.2.size)⟩
    · have he1 : ((r.length : Int) == (m.length : Int)) = false := by simp; omega
      cases hr0 : r with
      | nil =>
        have HE := Lib.hid (show goR 2 l = true by rw [H.out.2.1, goR_round m (by rw [← hr]; exact fun h => he (by rw [h])), ← hr, hr0]; rfl)
        subst hr0
        clear he hr
        go_wp2_with (go_at_call 51; (with_reducible refine (HT.out _).mono ?_); rintro e w1 ⟨rfl, hb⟩; have HB := Lib.hid hb; clear hb)
        go_ret
        exact ⟨ret_bool HE.out.symm, H.out.2.2.trans (HB.out.mono H.out.2.2.size)⟩
      | cons c r' =>
        have hrn : r ≠ [] := by rw [hr0]; simp
        have HE := Lib.hid (show goR 2 l = goR 2 (aftS r) by rw [H.out.2.1, hr]; exact goR_part m (by rw [← hr]; exact he) (by rw [← hr]; exact hrn) H.out.1)
        have HN := Lib.hid (show 47 ∉ aftS r from fun h => H.out.1 ((List.dropWhile_sublist _).subset (by rw [← hr]; exact aftS_mem r _ h)))
        have HP := Lib.hid (sep_c r)
        have ha := aftS_len r
        have hem : (T r).toList.isEmpty = false := by rw [Lib.toList_data, hr0]; rfl
        have hem2 : r.isEmpty = false := by rw [hr0]; rfl
        clear hr0 hr hrn
        go_wp2_with (first | (go_at_call 51; (with_reducible refine (HT.out _).mono ?_); rintro e w1 ⟨rfl, hb⟩; have HB := Lib.hid hb; clear hb) | (go_at_call 52; (with_reducible refine (HP.out _ (by omega)).mono ?_); rintro e w2 ⟨rfl, hb⟩; have HB2 := Lib.hid hb; clear hb))
        refine ⟨⟨_, rfl, by omega, Lib.hid ⟨HN.out, HE.out, (H.out.2.2.trans (HB.out.mono H.out.2.2.size)).trans (HB2.out.mono (Nat.le_trans H.out.2.2.size HB.out.size))⟩⟩, ?_⟩
        show (aftS r).length < m.length
        omega

theorem dropWhile_nil (p : UInt8 → Bool) (l : List UInt8) : l.dropWhile p = [] ↔ ∀ x ∈ l, p x = true := by
  induction l with
  | nil => simp
  | cons c l ih =>
    rw [List.dropWhile_cons]
    by_cases h : p c = true
    · rw [if_pos h, ih]; simp [h]
    · rw [if_neg h]; simp [h]
/-- all bytes of a text are of a set -/
theorem consists_c (l cs : List UInt8) (w : World) (h : cs.length < 4294967281) (ha : cs.all (·.toNat < 128) = true) :
    Calls Tryd.prog 44 #[.string (T l), .string (T cs)] w fun e w' => e = .returned (.bool (l.all (cs.contains ·))) ∧ Below w.heap.size w w' := by
  obtain ⟨r, hr⟩ : ∃ r, r = l.dropWhile (cs.contains ·) := ⟨_, rfl⟩
  have HT := Lib.hid (fun W => trim_c l cs W h ha)
  rw [← hr] at HT
  have HE := Lib.hid (show l.all (cs.contains ·) = r.isEmpty by
    rw [hr, Bool.eq_iff_iff, List.all_eq_true, List.isEmpty_iff]
    exact (dropWhile_nil _ _).symm)
  clear hr h ha
  go_enter Tryd.func44, Tryd.ntmps44
  go_wp2_with (go_at_call 51; (with_reducible refine (HT.out _).mono ?_); rintro e w1 ⟨rfl, hb⟩; have HB := Lib.hid hb; clear hb)
  go_ret
  exact ⟨ret_bool (by rw [HE.out]), HB.out⟩

def tagL : List UInt8 := [97, 98, 99, 100, 101, 102, 103, 104, 105, 106, 107, 108, 109, 110, 111, 112, 113, 114, 115, 116, 117, 118, 119, 120, 121, 122, 65, 66, 67, 68, 69, 70, 71, 72, 73, 74, 75, 76, 77, 78, 79, 80, 81, 82, 83, 84, 85, 86, 87, 88, 89, 90, 48, 49, 50, 51, 52, 53, 54, 55, 56, 57, 95, 46, 45]
def firstL : List UInt8 := [97, 98, 99, 100, 101, 102, 103, 104, 105, 106, 107, 108, 109, 110, 111, 112, 113, 114, 115, 116, 117, 118, 119, 120, 121, 122, 65, 66, 67, 68, 69, 70, 71, 72, 73, 74, 75, 76, 77, 78, 79, 80, 81, 82, 83, 84, 85, 86, 87, 88, 89, 90, 48, 49, 50, 51, 52, 53, 54, 55, 56, 57]
def halfBL : List UInt8 := [97, 98, 99, 100, 101, 102, 103, 104, 105, 106, 107, 108, 109, 110, 111, 112, 113, 114, 115, 116, 117, 118, 119, 120, 121, 122, 65, 66, 67, 68, 69, 70, 71, 72, 73, 74, 75, 76, 77, 78, 79, 80, 81, 82, 83, 84, 85, 86, 87, 88, 89, 90, 48, 49, 50, 51, 52, 53, 54, 55, 56, 57, 33, 35, 36, 38, 45, 94, 95, 46, 43]
theorem tag_set : (fun c => tagL.contains c) = (fun c => tagB c || c == 46 || c == 45) := by
  funext c
  exact all_bytes (f := fun c => tagL.contains c) (g := fun c => tagB c || c == 46 || c == 45) (by decide +kernel) c
theorem first_set : (fun c => firstL.contains c) = signB := by
  funext c
  exact all_bytes (by decide +kernel) c
theorem half_set : (fun c => halfBL.contains c) = (fun c => signB c || moreB c) := by
  funext c
  exact all_bytes (f := fun c => halfBL.contains c) (g := fun c => signB c || moreB c) (by decide +kernel) c
theorem cons_tag (l : List UInt8) (w : World) :
    Calls Tryd.prog 44 #[.string (T l), .string (T tagL)] w fun e w' => e = .returned (.bool (l.all (fun c => tagB c || c == 46 || c == 45))) ∧ Below w.heap.size w w' := by
  rw [← tag_set]
  exact consists_c l tagL w (by decide) (by decide)
theorem cons_first (l : List UInt8) (w : World) :
    Calls Tryd.prog 44 #[.string (T l), .string (T firstL)] w fun e w' => e = .returned (.bool (l.all signB)) ∧ Below w.heap.size w w' := by
  rw [← first_set]
  exact consists_c l firstL w (by decide) (by decide)
theorem cons_half (l : List UInt8) (w : World) :
    Calls Tryd.prog 44 #[.string (T l), .string (T halfBL)] w fun e w' => e = .returned (.bool (l.all (fun c => signB c || moreB c))) ∧ Below w.heap.size w w' := by
  rw [← half_set]
  exact consists_c l halfBL w (by decide) (by decide)
theorem isTag_int (c : UInt8) (m : List UInt8) : isTagL (c :: m) = if (c.toNat : Int) = 46 ∨ (c.toNat : Int) = 45 then false else (c :: m).all (fun c => tagB c || c == 46 || c == 45) := by
  have q : ∀ x : UInt8, ∀ n : Int, (x.toNat : Int) = n → ((c.toNat : Int) = n ↔ c = x) := fun x n h => by
    rw [← h, Int.natCast_inj]; exact UInt8.toNat_inj
  show (tagB c && _) = _
  by_cases h1 : c = 46
  · subst h1; rfl
  by_cases h2 : c = 45
  · subst h2; rfl
  rw [if_neg (fun h => h.elim (fun e => h1 ((q 46 46 rfl).1 e)) (fun e => h2 ((q 45 45 rfl).1 e))), List.all_cons, show (c == 46) = false from by simpa using h1, show (c == 45) = false from by simpa using h2, Bool.or_false, Bool.or_false]
set_option maxRecDepth 100000 in
theorem tag_c (l : List UInt8) (w : World) (hl : l.length ≤ 140737488351232) :
    Calls Tryd.prog 30 #[.string (T l)] w fun e w' => e = .returned (.bool (isTagL l && decide (l.length ≤ 128))) ∧ Below w.heap.size w w' := by
  cases l with
  | nil =>
    go_enter Tryd.func30, Tryd.ntmps30
    go_wp2
    go_ret
    exact ⟨rfl, Below.refl _ _⟩
  | cons c m =>
    have HC := Lib.hid (cons_tag (c :: m))
    have HT := Lib.hid (isTag_int c m)
    have hz : (T (c :: m)).size = m.length + 1 := by simp [ByteArray.size]
    have hem : (c :: m).isEmpty = false := rfl
    have HZ := Lib.hid hz
    clear hz
    go_enter Tryd.func30, Tryd.ntmps30
    go_wp2_with (go_at_call 44; refine (HC.out _).mono ?_; rintro e w1 ⟨rfl, hb⟩; have HB := Lib.hid hb; clear hb)
    all_goals
      go_ret
      refine ⟨ret_bool ?_, by first | exact HB.out | exact Below.refl _ _⟩
    · have h : (c.toNat : Int) = 46 := by assumption
      rw [HT.out, if_pos (.inl h)]; rfl
    · have h : (c.toNat : Int) = 45 := by assumption
      rw [HT.out, if_pos (.inr h)]; rfl
    · have h1 : ¬ (c.toNat : Int) = 46 := by assumption
      have h2 : ¬ (c.toNat : Int) = 45 := by assumption
      rw [HT.out, if_neg (by simp only [h1, h2, or_self, not_false_eq_true])]
      have e1 : ((c.toNat : Int) != 46) = true := by simpa using h1
      have e2 : ((c.toNat : Int) != 45) = true := by simpa using h2
      show ((c.toNat : Int) != 46 && (c.toNat : Int) != 45 && _) = _
      rw [e1, e2, decide_eq_true (by omega)]
      simp
    · have h : 128 < (m.length : Int) + 1 := by assumption
      rw [decide_eq_false (by omega), Bool.and_false]
end Go.Proofs.YtjjkfbebaoikbaaDoor
