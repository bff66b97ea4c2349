/-
  The walks over the names' small functions.
-/
import Derived.Test.YtjjkfbebaoikbaaDoorShf
import Derived.Test.YtjjkfbebaoikbaaDoorNmp
import Derived.Shelf.Strings.SlTrimAscii
import Derived.WalkKit
import Derived.WalkSpells
import Derived.WalkLawsBesides
import Derived.Lib.Hide
import Derived.BigQuiet
import Derived.Deep.QuietTactic
import Derived.RowKit
namespace Go.Proofs.YtjjkfbebaoikbaaDoor
set_option linter.unusedVariables false
open Go.RowKit Go.Proofs.Nm
/-- a text of these bytes -/
abbrev T (l : List UInt8) : ByteArray := ⟨l.toArray⟩
theorem ret_bool {a b : Bool} (h : a = b) : Ending.returned (.bool a) = .returned (.bool b) := by rw [h]
theorem smallB_int (c : UInt8) : smallB c = decide ((97 ≤ (c.toNat : Int) ∧ (c.toNat : Int) ≤ 122) ∨ (48 ≤ (c.toNat : Int) ∧ (c.toNat : Int) ≤ 57)) := by
  unfold smallB
  rw [Bool.eq_iff_iff]
  simp [UInt8.le_iff_toNat_le] <;> omega
theorem signB_int (c : UInt8) : signB c = (smallB c || decide (65 ≤ (c.toNat : Int) ∧ (c.toNat : Int) ≤ 90)) := by
  unfold signB
  congr 1
  rw [Bool.eq_iff_iff]
  simp [UInt8.le_iff_toNat_le] <;> omega
theorem small_c (c : UInt8) (w : World) :
    Calls Tryd.prog 45 #[.int .u8 (c.toNat : Int)] w fun e w' => e = .returned (.bool (smallB c)) ∧ w = w' := by
  go_enter Tryd.func45, Tryd.ntmps45
  go_wp2
  all_goals
    go_ret
    exact ⟨ret_bool (by rw [smallB_int, Bool.eq_iff_iff]; simp <;> omega), rfl⟩
theorem sign_c (c : UInt8) (w : World) :
    Calls Tryd.prog 46 #[.int .u8 (c.toNat : Int)] w fun e w' => e = .returned (.bool (signB c)) ∧ w = w' := by
  by_cases hs : smallB c = true
  · have H := small_c c
    rw [hs] at H
    have HE := Lib.hid (show signB c = true by rw [signB_int, hs]; rfl)
    clear hs
    go_enter Tryd.func46, Tryd.ntmps46
    go_wp2_with (go_at_call 45; refine (H _).mono ?_; rintro e w' ⟨rfl, rfl⟩)
    go_ret
    exact ⟨ret_bool HE.out.symm, rfl⟩
  · have hs' : smallB c = false := by simpa using hs
    have H := small_c c
    rw [hs'] at H
    have HE := Lib.hid (show signB c = decide (65 ≤ (c.toNat : Int) ∧ (c.toNat : Int) ≤ 90) by rw [signB_int, hs']; rfl)
    clear hs hs'
    go_enter Tryd.func46, Tryd.ntmps46
    go_wp2_with (go_at_call 45; refine (H _).mono ?_; rintro e w' ⟨rfl, rfl⟩)
    all_goals
      go_ret
      exact ⟨ret_bool (by rw [HE.out, Bool.eq_iff_iff]; simp <;> omega), rfl⟩
theorem trim_c (l cs : List UInt8) (w : World) (h : cs.length < 4294967281) (ha : cs.all (·.toNat < 128) = true) :
    Calls Tryd.prog 51 #[.string (T l), .string (T cs)] w fun e w' => e = .returned (.string (T (l.dropWhile (cs.contains ·)))) ∧ Below w.heap.size w w' :=
  Any.strings_TrimLeft_laid lays161 (by kernel_rfl) (T l) (T cs) w (show cs.toArray.size < 4294967281 by simpa using h) (fun j b hb => by
    have := List.all_eq_true.1 ha b (List.mem_of_getElem? hb)
    simpa using this)

/-- a byte of a text -/
def IdxS (l : List UInt8) (i : Nat) (c : UInt8) : Prop := ∀ W : World, (Instr.index 9 (.string (T l)) (.int .i64 (i : Int))).run Tryd.prog W = .ok (.int .u8 ((c.toNat : Nat) : Int)) W
theorem idxS (l : List UInt8) (i : Nat) (c : UInt8) (h : l[i]? = some c) : IdxS l i c := by
  intro W
  obtain ⟨hi, he⟩ := List.getElem?_eq_some_iff.1 h
  rw [run_index_string (w := W) (t := 9) (s := T l) (k := .i64) (i := (i : Int)) (h := Tryd.underlying9)]
  have hz : (T l).size = l.length := by simp [ByteArray.size]
  rw [dif_pos (by rw [hz]; omega)]
  subst he
  rfl

theorem eqI {c : UInt8} {n : Nat} (x : UInt8) (hn : x.toNat = n) : ((c.toNat : Int) == (n : Int)) = (c == x) := by
  rw [Bool.eq_iff_iff, ← hn]
  simp only [beq_iff_eq, Int.natCast_inj]
  exact UInt8.toNat_inj
set_option maxRecDepth 100000 in
set_option maxHeartbeats 4000000 in
theorem rrepo_c (l : List UInt8) (w : World) (hl : l.length ≤ 140737488351232) :
    Calls Tryd.prog 32 #[.string (T l)] w fun e w' => e = .returned (.bool (goR 0 l && decide (l.length ≤ 128))) ∧ w = w' := by
  have hz : (T l).size = l.length := by simp [ByteArray.size]
  have HZ := Lib.hid hz
  clear hz
  go_enter Tryd.func32, Tryd.ntmps32
  go_wp2
  go_loop [3, 4] (fun s i => ∃ k st : Nat, k ≤ l.length ∧ i = .int .i64 k ∧ s = .int .i64 st ∧ st ≤ 4 ∧ Hid (goR 0 l = goR st (l.drop k))) (fun _ i => l.length - (intOf i).toNat)
  case atStart => exact ⟨0, 0, Nat.zero_le _, rfl, rfl, by omega, Lib.hid rfl⟩
  case round =>
    obtain ⟨k, st, hk, rfl, rfl, hst, HN⟩ := hrel
    by_cases hlt : k < l.length
    · obtain ⟨c, hc⟩ : ∃ c, l[k]? = some c := ⟨_, List.getElem?_eq_getElem hlt⟩
      have HI := idxS l k c hc
      unfold IdxS at HI
      have HD := Lib.hid (drop_step hc)
      have HS := small_c c
      have HG := Lib.hid (show goR 0 l = _ by rw [HN.out, HD.out, goR_stepI])
      clear hc
      go_wp2_with (go_at_call 45; refine (HS _).mono ?_; rintro e w' ⟨rfl, rfl⟩)
      all_goals (first
        | (go_round
           case rel => exact ⟨k + 1, _, by omega, by go_num, rfl, by decide, Lib.hid (by rw [HG.out]; simp_all)⟩
           case measure => simp [intOf]; omega)
        | (go_ret
           exact ⟨ret_bool (by rw [HG.out]; simp_all), rfl⟩))
    · obtain rfl : k = l.length := by omega
      have hn := HN.out
      rw [List.drop_length] at hn
      have HE := Lib.hid (show goR 0 l = decide ((st : Int) = 1) by rw [hn]; show (st == 1) = _; rw [Bool.eq_iff_iff]; simp; omega)
      clear hn
      go_wp2
      all_goals
        go_ret
        exact ⟨ret_bool (by rw [HE.out]; simp_all <;> omega), rfl⟩

theorem tagI (c : UInt8) : (tagB c || c == 46 || c == 45) = (signB c || decide ((c.toNat : Int) = 95) || decide ((c.toNat : Int) = 46) || decide ((c.toNat : Int) = 45)) := by
  unfold tagB
  have q : ∀ x : UInt8, ∀ n : Int, (x.toNat : Int) = n → (c == x) = decide ((c.toNat : Int) = n) := fun x n h => by
    rw [Bool.eq_iff_iff, beq_iff_eq, ← h, decide_eq_true_iff, Int.natCast_inj]; exact UInt8.toNat_inj.symm
  rw [q 95 95 rfl, q 46 46 rfl, q 45 45 rfl]
/-- a tag, as the document's loop has it: from place k on -/
def goT : Nat → List UInt8 → Bool
  | _, [] => true
  | k, c :: l => (signB c || decide ((c.toNat : Int) = 95) || (decide (0 < (k : Int)) && (decide ((c.toNat : Int) = 46) || decide ((c.toNat : Int) = 45)))) && goT (k + 1) l
theorem goT_cons (k : Nat) (c : UInt8) (l : List UInt8) : goT k (c :: l) = ((signB c || decide ((c.toNat : Int) = 95) || (decide (0 < (k : Int)) && (decide ((c.toNat : Int) = 46) || decide ((c.toNat : Int) = 45)))) && goT (k + 1) l) := rfl
theorem goT_more (l : List UInt8) : ∀ k, goT (k + 1) l = l.all (fun c => tagB c || c == 46 || c == 45) := by
  induction l with
  | nil => intro k; rfl
  | cons c l ih =>
    intro k
    rw [List.all_cons, tagI, ← ih (k + 1)]
    have : decide (0 < ((k + 1 : Nat) : Int)) = true := by simp <;> omega
    rw [goT_cons, this]
    simp only [Bool.true_and, Bool.or_assoc]
theorem goT_tag (l : List UInt8) : (goT 0 l && decide (1 ≤ (l.length : Int))) = isTagL l := by
  cases l with
  | nil => rfl
  | cons c m =>
    have : decide (1 ≤ ((c :: m).length : Int)) = true := by simp <;> omega
    rw [this, goT_cons, goT_more]
    show _ = (tagB c && _)
    have h0 : (c == 95) = decide ((c.toNat : Int) = 95) := by
      rw [Bool.eq_iff_iff, beq_iff_eq, decide_eq_true_iff]
      exact ⟨fun h => by rw [h]; rfl, fun h => UInt8.toNat_inj.1 (Int.natCast_inj.1 h)⟩
    have h1 : tagB c = (signB c || decide ((c.toNat : Int) = 95)) := by unfold tagB; rw [h0]
    rw [h1]
    simp
set_option maxRecDepth 100000 in
set_option maxHeartbeats 4000000 in
theorem rtag_c (l : List UInt8) (w : World) (hl : l.length ≤ 140737488351232) :
    Calls Tryd.prog 33 #[.string (T l)] w fun e w' => e = .returned (.bool (isTagL l && decide (l.length ≤ 128))) ∧ w = w' := by
  have hz : (T l).size = l.length := by simp [ByteArray.size]
  have HZ := Lib.hid hz
  have HT := Lib.hid (goT_tag l)
  clear hz
  go_enter Tryd.func33, Tryd.ntmps33
  go_wp2
  go_loop [3] (fun i => ∃ k : Nat, k ≤ l.length ∧ i = .int .i64 k ∧ Hid (goT 0 l = goT k (l.drop k))) (fun i => l.length - (intOf i).toNat)
  case atStart => exact ⟨0, Nat.zero_le _, rfl, Lib.hid rfl⟩
  case round =>
    obtain ⟨k, hk, rfl, HN⟩ := hrel
    by_cases hlt : k < l.length
    · obtain ⟨c, hc⟩ : ∃ c, l[k]? = some c := ⟨_, List.getElem?_eq_getElem hlt⟩
      have HI := idxS l k c hc
      unfold IdxS at HI
      have HS := sign_c c
      have HG := Lib.hid (show goT 0 l = ((signB c || decide ((c.toNat : Int) = 95) || (decide (0 < (k : Int)) && (decide ((c.toNat : Int) = 46) || decide ((c.toNat : Int) = 45)))) && goT (k + 1) (l.drop (k + 1))) by rw [HN.out, drop_step hc]; rfl)
      clear hc
      go_wp2_with (go_at_call 46; refine (HS _).mono ?_; rintro e w' ⟨rfl, rfl⟩)
      all_goals (first
        | (go_round
           case rel => exact ⟨k + 1, by omega, by go_num, Lib.hid (by rw [HG.out]; simp_all)⟩
           case measure => simp [intOf]; omega)
        | (go_ret
           exact ⟨ret_bool (by rw [← HT.out, HG.out]; simp_all), rfl⟩))
    · obtain rfl : k = l.length := by omega
      have hn := HN.out
      rw [List.drop_length] at hn
      have HE := Lib.hid (show isTagL l = decide (1 ≤ (l.length : Int)) by rw [← HT.out, hn]; rfl)
      clear hn
      go_wp2
      all_goals
        go_ret
        exact ⟨ret_bool (by rw [HE.out]; simp_all <;> omega), rfl⟩
end Go.Proofs.YtjjkfbebaoikbaaDoor
