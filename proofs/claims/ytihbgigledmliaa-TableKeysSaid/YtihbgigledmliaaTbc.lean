/-
  bytes.Clone; the table's calls on no table.
-/
import Derived.Test.YtihbgigledmliaaTbb
namespace Go.Proofs.Ytihbgigledmliaa
open Go.RowKit
set_option linter.unusedVariables false
set_option maxRecDepth 100000 in
set_option maxHeartbeats 1000000 in
theorem bclone_c (a : Option Addr) (n c : Nat) (zs : List Nat) (w : World) (h : Rd w a n zs) (hnil : a = none → c = 0) (hm : n ≤ 140737488351232) :
    Calls Try.prog 30 #[.slice a n c] w (RetB w.heap.size w zs) := by
  cases a with
  | none =>
    have h0 : n = 0 := by
      rcases h.2.2 with h0 | ⟨b, off, e, _⟩
      · exact h0
      · cases e
    subst h0
    obtain rfl : zs = [] := List.eq_nil_of_length_eq_zero h.1
    obtain rfl := hnil rfl
    have hne : ∀ W : World, (binOp .eql 41 (.slice none 0 0) (.slice none 0 0)).run Try.prog W = .ok (.bool true) W := fun W => by first | rfl | go_simp | simp [binOp, go_sem]
    clear h
    go_enter Try.func30, Try.ntmps30
    go_wp2_with fail
    go_ret
    exact ⟨_, rfl, Own.nil _ _, Below.refl _ _⟩
  | some ad =>
    have hown : Own (w.alloc (.cells #[] 5)) w.heap.size (.slice (some ⟨w.heap.size, 0, none⟩) 0 0) [] := World.ownsRow_made w #[] 0 (Nat.le_refl _) (by unfold maxLen; omega) rfl
    have hal : Below w.heap.size w (w.alloc (.cells #[] 5)) := (Below.refl _ _).alloc (Nat.le_refl _) _
    have HOW := Lib.hid hown
    have HAL := Lib.hid hal
    have HR := Lib.hid (h.below hal)
    have hne : ∀ W : World, (binOp .eql 41 (.slice (some ad) n c) (.slice none 0 0)).run Try.prog W = .ok (.bool false) W := fun W => by first | rfl | go_simp | simp [binOp, go_sem]
    have hsz := hal.size
    have hln : ([] : List Nat).length + zs.length ≤ 140737488355328 := by have := h.1; simp; omega
    clear hown hal h hnil
    go_enter Try.func30, Try.ntmps30
    go_wp2_with (at_builtin; refine wpList_cat rfl _ _ rfl w.heap.size (.slice (some ⟨w.heap.size, 0, none⟩) 0 0) [] zs rfl HOW.out hsz (some ad) n c rfl HR.out (fun e => by cases e) hln ?_; intro v5 w5 ho5 hb5)
    go_ret
    exact ⟨_, rfl, by simpa using ho5, HAL.out.trans hb5⟩
set_option maxRecDepth 100000 in
set_option maxHeartbeats 1000000 in
theorem tready_nil (w : World) : Calls Try.prog 21 #[.pointer none] w fun e w' => e = .returned (.int .i64 2) ∧ w' = w := by
  go_enter Try.func21, Try.ntmps21
  go_wp2_with fail
  go_ret
  exact ⟨rfl, rfl⟩
set_option maxRecDepth 100000 in
set_option maxHeartbeats 1000000 in
theorem tapply_nil (l : Value) (w : World) : Calls Try.prog 8 #[.pointer none, l] w fun e w' => e = .returned (.int .i64 2) ∧ w' = w := by
  have HR := Lib.hid (tready_nil w)
  go_enter Try.func8, Try.ntmps8
  go_wp2_with fail
  refine HR.out.mono ?_
  rintro e1 w1 ⟨rfl, rfl⟩
  clear HR
  go_wp2_with fail
  go_ret
  exact ⟨rfl, rfl⟩
set_option maxRecDepth 100000 in
set_option maxHeartbeats 1000000 in
theorem tget_nil (s : ByteArray) (w : World) : Calls Try.prog 13 #[.pointer none, .string s] w fun e w' => e = .returned (.tuple #[.slice none 0 0, .bool false]) ∧ w' = w := by
  go_enter Try.func13, Try.ntmps13
  go_wp2_with fail
  go_ret2
  exact ⟨rfl, rfl⟩
set_option maxRecDepth 100000 in
set_option maxHeartbeats 1000000 in
theorem tkeys_nil (s t : ByteArray) (n : Int) (w : World) : Calls Try.prog 11 #[.pointer none, .string s, .string t, .int .i64 n] w fun e w' => e = .returned (.slice none 0 0) ∧ w' = w := by
  go_enter Try.func11, Try.ntmps11
  go_wp2_with fail
  go_ret
  exact ⟨rfl, rfl⟩
set_option maxRecDepth 100000 in
set_option maxHeartbeats 1000000 in
theorem tlen_nil (w : World) : Calls Try.prog 20 #[.pointer none] w fun e w' => e = .returned (.int .i64 0) ∧ w' = w := by
  go_enter Try.func20, Try.ntmps20
  go_wp2_with fail
  go_ret
  exact ⟨rfl, rfl⟩
/-- many changes of one key -/
def kCg : Cg := ⟨⟨#[107]⟩, false, none, 0, 0, []⟩
theorem encG_rep : ∀ (m : Nat) (acc : List Nat), acc.length + 4 * m ≤ 1048568 → (encG acc (List.replicate m kCg)).2 = 0
  | 0, acc, _ => rfl
  | m + 1, acc, h => by
    have e : chgB kCg.key kCg.gone kCg.val = [1, 1, 107, 0] := by
      unfold chgB kCg
      simp only [Bool.false_eq_true, if_false]
      rw [show Cntm.cnt (ByteArray.size ⟨#[107]⟩) = [1] from Cntm.cnt_lo (by decide), show Cntm.cnt ([] : List Nat).length = [0] from Cntm.cnt_lo (by decide)]
      rfl
    rw [List.replicate_succ]
    show (if soundC kCg.key kCg.vn = false then _ else if 1048568 < (acc ++ chgB kCg.key kCg.gone kCg.val).length then _ else encG (acc ++ chgB kCg.key kCg.gone kCg.val) (List.replicate m kCg)).2 = 0
    rw [if_neg (by decide), e, if_neg (by rw [List.length_append]; simp; omega)]
    exact encG_rep m _ (by rw [List.length_append]; simp; omega)
theorem encT_many : (encT (List.replicate 256 kCg)).2 = 0 := by
  unfold encT
  rw [List.length_replicate, if_neg (by omega)]
  have h := Cntm.cnt_len10 256 (by decide)
  generalize Cntm.cnt 256 = l at h ⊢
  have h2 : l.length + 4 * 256 ≤ 1048568 := by omega
  exact encG_rep 256 l h2
theorem encT_over : encT (List.replicate 257 kCg) = ([], 8) := by
  unfold encT
  rw [List.length_replicate, if_pos (by omega)]
/-- four great changes -/
theorem encT_big (c : Cg) (hk : c.key = ⟨#[107]⟩) (hg : c.gone = false) (hv : c.vn = 262144) (hl : c.val.length = 262144) : encT [c, c, c, c] = ([], 8) := by
  have hs : soundC c.key c.vn = true := by rw [hk, hv]; decide
  have hc : (chgB c.key c.gone c.val).length = 262150 := by
    unfold chgB
    rw [hk, hg]
    simp only [Bool.false_eq_true, if_false, List.cons_append, List.length_cons, List.length_append, strL_len]
    rw [show Cntm.cnt (ByteArray.size ⟨#[107]⟩) = [1] from Cntm.cnt_lo (by decide), hl, show Cntm.cnt 262144 = [128, 128, 16] from by rw [Cntm.cnt_hi (by decide), Cntm.cnt_hi (by decide), Cntm.cnt_lo (by decide)]]
    rfl
  have hn : Cntm.cnt 4 = [4] := Cntm.cnt_lo (by decide)
  unfold encT
  rw [show [c, c, c, c].length = 4 from rfl, if_neg (by omega), hn]
  have hs' : ¬ soundC c.key c.vn = false := by rw [hs]; decide
  obtain ⟨C, hC⟩ : ∃ C, C = chgB c.key c.gone c.val := ⟨_, rfl⟩
  rw [← hC] at hc
  simp only [encG, ← hC]
  rw [if_neg hs', if_neg (by simp; omega), if_neg hs', if_neg (by simp; omega), if_neg hs', if_neg (by simp; omega), if_neg hs', if_pos (by simp; omega)]
end Go.Proofs.Ytihbgigledmliaa
