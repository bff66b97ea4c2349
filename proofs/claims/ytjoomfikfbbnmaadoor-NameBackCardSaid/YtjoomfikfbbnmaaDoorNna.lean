/-
  The law of going back, whole.
-/
import Derived.Test.YtjoomfikfbbnmaaDoorNmz
namespace Go.Proofs.YtjoomfikfbbnmaaDoor
set_option linter.unusedVariables false
open Go.RowKit Go.Proofs.Nm
theorem shs_len {a b : List UInt8} {p : Bool} {x : List Nat} (hx : D32 x) {S : List UInt8} (h : shs a b p x = (S, 0)) : S.length ≤ 400 := by
  unfold shs at h
  cases hR : repoB a with
  | false => rw [hR] at h; simp at h
  | true =>
    rw [hR, if_pos rfl] at h
    have la : a.length ≤ 128 := by
      unfold repoB at hR
      simp only [Bool.and_eq_true, decide_eq_true_eq] at hR
      exact hR.2
    have lt := txL_len hx
    have fin : b.length ≤ 128 → (showL a b p x).length ≤ 400 := fun lb => by
      unfold showL
      rw [List.length_append]
      have h1 : (if b.isEmpty = true then a else a ++ 58 :: b).length ≤ 257 := by
        split
        · omega
        · rw [List.length_append, List.length_cons]; omega
      have h2 : (if p = true then 64 :: txL x else ([] : List UInt8)).length ≤ 72 := by
        split
        · rw [List.length_cons]; omega
        · exact Nat.zero_le _
      omega
    by_cases hb : b.isEmpty = true
    · rw [if_pos (.inl hb)] at h
      rw [← (Prod.mk.inj h).1]
      exact fin (by rw [List.isEmpty_iff.1 hb]; simp)
    · by_cases hT : tagOk b = true
      · rw [if_pos (.inr hT)] at h
        rw [← (Prod.mk.inj h).1]
        refine fin ?_
        unfold tagOk at hT
        simp only [Bool.and_eq_true, decide_eq_true_eq] at hT
        exact hT.2
      · rw [if_neg (fun h => h.elim hb hT)] at h
        simp at h
theorem back7_l (a b : List UInt8) (p : Bool) (x : List Nat) (s : List UInt8) (w : World) (hx : D32 x) (hl : a.length ≤ 140737488351232) (hl2 : b.length ≤ 140737488351232) (hs : s.length ≤ 140737488351232) :
    Calls Tryd.prog 9 #[.agg (refC a b p x), .string (T s)] w fun e w' => e = .returned (.bool true) ∧ Below w.heap.size w w' := by
  obtain ⟨c, d, q, y, n, hy, hv, l1, l2, hb⟩ := tailOk s hs
  have HQ : Hid (∀ W, Calls Tryd.prog 17 #[.string (T s)] W fun e w' => e = .returned (.tuple #[.agg (refC c d q y), .int .i64 (n : Int)]) ∧ Below W.heap.size W w') := Lib.hid fun W => by
    have := nparse_c s W hs
    unfold PrsRet at this
    rw [hv] at this
    exact this
  obtain ⟨V, hV⟩ : ∃ V, V = (shs c d q y).1 := ⟨_, rfl⟩
  obtain ⟨k, hk⟩ : ∃ k, k = (shs c d q y).2 := ⟨_, rfl⟩
  have HV : Hid (∀ W, Calls Tryd.prog 19 #[.agg (refC c d q y)] W fun e w' => e = .returned (.tuple #[.string (T V), .int .i64 (k : Int)]) ∧ Below W.heap.size W w') := Lib.hid fun W => by
    have := nshow_c c d q y hy W l1 l2
    unfold ShsRet at this
    rw [← hV, ← hk] at this
    exact this
  obtain ⟨S, hS⟩ : ∃ V, V = (shs a b p x).1 := ⟨_, rfl⟩
  obtain ⟨m, hm⟩ : ∃ k, k = (shs a b p x).2 := ⟨_, rfl⟩
  have HN : Hid (∀ W, Calls Tryd.prog 19 #[.agg (refC a b p x)] W fun e w' => e = .returned (.tuple #[.string (T S), .int .i64 (m : Int)]) ∧ Below W.heap.size W w') := Lib.hid fun W => by
    have := nshow_c a b p x hx W hl hl2
    unfold ShsRet at this
    rw [← hS, ← hm] at this
    exact this
  have hn0 : n = 0 → k = 0 ∧ V = s := fun e => by
    have := hb e
    rw [hV, hk, this]
    exact ⟨rfl, rfl⟩
  by_cases hm0 : m = 0
  · subst hm0
    have hSS : shs a b p x = (S, 0) := by rw [hS, hm]
    have hp := back_show a b p x hx S hSS
    have hlen := shs_len hx hSS
    have HR : ∀ W, Calls Tryd.prog 17 #[.string (T S)] W fun e w' => e = .returned (.tuple #[.agg (refC a b p (if p = true then x else zs32)), .int .i64 0]) ∧ Below W.heap.size W w' := fun W => by
      have := nparse_c S W (by omega)
      unfold PrsRet at this
      rw [hp] at this
      exact this
    by_cases hn : n = 0
    · obtain ⟨e1, e2⟩ := hn0 hn
      cases p with
      | true => exact nb_yes11 a b x s w hx c d q y n S V k hy HN HQ HV (Lib.hid HR) (by omega) (by omega) e2
      | false => exact nb_yes10 a b x s w hx c d q y n S V k hy HN HQ HV (Lib.hid HR) (by omega) (by omega) e2
    · cases p with
      | true => exact nb_yes01 a b x s w hx c d q y n S V k hy HN HQ HV (Lib.hid HR) (by omega)
      | false => exact nb_yes00 a b x s w hx c d q y n S V k hy HN HQ HV (Lib.hid HR) (by omega)
  · by_cases hn : n = 0
    · obtain ⟨e1, e2⟩ := hn0 hn
      exact nb_no1 a b p x s w hx c d q y n S V m k hy HN HQ HV (by omega) (by omega) (by omega) e2
    · exact nb_no0 a b p x s w hx c d q y n S V m k hy HN HQ HV (by omega) (by omega)
theorem back7_c (a b : List UInt8) (p : Bool) (x : List Nat) (s : ByteArray) (w : World) (hx : D32 x) (hl : a.length ≤ 140737488351232) (hl2 : b.length ≤ 140737488351232) (hs : s.size ≤ 140737488351232) :
    Calls Tryd.prog 9 #[.agg (refC a b p x), .string s] w fun e w' => e = .returned (.bool true) ∧ Below w.heap.size w w' :=
  back7_l a b p x s.data.toList w hx hl hl2 hs
end Go.Proofs.YtjoomfikfbbnmaaDoor
