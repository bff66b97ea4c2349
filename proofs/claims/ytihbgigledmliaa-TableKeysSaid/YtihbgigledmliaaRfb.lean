/-
  The document's disk: lists of files with a file less, with a file more.
-/
import Derived.Test.YtihbgigledmliaaRfa
namespace Go.Proofs.Ytihbgigledmliaa
open Go.RowKit
set_option linter.unusedVariables false
abbrev FR2 := Value × Value
def fcells (rs : List FR2) : List Value := rs.flatMap fun r => [r.1, r.2]
theorem fcells_append (rs ss : List FR2) : fcells (rs ++ ss) = fcells rs ++ fcells ss := by unfold fcells; rw [List.flatMap_append]
theorem fcells_get : ∀ (rs : List FR2) (i : Nat) (r : FR2), rs[i]? = some r → (fcells rs)[2 * i]? = some r.1 ∧ (fcells rs)[2 * i + 1]? = some r.2
  | [], i, r, h => by simp at h
  | x :: rs, 0, r, h => by cases h; exact ⟨rfl, rfl⟩
  | x :: rs, i + 1, r, h => by
    have := fcells_get rs i r h
    unfold fcells at this ⊢
    rw [List.flatMap_cons, show 2 * (i + 1) = 2 * i + 2 by omega]
    exact this
/-- what its cells are -/
structure FRs (N : Nat → Prop) (w : World) (rs : List FR2) (l : Fls) : Prop where
  ln : rs.length = l.length
  cel : ∀ (i : Nat) (r : FR2) (f : ByteArray × List Nat), rs[i]? = some r → l[i]? = some f → FC N w f r.1 r.2
theorem FRs.nil (N : Nat → Prop) (w : World) : FRs N w [] [] := ⟨rfl, fun i r f h => by simp at h⟩
theorem FRs.sta {N N' : Nat → Prop} {w w' : World} {rs : List FR2} {l : Fls} (h : FRs N w rs l) (hs : Sta N w w') (hr : Ren N N' w) : FRs N' w' rs l := ⟨h.ln, fun i r f h1 h2 => (h.cel i r f h1 h2).sta hs hr⟩
theorem FRs.push {N : Nat → Prop} {w : World} {rs : List FR2} {l : Fls} (h : FRs N w rs l) {r : FR2} {f : ByteArray × List Nat} (hc : FC N w f r.1 r.2) : FRs N w (rs ++ [r]) (l ++ [f]) := by
  refine ⟨by simp [h.ln], fun i r' f' h1 h2 => ?_⟩
  by_cases hi : i < rs.length
  · rw [List.getElem?_append_left hi] at h1
    rw [List.getElem?_append_left (by rw [← h.ln]; exact hi)] at h2
    exact h.cel i r' f' h1 h2
  · rw [List.getElem?_append_right (by omega)] at h1
    rw [List.getElem?_append_right (by rw [← h.ln]; omega), ← h.ln] at h2
    have hz : i - rs.length = 0 := by
      have := (List.getElem?_eq_some_iff.1 h1).1
      simp at this
      omega
    rw [hz] at h1 h2
    cases h1
    cases h2
    exact hc
/-- new blocks are forbidden, too -/
def Low (N : Nat → Prop) (w : World) (k : Nat) : Prop := N k ∨ w.heap.size ≤ k
theorem RB.low {N : Nat → Prop} {w : World} {a : Option Addr} {n c : Nat} {zs : List Nat} (h : RB N w a n c zs) : RB (Low N w) w a n c zs := by
  refine ⟨h.rd, fun b o s e hn hl => ?_, h.nil, h.le⟩
  rcases hl with hl | hl
  · exact h.no b o s e hn hl
  · obtain ⟨_, _, h0 | ⟨b', o', e', hb, _⟩⟩ := h.rd
    · exact hn h0
    · rw [e'] at e; cases e; omega
theorem FC.low {N : Nat → Prop} {w : World} {f : ByteArray × List Nat} {x y : Value} (h : FC N w f x y) : FC (Low N w) w f x y := by
  obtain ⟨h1, ra, rn, rc, h2, h3⟩ := h
  exact ⟨h1, ra, rn, rc, h2, h3.low⟩
theorem RF.low {N : Nat → Prop} {w : World} {a : Option Addr} {len : Nat} {l : Fls} (h : RF N w a len l) : RF (Low N w) w a len l := by
  refine ⟨h.ln, ?_⟩
  rcases h.row with h0 | ⟨b, o, h1, h2, h3, h4⟩
  · exact .inl h0
  · refine .inr ⟨b, o, h1, h2, fun hl => ?_, fun i f hf => ?_⟩
    · rcases hl with hl | hl
      · exact h3 hl
      · omega
    · obtain ⟨x, y, k1, k2, k3⟩ := h4 i f hf
      exact ⟨x, y, k1, k2, k3.low⟩
theorem FC.weak {N M : Nat → Prop} {w : World} {f : ByteArray × List Nat} {x y : Value} (h : FC M w f x y) (hw : ∀ k, N k → M k) : FC N w f x y := by
  obtain ⟨h1, ra, rn, rc, h2, h3⟩ := h
  exact ⟨h1, ra, rn, rc, h2, h3.rd, fun b o s e hn hN => h3.no b o s e hn (hw b hN), h3.nil, h3.le⟩
theorem FRs.weak {N M : Nat → Prop} {w : World} {rs : List FR2} {l : Fls} (h : FRs M w rs l) (hw : ∀ k, N k → M k) : FRs N w rs l := ⟨h.ln, fun i r f h1 h2 => (h.cel i r f h1 h2).weak hw⟩
theorem without_snoc : ∀ (l : Fls) (f : ByteArray × List Nat) (n : ByteArray), withoutF (l ++ [f]) n = if f.1 = n then withoutF l n else withoutF l n ++ [f]
  | [], f, n => by simp [withoutF]
  | x :: l, f, n => by
    simp only [List.cons_append, withoutF]
    rw [without_snoc l f n]
    by_cases e : x.1 = n
    · simp [e]
    · simp only [e, if_false]
      by_cases k : f.1 = n
      · simp [k]
      · simp [k]
theorem without_len (l : Fls) (n : ByteArray) : (withoutF l n).length ≤ l.length := by
  induction l with
  | nil => simp [withoutF]
  | cons x l ih =>
    unfold withoutF
    split
    · simp; omega
    · simp; omega
/-- one step of a list with a file more -/
def wstep (f : ByteArray × List Nat) (s : Fls × Bool) (x : ByteArray × List Nat) : Fls × Bool := if s.2 = false ∧ ltB f.1 x.1 then (s.1 ++ [f] ++ [x], true) else (s.1 ++ [x], s.2)
def wfold (f : ByteArray × List Nat) (l : Fls) : Fls × Bool := l.foldl (wstep f) ([], false)
theorem wfold_snoc (f : ByteArray × List Nat) (l : Fls) (x : ByteArray × List Nat) : wfold f (l ++ [x]) = wstep f (wfold f l) x := by unfold wfold; rw [List.foldl_append]; rfl
theorem wfold_true (f : ByteArray × List Nat) : ∀ (l o : Fls), l.foldl (wstep f) (o, true) = (o ++ l, true)
  | [], o => by simp
  | x :: l, o => by
    rw [List.foldl_cons]
    have : wstep f (o, true) x = (o ++ [x], true) := by unfold wstep; simp
    rw [this, wfold_true f l]
    simp
theorem withF_cons (x f : ByteArray × List Nat) (l : Fls) : withF (x :: l) f = if ltB f.1 x.1 then f :: x :: l else x :: withF l f := rfl
theorem wfold_false (f : ByteArray × List Nat) : ∀ (l o : Fls), (if (l.foldl (wstep f) (o, false)).2 then (l.foldl (wstep f) (o, false)).1 else (l.foldl (wstep f) (o, false)).1 ++ [f]) = o ++ withF l f
  | [], o => by simp [withF]
  | x :: l, o => by
    rw [List.foldl_cons]
    by_cases h : ltB f.1 x.1
    · have : wstep f (o, false) x = (o ++ [f] ++ [x], true) := by unfold wstep; rw [if_pos ⟨rfl, h⟩]
      rw [this, wfold_true]
      rw [withF_cons, if_pos h]
      simp
    · have : wstep f (o, false) x = (o ++ [x], false) := by unfold wstep; rw [if_neg (fun k => h k.2)]
      rw [this, wfold_false f l]
      rw [withF_cons, if_neg h]
      simp
theorem wfold_eq (f : ByteArray × List Nat) (l : Fls) : (if (wfold f l).2 then (wfold f l).1 else (wfold f l).1 ++ [f]) = withF l f := by
  exact (wfold_false f l []).trans (List.nil_append _)
theorem wfold_len (f : ByteArray × List Nat) (l : Fls) : (wfold f l).1.length ≤ l.length + 1 := by
  have h := congrArg List.length (wfold_eq f l)
  rw [length_with] at h
  split at h
  · omega
  · rw [List.length_append] at h; simp at h; omega
/-- what a function of files answers -/
def RetF (N : Nat → Prop) (l : Fls) (w : World) (e : Ending) (w' : World) : Prop := ∃ a len cap, e = .returned (.slice a len cap) ∧ RF N w' a len l ∧ Below w.heap.size w w'
theorem bl_true {x y : ByteArray} (h : ltB x y) : Op.bytesLess x.toList y.toList = true := by rw [Go.Proofs.bytesLess_eq, Lib.toList_data, Lib.toList_data]; exact decide_eq_true h
theorem bl_false {x y : ByteArray} (h : ¬ ltB x y) : Op.bytesLess x.toList y.toList = false := by rw [Go.Proofs.bytesLess_eq, Lib.toList_data, Lib.toList_data]; exact decide_eq_false h
end Go.Proofs.Ytihbgigledmliaa
