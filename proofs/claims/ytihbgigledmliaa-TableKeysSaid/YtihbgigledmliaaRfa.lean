/-
  The document's disk: lists of files in memory; Find, Used.
-/
import Derived.Test.YtihbgigledmliaaDnn
namespace Go.Proofs.Ytihbgigledmliaa
open Go.RowKit
set_option linter.unusedVariables false
theorem ba_neq {s t : ByteArray} (h : ¬ s = t) : ¬ s.toList = t.toList := fun h2 => h (ba_ext (by rw [← Lib.toList_data, ← Lib.toList_data]; exact h2))
/-- bytes in memory that is none of N's -/
structure RB (N : Nat → Prop) (w : World) (a : Option Addr) (n c : Nat) (zs : List Nat) : Prop where
  rd : Rd w a n zs
  no : ∀ b o s, a = some ⟨b, o, s⟩ → n ≠ 0 → ¬ N b
  nil : a = none → c = 0
  le : n ≤ c
/-- what is none of N's stands -/
structure Sta (N : Nat → Prop) (w w' : World) : Prop where
  size : w.heap.size ≤ w'.heap.size
  blk : ∀ k, k < w.heap.size → ¬ N k → w'.heap[k]? = w.heap[k]?
theorem Sta.refl (N : Nat → Prop) (w : World) : Sta N w w := ⟨Nat.le_refl _, fun _ _ _ => rfl⟩
theorem Sta.ofBelow {N : Nat → Prop} {w w' : World} (h : Below w.heap.size w w') : Sta N w w' := ⟨h.size, fun k hk _ => h.block k hk⟩
theorem Sta.cell {N : Nat → Prop} {w w' : World} (h : Sta N w w') {b o : Nat} (hb : b < w.heap.size) (hn : ¬ N b) : w'.cell? ⟨b, o, none⟩ = w.cell? ⟨b, o, none⟩ := World.cell?_of_block (h.blk b hb hn)
/-- N' is N and blocks that are new -/
def Ren (N N' : Nat → Prop) (w : World) : Prop := ∀ k, N' k → N k ∨ w.heap.size ≤ k
theorem Ren.refl (N : Nat → Prop) (w : World) : Ren N N w := fun _ h => .inl h
theorem RB.sta {N N' : Nat → Prop} {w w' : World} {a : Option Addr} {n c : Nat} {zs : List Nat} (h : RB N w a n c zs) (hs : Sta N w w') (hr : Ren N N' w) : RB N' w' a n c zs := by
  obtain ⟨⟨h1, h2, h3⟩, h4, h5, h6⟩ := h
  by_cases h0 : n = 0
  · exact ⟨⟨h1, h2, .inl h0⟩, fun _ _ _ _ hn => absurd h0 hn, h5, h6⟩
  · rcases h3 with h3 | ⟨b, o, rfl, hb, hc⟩
    · exact absurd h3 h0
    · have hno := h4 b o none rfl h0
      refine ⟨⟨h1, h2, .inr ⟨b, o, rfl, Nat.lt_of_lt_of_le hb hs.size, fun i hi => ?_⟩⟩, fun b' o' s' e hn hN => ?_, h5, h6⟩
      · rw [hs.cell hb hno]; exact hc i hi
      · cases e
        rcases hr b hN with h | h
        · exact hno h
        · omega
theorem RB.below {N : Nat → Prop} {w w' : World} {a : Option Addr} {n c : Nat} {zs : List Nat} (h : RB N w a n c zs) (hb : Below w.heap.size w w') : RB N w' a n c zs := h.sta (Sta.ofBelow hb) (Ren.refl _ _)
/-- a file's two cells -/
def FC (N : Nat → Prop) (w : World) (f : ByteArray × List Nat) (x y : Value) : Prop := x = .string f.1 ∧ ∃ ra rn rc, y = .slice ra rn rc ∧ RB N w ra rn rc f.2
theorem FC.sta {N N' : Nat → Prop} {w w' : World} {f : ByteArray × List Nat} {x y : Value} (h : FC N w f x y) (hs : Sta N w w') (hr : Ren N N' w) : FC N' w' f x y := by
  obtain ⟨h1, ra, rn, rc, h2, h3⟩ := h
  exact ⟨h1, ra, rn, rc, h2, h3.sta hs hr⟩
/-- a list of files in memory that is none of N's -/
structure RF (N : Nat → Prop) (w : World) (a : Option Addr) (len : Nat) (l : Fls) : Prop where
  ln : len = l.length
  row : len = 0 ∨ ∃ b o, a = some ⟨b, o, none⟩ ∧ b < w.heap.size ∧ ¬ N b ∧ ∀ i f, l[i]? = some f → ∃ x y, w.cell? ⟨b, o + 2 * i, none⟩ = some x ∧ w.cell? ⟨b, o + 2 * i + 1, none⟩ = some y ∧ FC N w f x y
theorem RF.nil (N : Nat → Prop) (w : World) (a : Option Addr) : RF N w a 0 [] := ⟨rfl, .inl rfl⟩
theorem RF.sta {N N' : Nat → Prop} {w w' : World} {a : Option Addr} {len : Nat} {l : Fls} (h : RF N w a len l) (hs : Sta N w w') (hr : Ren N N' w) : RF N' w' a len l := by
  refine ⟨h.ln, ?_⟩
  rcases h.row with h0 | ⟨b, o, h1, h2, h3, h4⟩
  · exact .inl h0
  · refine .inr ⟨b, o, h1, Nat.lt_of_lt_of_le h2 hs.size, fun hN => ?_, fun i f hf => ?_⟩
    · rcases hr b hN with h | h
      · exact h3 h
      · omega
    · obtain ⟨x, y, k1, k2, k3⟩ := h4 i f hf
      exact ⟨x, y, (hs.cell h2 h3).trans k1, (hs.cell h2 h3).trans k2, k3.sta hs hr⟩
theorem RF.below {N : Nat → Prop} {w w' : World} {a : Option Addr} {len : Nat} {l : Fls} (h : RF N w a len l) (hb : Below w.heap.size w w') : RF N w' a len l := h.sta (Sta.ofBelow hb) (Ren.refl _ _)
theorem RF.at {N : Nat → Prop} {w : World} {a : Option Addr} {len : Nat} {l : Fls} (h : RF N w a len l) {i : Nat} (hi : i < len) : ∃ b o f ra rn rc, a = some ⟨b, o, none⟩ ∧ b < w.heap.size ∧ l[i]? = some f ∧ w.cell? ⟨b, o + 2 * i, none⟩ = some (.string f.1) ∧ w.cell? ⟨b, o + 2 * i + 1, none⟩ = some (.slice ra rn rc) ∧ RB N w ra rn rc f.2 := by
  rcases h.row with h0 | ⟨b, o, h1, h2, h3, h4⟩
  · omega
  · have hl : i < l.length := by have := h.ln; omega
    obtain ⟨x, y, k1, k2, rfl, ra, rn, rc, rfl, k3⟩ := h4 i l[i] (List.getElem?_eq_getElem hl)
    exact ⟨b, o, l[i], ra, rn, rc, h1, h2, List.getElem?_eq_getElem hl, k1, k2, k3⟩
/-- the place of a name -/
def idxF : Fls → ByteArray → Option Nat
  | [], _ => none
  | x :: l, n => if x.1 = n then some 0 else (idxF l n).map (· + 1)
def ixI : Option Nat → Int
  | none => -1
  | some k => (k : Int)
theorem idxF_some : ∀ {l : Fls} {n : ByteArray} {k : Nat}, idxF l n = some k → ∃ z, l[k]? = some (n, z) ∧ lookF l n = some z
  | [], n, k, h => by cases h
  | x :: l, n, k, h => by
    unfold idxF at h
    split at h
    · rename_i e
      cases h
      subst e
      exact ⟨x.2, rfl, by unfold lookF; rw [if_pos rfl]⟩
    · rename_i e
      cases hk : idxF l n with
      | none => rw [hk] at h; cases h
      | some j =>
        rw [hk] at h
        have h' : j + 1 = k := by simpa using h
        obtain ⟨z, h1, h2⟩ := idxF_some hk
        refine ⟨z, by rw [← h']; exact h1, ?_⟩
        unfold lookF
        rw [if_neg e]; exact h2
theorem idxF_none : ∀ {l : Fls} {n : ByteArray}, idxF l n = none ↔ lookF l n = none
  | [], n => by simp [idxF, lookF]
  | x :: l, n => by
    unfold idxF lookF
    by_cases e : x.1 = n
    · rw [if_pos e, if_pos e]; simp
    · rw [if_neg e, if_neg e, Option.map_eq_none_iff]; exact idxF_none
theorem idxF_at : ∀ {l : Fls} {n : ByteArray} {k : Nat} {f : ByteArray × List Nat}, (∀ j g, j < k → l[j]? = some g → g.1 ≠ n) → l[k]? = some f → f.1 = n → idxF l n = some k
  | [], n, k, f, _, h, _ => by simp at h
  | x :: l, n, 0, f, _, h, e => by
    cases h
    unfold idxF
    rw [if_pos e]
  | x :: l, n, k + 1, f, hj, h, e => by
    unfold idxF
    rw [if_neg (hj 0 x (by omega) rfl), idxF_at (k := k) (f := f) (fun j g hlt hg => hj (j + 1) g (by omega) hg) h e]
    rfl
theorem idxF_no : ∀ {l : Fls} {n : ByteArray}, (∀ j g, j < l.length → l[j]? = some g → g.1 ≠ n) → idxF l n = none
  | [], n, _ => rfl
  | x :: l, n, h => by
    unfold idxF
    rw [if_neg (h 0 x (by simp) rfl), idxF_no fun j g hlt hg => h (j + 1) g (by simpa using hlt) hg]
    rfl
theorem usedF_take : ∀ {l : Fls} {k : Nat} {f : ByteArray × List Nat}, l[k]? = some f → usedF (l.take (k + 1)) = usedF (l.take k) + f.2.length
  | [], k, f, h => by simp at h
  | x :: l, 0, f, h => by cases h; simp [usedF]
  | x :: l, k + 1, f, h => by
    have := usedF_take (l := l) (k := k) (f := f) h
    simp only [List.take_succ_cons, usedF] at this ⊢
    omega
theorem usedF_le : ∀ (l : Fls) (k : Nat), usedF (l.take k) ≤ usedF l
  | [], k => by simp
  | x :: l, 0 => by simp [usedF]
  | x :: l, k + 1 => by
    have := usedF_le l k
    simp only [List.take_succ_cons, usedF]
    omega
end Go.Proofs.Ytihbgigledmliaa
