/-
  A range over an iterator whose body may write any memory but the loop's own two blocks: the law of a caller.
-/
import Derived.Test.YtihbgigledmliaaProg
import Derived.RangeFuncFrom
import Derived.RangeFuncCalls
import Derived.RangeFuncLeaves
import Derived.OwnWalkIn
import Derived.TacticsInMore
import Derived.LoopNIn
import Derived.LoopIn
namespace Go.Proofs.Ytihbgigledmliaa
set_option linter.unusedVariables false
open Go.RowKit
/-- but for the blocks D and D + 1 all stands -/
structure KeepL (D : Nat) (W W' : World) : Prop where
  os : W'.os = W.os
  tape : W'.tape = W.tape
  output : W'.output = W.output
  size : W.heap.size ≤ W'.heap.size
  blk : ∀ b, b ≠ D → b ≠ D + 1 → W'.heap[b]? = W.heap[b]?
theorem KeepL.putObj {W : World} {D : Nat} (o : Obj) (h : D + 1 < W.heap.size) : KeepL D W (W.putObj (D + 1) o) :=
  ⟨rfl, rfl, rfl, by simp [World.putObj], fun b _ h2 => World.putObj_heap_other h2⟩
theorem KeepL.new (w : World) (o o' : Obj) : KeepL w.heap.size w ((w.alloc o).alloc o') :=
  ⟨rfl, rfl, rfl, by simp; omega, fun b h1 h2 => by
    by_cases hb : b < w.heap.size
    · exact (Below.heap_alloc _ _ _ (by simp; omega)).trans (Below.heap_alloc _ _ _ hb)
    · rw [Array.getElem?_eq_none (by simp; omega), Array.getElem?_eq_none (by omega)]⟩
/-- how a round may be left: it goes on, or returns -/
def roundM {α : Type} (D : Nat) (I Ix : List α → World → Prop) (xs : List α) (W : World) : Exit → Act → World → Prop
  | .normal, _, W' => W'.heap[D]? = W.heap[D]? ∧ W'.heap[D + 1]? = W.heap[D + 1]? ∧ I xs W'
  | .ret, _, W' => W'.heap[D]? = W.heap[D]? ∧ W'.heap[D + 1]? = W.heap[D + 1]? ∧ Ix xs W'
  | _, _, _ => False
theorem range_mem {F : Fence} {n : Nat} {P : Program} {g : Operand} {ps : Array Tmp} {assign body : Code} {Q : Exit → Act → World → Prop} {a : Act} {w : World}
    (hro : F.round = none) (h1 : 1 ≤ n) {gf : Nat} {lb : Array Value} (hg : a.eval g = .func (.func gf) #[] lb) (hFg : F.fn gf) (eg : ∀ args w, (callFunc gf args).run P w = .ok (.enter gf args) w)
    {α : Type} {enc : α → Array Value} (S : List α) (Px : List α → α → Prop) (It : World → Prop) (hps : ∀ x, (enc x).size = ps.size)
    (hseq : ∀ (l : Nat) (J Jx : List α → World → Prop) (W : World), (∀ s W, J s W → It W) →
      (∀ pre x W1, J pre W1 → Px pre x → YieldAt F (n - 1 - 1) P l (enc x) W1 fun e W' => (e = .returned (.bool true) ∧ J (pre ++ [x]) W') ∨ (e = .returned (.bool false) ∧ Jx (pre ++ [x]) W')) →
      J [] W → CallsIn F (n - 1) P gf (#[.func (.yield l) #[] #[]] ++ lb) W fun e W' => (∃ v, e = .returned v) ∧ (J S W' ∨ ∃ pre, Jx pre W'))
    (I Ix : List α → World → Prop) (hI : ∀ s W W', KeepL w.heap.size W W' → I s W → I s W') (hIx : ∀ s W W', KeepL w.heap.size W W' → Ix s W → Ix s W') (hIt : ∀ s W, I s W → It W) (h0 : I [] w)
    (M : List α → α → Act → World → Prop) (hM : ∀ s x a W W', KeepL w.heap.size W W' → M s x a W → M s x a W')
    (hassign : ∀ (l : Nat) (pre : List α) (x : α) (W : World), I pre W → Px pre x → w.heap.size + 1 < W.heap.size →
      assign.wpIn (F.inRound l) (n - 1 - 1) P (Exit.then (fun a1 W1 => W1.heap[w.heap.size]? = W.heap[w.heap.size]? ∧ W1.heap[w.heap.size + 1]? = W.heap[w.heap.size + 1]? ∧ M pre x a1 W1) (fun _ _ _ => False)) { tmps := (ps.zip (enc x)).foldl (fun t (p, v) => t.setIfInBounds p v) a.tmps, defers := [] } W)
    (hbody : ∀ (l : Nat) (pre : List α) (x : α) (a1 : Act) (W : World), M pre x a1 W → Px pre x → w.heap.size + 1 < W.heap.size → body.wpIn (F.inRound l) (n - 1 - 1) P (roundM w.heap.size I Ix (pre ++ [x]) W) a1 W)
    (hdone : ∀ (D : Nat) (W : World), D = w.heap.size → I S W → W.heap[D]? = some (.deferred (some [])) → Q .normal { a with defers := { target := .collected D, args := #[] } :: a.defers } W)
    (hstop : ∀ (D : Nat) (pre : List α) (W : World), D = w.heap.size → Ix pre W → W.heap[D]? = some (.deferred (some [])) → Code.ret.wpIn F n P Q { a with defers := { target := .collected D, args := #[] } :: a.defers } W) :
    (Code.rangeFunc g ps assign body).wpIn F n P Q a w := by
  refine wpIn_rangeFunc ?_
  intro fn hfn
  rw [hro]
  obtain ⟨rec, hrec⟩ : ∃ rec : LoopState → Option Code → Loop, rec = fun st pe => { state := st, pending := pe, fn, tmps := a.tmps, params := ps, assign, body, defers := w.heap.size } := ⟨_, rfl⟩
  obtain ⟨D, hD⟩ : ∃ D, D = w.heap.size := ⟨_, rfl⟩
  obtain ⟨W1, hW1⟩ : ∃ W1, W1 = (w.alloc (.deferred (some []))).alloc (.loop (rec .ready none)) := ⟨_, rfl⟩
  have hl1 : W1.heap[D + 1]? = some (.loop (rec .ready none)) := by
    have h := World.alloc_heap_new (w.alloc (.deferred (some []))) (.loop (rec .ready none))
    rw [World.size_alloc] at h
    rw [hW1, hD]
    exact h
  have hk1 : W1.heap[D]? = some (.deferred (some [])) := by
    rw [hW1, hD]
    exact (Below.heap_alloc _ _ _ (by simp)).trans (World.alloc_heap_new w _)
  have hi1 : I [] W1 := by rw [hW1]; exact hI _ _ _ (KeepL.new w _ _) h0
  refine ⟨D + 1, [{ target := .collected D, args := #[] }], W1, { target := .fn (.func gf) lb, args := #[.func (.yield (D + 1)) #[] #[]] }, W1, gf, #[.func (.yield (D + 1)) #[] #[]] ++ lb, W1, ?_, ?_, ?_, ?_, fun _ => h1, ?_⟩
  · rw [hW1, hrec, hD]; exact run_enterLoop_outer _ _ _ _ _
  · simp only [resolve, hg]
    simp [go_sem]
  · intro f' hf'
    simp [Target.leads] at hf'
    subst hf'
    exact hFg
  · simp [invoke, go_sem, eg]
  refine (hseq (D + 1) (fun pre W => I pre W ∧ W.heap[D + 1]? = some (.loop (rec .ready none)) ∧ W.heap[D]? = some (.deferred (some [])))
    (fun pre W => Ix pre W ∧ W.heap[D + 1]? = some (.loop (rec .done (some .ret))) ∧ W.heap[D]? = some (.deferred (some []))) W1 (fun s W hs => hIt s W hs.1) ?_ ⟨hi1, hl1, hk1⟩).mono ?_
  · rintro pre x W ⟨hi, hl, hk⟩ hpx
    have hlt : D + 1 < W.heap.size := (Array.getElem?_eq_some_iff.1 hl).1
    have hy := run_yield (P := P) (args := enc x) hl (by rw [hrec]; simpa using (hps x))
    rw [hrec] at hy
    refine ⟨fn, _, assign, body, hy, roundIn_of_wpIn hfn (wpIn_mono (hassign (D + 1) pre x W hi hpx (by rw [← hD]; exact hlt)) ?_)⟩
    rintro e0 a1 Wa hea
    cases e0 with
    | exit id => exact hea.elim
    | goto t => exact hea.elim
    | ret => exact hea.elim
    | panic ch => exact hea.elim
    | outgrown => exact hea.elim
    | normal =>
    obtain ⟨hda, hla, hma⟩ := hea
    rw [← hD] at hda hla
    replace hl := hla.trans hl
    replace hk := hda.trans hk
    have hlt : D + 1 < Wa.heap.size := (Array.getElem?_eq_some_iff.1 hl).1
    refine ⟨_, run_beginRound hl (by rw [hrec]), ?_⟩
    obtain ⟨W2, hW2⟩ : ∃ W2, W2 = Wa.putObj (D + 1) (.loop { rec .ready none with state := .busy }) := ⟨_, rfl⟩
    rw [← hW2]
    have hl2 : W2.heap[D + 1]? = some (.loop { rec .ready none with state := .busy }) := by rw [hW2]; exact World.putObj_heap_same hlt
    have hk2 : W2.heap[D]? = some (.deferred (some [])) := by rw [hW2]; exact (World.putObj_heap_other (by omega)).trans hk
    have hm2 : M pre x a1 W2 := by rw [hW2]; exact hM _ _ _ _ _ (by rw [← hD]; exact KeepL.putObj _ hlt) hma
    have hlt2 : w.heap.size + 1 < W2.heap.size := by rw [← hD]; exact (Array.getElem?_eq_some_iff.1 hl2).1
    refine wpIn_mono (hbody (D + 1) pre x a1 W2 hm2 hpx hlt2) ?_
    have fin : ∀ (jump : Option Code) (W3 : World), W3.heap[D]? = W2.heap[D]? → W3.heap[D + 1]? = W2.heap[D + 1]? →
        (Instr.endRound (D + 1) jump).run P W3 = .ok (.bool jump.isNone) (W3.putObj (D + 1) (.loop (rec (if jump.isNone then .ready else .done) jump))) ∧
        D + 1 < W3.heap.size ∧
        (W3.putObj (D + 1) (.loop (rec (if jump.isNone then .ready else .done) jump))).heap[D + 1]? = some (.loop (rec (if jump.isNone then .ready else .done) jump)) ∧
        (W3.putObj (D + 1) (.loop (rec (if jump.isNone then .ready else .done) jump))).heap[D]? = some (.deferred (some [])) := fun jump W3 hd3 hl3' => by
      have hl3 := hl3'.trans hl2
      have h := run_endRound (P := P) jump hl3
      rw [hrec] at h ⊢
      have hlt3 := (Array.getElem?_eq_some_iff.1 hl3).1
      exact ⟨h, hlt3, World.putObj_heap_same hlt3, (World.putObj_heap_other (by omega)).trans (hd3.trans hk2)⟩
    rintro e a3 W3 hp
    cases e with
    | normal =>
      obtain ⟨hd3, hl3, hi3⟩ := hp
      rw [← hD] at hd3 hl3
      obtain ⟨hr, hlt3, hl4, hk4⟩ := fin none W3 hd3 hl3
      exact ⟨_, _, hr, .inl ⟨rfl, hI _ _ _ (by rw [← hD]; exact KeepL.putObj _ hlt3) hi3, hl4, hk4⟩⟩
    | ret =>
      obtain ⟨hd3, hl3, hi3⟩ := hp
      rw [← hD] at hd3 hl3
      obtain ⟨hr, hlt3, hl4, hk4⟩ := fin (some .ret) W3 hd3 hl3
      exact ⟨_, _, hr, .inr ⟨rfl, hIx _ _ _ (by rw [← hD]; exact KeepL.putObj _ hlt3) hi3, hl4, hk4⟩⟩
    | exit id => exact hp.elim
    | goto t => exact hp.elim
    | panic ch => exact hp.elim
    | outgrown => exact hp.elim
  · rintro e W2 ⟨⟨v, rfl⟩, (⟨hi, hl, hk⟩ | ⟨pre, hi, hl, hk⟩)⟩
    · have hlt := (Array.getElem?_eq_some_iff.1 hl).1
      exact ⟨none, _, by have h := run_endLoop (P := P) hl (by rw [hrec]; simp); rw [hrec] at h; exact h, by
        rw [hD] at hk hl ⊢
        exact hdone _ _ rfl (hI _ _ _ (KeepL.putObj _ (by rw [← hD]; exact hlt)) hi) ((World.putObj_heap_other (by omega)).trans hk)⟩
    · have hlt := (Array.getElem?_eq_some_iff.1 hl).1
      exact ⟨some .ret, _, by have h := run_endLoop (P := P) hl (by rw [hrec]; simp); rw [hrec] at h; exact h, by
        rw [hD] at hk hl ⊢
        exact hstop _ pre _ rfl (hIx _ _ _ (KeepL.putObj _ (by rw [← hD]; exact hlt)) hi) ((World.putObj_heap_other (by omega)).trans hk)⟩
end Go.Proofs.Ytihbgigledmliaa
