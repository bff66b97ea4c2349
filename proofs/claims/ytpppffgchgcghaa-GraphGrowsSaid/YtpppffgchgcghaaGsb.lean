/-
  The graph's awake: the answers that the document fixes.
-/
import Derived.Test.YtpppffgchgcghaaGsa
namespace Go.Proofs.Ytpppffgchgcghaa
open Go.RowKit Go.Maps
set_option linter.unusedVariables false
def dA : List Nat := dig2 1 0
def dB : List Nat := dig2 2 0
def dC : List Nat := dig2 3 0
theorem d32_A : D32 dA := d32_dig2 (by omega) (by omega)
theorem d32_B : D32 dB := d32_dig2 (by omega) (by omega)
theorem d32_C : D32 dC := d32_dig2 (by omega) (by omega)
theorem neAB : dA ≠ dB := by decide
theorem neAC : dA ≠ dC := by decide
theorem neBC : dB ≠ dC := by decide
theorem dr_new (W : World) (E : TypeId) (ds : Ds) (h : ∀ d ∈ ds, D32 d) : DR (W.alloc (.cells (cellsOf ds.flatten).toArray E)) (some ⟨W.heap.size, 0, none⟩) ds.length ds := by
  refine ⟨rfl, h, by rw [flat_len ds h], fun z hz => ?_, .inr ⟨W.heap.size, 0, rfl, by simp, fun i hi => ?_⟩⟩
  · obtain ⟨d, hd1, hd2⟩ := List.mem_flatten.1 hz
    exact (h d hd1).2 z hd2
  · rw [Nat.zero_add, cell_of_row _ _ _ _ _ _ (heap_new _ _), List.getElem?_toArray]
    exact cellsOf_get _ _ (by rw [flat_len ds h]; exact hi)
/-- three boxes, and a graph beside them -/
structure AG (B g x N : Nat) (f : List Nat → Option Ds) (W : World) : Prop where
  a : W.heap[x]? = some (.cells (cellsOf dA).toArray 42 (0, 0))
  b : W.heap[x + 1]? = some (.cells (cellsOf dB).toArray 42 (0, 0))
  c : W.heap[x + 1 + 1]? = some (.cells (cellsOf dC).toArray 42 (0, 0))
  hB : B ≤ W.heap.size
  gr : ∃ V, GR B N V W g f ∧ ¬ V x ∧ ¬ V (x + 1) ∧ ¬ V (x + 1 + 1)
theorem AG.below {B g x N : Nat} {f : List Nat → Option Ds} {W W' : World} (h : AG B g x N f W) (hb : Below W.heap.size W W') : AG B g x N f W' := by
  obtain ⟨V, h1, h2⟩ := h.gr
  exact ⟨(hb.block x (Array.getElem?_eq_some_iff.1 h.a).1).trans h.a, (hb.block _ (Array.getElem?_eq_some_iff.1 h.b).1).trans h.b, (hb.block _ (Array.getElem?_eq_some_iff.1 h.c).1).trans h.c, Nat.le_trans h.hB hb.size, V, h1.below hb, h2⟩
theorem AG.la {B g x N : Nat} {f : List Nat → Option Ds} {W : World} (h : AG B g x N f W) : (Instr.loadAt 42 (.pointer (some ⟨x, 0, none⟩))).run Try.prog W = .ok (.agg (cellsOf dA).toArray) W := run_cell_dig W x dA d32_A h.a
theorem AG.lb {B g x N : Nat} {f : List Nat → Option Ds} {W : World} (h : AG B g x N f W) : (Instr.loadAt 42 (.pointer (some ⟨x + 1, 0, none⟩))).run Try.prog W = .ok (.agg (cellsOf dB).toArray) W := run_cell_dig W (x + 1) dB d32_B h.b
theorem AG.lc {B g x N : Nat} {f : List Nat → Option Ds} {W : World} (h : AG B g x N f W) : (Instr.loadAt 42 (.pointer (some ⟨x + 1 + 1, 0, none⟩))).run Try.prog W = .ok (.agg (cellsOf dC).toArray) W := run_cell_dig W (x + 1 + 1) dC d32_C h.c
/-- a node is put -/
theorem AG.put {B g x N : Nat} {f : List Nat → Option Ds} {W : World} (h : AG B g x N f W) (hN : N ≤ 1000000) (s : List Nat) (hs : D32 s) (ad : Option Addr) (n : Nat) (ds : Ds) (hd : DR W ad n ds) (hn : n ≤ 1000) (ha : ∀ b o, ad = some ⟨b, o, none⟩ → W.heap.size ≤ b + 1 ∧ x + 1 + 1 < b) (hgb : ∀ V, GR B N V W g f → ∀ b o, ad = some ⟨b, o, none⟩ → ¬ V b) :
    Calls Try.prog 23 #[.pointer (some ⟨g, 0, none⟩), .agg (cellsOf s).toArray, .slice ad n n] W fun e w' => e = .returned (.int .i64 0) ∧ AG B g x (N + 1) (fun t => if t = s then some ds else f t) w' ∧ Below B W w' := by
  obtain ⟨V, h1, h2, h3, h4⟩ := h.gr
  refine (put_c h1 h.hB (by omega) hs ad n n ds hd (Nat.le_refl _) (by omega) (hgb V h1)).mono ?_
  rintro e w' ⟨rfl, hg, hf⟩
  have hxl := (Array.getElem?_eq_some_iff.1 h.a).1
  have hxl2 := (Array.getElem?_eq_some_iff.1 h.b).1
  have hxl3 := (Array.getElem?_eq_some_iff.1 h.c).1
  refine ⟨rfl, ⟨(hf.block x hxl h2).trans h.a, (hf.block _ hxl2 h3).trans h.b, (hf.block _ hxl3 h4).trans h.c, Nat.le_trans h.hB hf.size, _, hg, fun e => h2 (ext_old _ hxl e), fun e => h3 (ext_old _ hxl2 e), fun e => h4 (ext_old _ hxl3 e)⟩, hf.below h.hB fun k hk => (h1.vb k hk).1⟩
def f0 : List Nat → Option Ds := fun _ => none
def f1 : List Nat → Option Ds := fun t => if t = dA then some [dB, dC] else f0 t
def f2 : List Nat → Option Ds := fun t => if t = dB then some [] else f1 t
def f3 : List Nat → Option Ds := fun t => if t = dC then some [dA] else f2 t
theorem f3A : f3 dA = some [dB, dC] := by
  unfold f3 f2 f1
  rw [if_neg neAC, if_neg neAB, if_pos rfl]
theorem f3B : f3 dB = some [] := by
  unfold f3 f2
  rw [if_neg neBC, if_pos rfl]
theorem f3C : f3 dC = some [dA] := by
  unfold f3
  rw [if_pos rfl]
theorem f3_some {s : List Nat} (h : (f3 s).isSome = true) : s ∈ [dA, dB, dC] := by
  by_cases h1 : s = dC
  · simp [h1]
  · by_cases h2 : s = dB
    · simp [h2]
    · by_cases h3 : s = dA
      · simp [h3]
      · unfold f3 f2 f1 f0 at h
        simp [h1, h2, h3] at h
theorem f3_len (s : List Nat) (ts : Ds) (h : f3 s = some ts) : ts.length ≤ 1000000 := by
  have := f3_some (s := s) (by rw [h]; rfl)
  simp only [List.mem_cons, List.not_mem_nil, or_false] at this
  rcases this with rfl | rfl | rfl
  · rw [f3A] at h; cases h; simp
  · rw [f3B] at h; cases h; simp
  · rw [f3C] at h; cases h; simp
theorem f3_bd (d : List Nat) : Bd f3 [d] (fun _ => false) 4 := by
  refine ⟨[dA, dB, dC], by decide, fun v _ h => f3_some h, ?_⟩
  simp [f3A, f3B, f3C]
theorem reachB : itP f3 1 ([dB], fun _ => false) = ([], bk (fun _ => false) dB) := by
  simp [itP, lookP, f3B]
theorem bkC : bk (fun _ => false) dC dA = false := by simp [bk, neAC]
theorem reachC : itP f3 3 ([dC], fun _ => false) = ([], bk (bk (bk (fun _ => false) dC) dA) dB) := by
  have h1 : lookP f3 [dC] (fun _ => false) = ([dA], bk (fun _ => false) dC) := by simp [lookP, f3C, bkC]
  have h2 : lookP f3 [dA] (bk (fun _ => false) dC) = ([dB], bk (bk (fun _ => false) dC) dA) := by
    simp [lookP, f3A, bkC]
    simp [bk, neAB.symm, neBC, neAC.symm]
  have h0 : bk (bk (fun _ => false) dC) dA dB = false := by simp [bk, neAB.symm, neBC]
  have h3 : lookP f3 [dB] (bk (bk (fun _ => false) dC) dA) = ([], bk (bk (bk (fun _ => false) dC) dA) dB) := by
    simp [lookP, f3B, h0]
  simp only [itP, h1, h2, h3]
theorem markA : itP f3 1 ([dA], fun _ => false) = ([dB, dC], bk (fun _ => false) dA) := by
  simp [itP, lookP, f3A]
  simp [bk, neAB.symm, neAC.symm]
theorem markA9 : (itP f3 9 ([dB, dC], bk (fun _ => false) dA)).1 = [] := by
  have h0 : bk (fun _ => false) dA dB = false := by simp [bk, neAB.symm]
  have h1 : lookP f3 [dB, dC] (bk (fun _ => false) dA) = ([dC], bk (bk (fun _ => false) dA) dB) := by
    simp [lookP, f3B, h0]
  have h2 : (lookP f3 [dC] (bk (bk (fun _ => false) dA) dB)).1 = [] := by
    simp [lookP, f3C]
    simp [bk, neAB, neAC]
    split <;> rfl
  have e : itP f3 2 ([dB, dC], bk (fun _ => false) dA) = lookP f3 [dC] (bk (bk (fun _ => false) dA) dB) := by simp only [itP, h1]
  have e2 : (itP f3 2 ([dB, dC], bk (fun _ => false) dA)).1 = [] := by rw [e]; exact h2
  rw [itP_done e2 (by omega)]
  exact e2
theorem keys_len {b : List Nat → Bool} {ds L : Ds} (h1 : SrtD ds) (h2 : ∀ s ∈ ds, D32 s) (h3 : ∀ s, D32 s → (s ∈ ds ↔ b s = true)) (hL : L.Nodup) (hd : ∀ s ∈ L, D32 s) (hb : ∀ s, b s = true ↔ s ∈ L) : ds.length = L.length := by
  have hn : ds.Nodup := h1.imp fun {x y} h e => by rw [e, lexc_self] at h; omega
  refine List.Perm.length_eq ((List.perm_ext_iff_of_nodup hn hL).2 fun s => ?_)
  constructor
  · intro h
    exact (hb s).1 ((h3 s (h2 s h)).1 h)
  · intro h
    exact (h3 s (hd s h)).2 ((hb s).2 h)
end Go.Proofs.Ytpppffgchgcghaa
