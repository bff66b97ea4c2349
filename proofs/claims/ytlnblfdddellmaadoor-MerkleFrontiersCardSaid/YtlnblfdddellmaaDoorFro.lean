/-
  Frontiers in memory: the walks over New and Size.
-/
import Derived.Test.YtlnblfdddellmaaDoorMpr
import Derived.Test.YtlnblfdddellmaaDoorMck
namespace Go.Proofs.YtlnblfdddellmaaDoor
open Go.RowKit
set_option linter.unusedVariables false
/-- a frontier lies at g -/
def FR (W : World) (g n : Nat) (v : Value) : Prop := W.heap[g]? = some (.cells #[.int .i64 (n : Int), v] 68 (0, 0))
theorem FR.lt {W : World} {g n : Nat} {v : Value} (h : FR W g n v) : g < W.heap.size := (Array.getElem?_eq_some_iff.1 h).1
theorem FR.below {B g n : Nat} {W W' : World} {v : Value} (h : FR W g n v) (hb : Below B W W') (hg : g < B) : FR W' g n v := (hb.block g hg).trans h
theorem FR.only {g' g n : Nat} {W W' : World} {v : Value} (h : FR W g n v) (hb : Only g' W W') (hg : g ≠ g') : FR W' g n v := (hb.block g h.lt hg).trans h
theorem FR.drew {g n : Nat} {W : World} {v : Value} (h : FR W g n v) : FR W.drew g n v := h
theorem FR.sizec {g n : Nat} {W : World} {v : Value} (h : FR W g n v) : W.cell? ⟨g, 0, none⟩ = some (.int .i64 (n : Int)) := by rw [cell_of_row _ _ _ _ _ _ h]; rfl
theorem FR.topsc {g n : Nat} {W : World} {v : Value} (h : FR W g n v) : W.cell? ⟨g, 1, none⟩ = some v := by rw [cell_of_row _ _ _ _ _ _ h]; rfl
theorem FR.froz {g n : Nat} {W : World} {v : Value} (h : FR W g n v) (j : Nat) : W.frozen? ⟨g, j, none⟩ = false := frozen_of_row _ _ _ _ _ h
theorem FR.setSize {g n : Nat} {W : World} {v : Value} (h : FR W g n v) (m : Nat) : FR (W.setCell ⟨g, 0, none⟩ (.int .i64 (m : Int))) g m v := by
  unfold FR
  rw [heap_setCell_same W g 0 _ _ _ h]
  rfl
theorem FR.setTops {g n : Nat} {W : World} {v : Value} (h : FR W g n v) (u : Value) : FR (W.setCell ⟨g, 1, none⟩ u) g n u := by
  unfold FR
  rw [heap_setCell_same W g 1 _ _ _ h]
  rfl
theorem FR.ltops {g n : Nat} {W : World} {v : Value} (h : FR W g n v) : (Instr.loadAt 28 (.pointer (some ⟨g, 1, none⟩))).run Tryd.prog W = .ok v W := by
  have hc := h.topsc
  go_simp
theorem FR.lsize {g n : Nat} {W : World} {v : Value} (h : FR W g n v) : (Instr.loadAt 3 (.pointer (some ⟨g, 0, none⟩))).run Tryd.prog W = .ok (.int .i64 (n : Int)) W := by
  have hc := h.sizec
  go_simp
/-- what turns the block g, and blocks from B on, alone -/
structure Kp (g B : Nat) (w w' : World) : Prop where
  os : w'.os = w.os
  tape : w'.tape = w.tape
  output : w'.output = w.output
  size : w.heap.size ≤ w'.heap.size
  block : ∀ k, k < B → k ≠ g → w'.heap[k]? = w.heap[k]?
theorem Kp.refl (g B : Nat) (w : World) : Kp g B w w := ⟨rfl, rfl, rfl, Nat.le_refl _, fun _ _ _ => rfl⟩
theorem Kp.trans {g B : Nat} {a b c : World} (h : Kp g B a b) (k : Kp g B b c) : Kp g B a c :=
  ⟨k.os.trans h.os, k.tape.trans h.tape, k.output.trans h.output, Nat.le_trans h.size k.size, fun i h1 h2 => (k.block i h1 h2).trans (h.block i h1 h2)⟩
theorem Kp.of {g B B' : Nat} {w w' : World} (h : Below B' w w') (hB : B ≤ B') : Kp g B w w' := ⟨h.os, h.tape, h.output, h.size, fun k h1 _ => h.block k (by omega)⟩
theorem Kp.one {g B c : Nat} {w w' : World} (h : Only c w w') (hB : B ≤ w.heap.size) (hc : c = g ∨ B ≤ c) : Kp g B w w' := ⟨h.os, h.tape, h.output, h.size, fun k h1 h2 => h.block k (by omega) (by omega)⟩
theorem Kp.below {g B B' : Nat} {w w' : World} (h : Kp g B w w') (hB : B' ≤ B) (hg : B' ≤ g) : Below B' w w' := ⟨h.os, h.tape, h.output, h.size, fun k hk => h.block k (by omega) (by omega)⟩
theorem Kp.dr {g B : Nat} {w w' : World} {a : Option Addr} {n : Nat} {ds : Ds} (hk : Kp g B w w') (h : DR w a n ds) (ha : ∀ b, blkOf a = some b → b < B ∧ b ≠ g) : DR w' a n ds := by
  obtain ⟨h0, h1, h2, h3, h4⟩ := h
  refine ⟨h0, h1, h2, h3, ?_⟩
  rcases h4 with h4 | ⟨b, off, rfl, hlt, hc⟩
  · exact .inl h4
  · obtain ⟨e1, e2⟩ := ha b rfl
    exact .inr ⟨b, off, rfl, Nat.lt_of_lt_of_le hlt hk.size, fun i hi => (World.cell?_of_block (w := w) (a := ⟨b, off + i, none⟩) (hk.block b e1 e2)).trans (hc i hi)⟩
theorem Kp.brow {g B : Nat} {w w' : World} {c : Nat} {t : TypeId} {zs : List Nat} (hk : Kp g B w w') (h : Brow w c t zs) (hc : c < B) (hg : c ≠ g) : Brow w' c t zs := (hk.block c hc hg).trans h
theorem Kp.fr {g B : Nat} {w w' : World} {c n : Nat} {v : Value} (hk : Kp g B w w') (h : FR w c n v) (hc : c < B) (hg : c ≠ g) : FR w' c n v := (hk.block c hc hg).trans h
theorem cellsOf_take (zs : List Nat) (k : Nat) : cellsOf (zs.take k) = (cellsOf zs).take k := by simp [cellsOf, List.map_take]
theorem OwnD.head {w : World} {B : Nat} {E : TypeId} {a : Option Addr} {n c : Nat} {ds : Ds} (h : OwnD w B E (.slice a n c) ds) (hd : ∀ d ∈ ds, D32 d) (k : Nat) (hk : k ≤ n) : OwnD w B E (.slice a k c) (ds.take k) := by
  obtain ⟨h1, h2⟩ := h
  rcases h2 with ⟨he, hn⟩ | ⟨g, cap, cur, he, hbg, hg, hnc, hcm, hcs, htake⟩
  · cases he
    obtain rfl : k = 0 := by omega
    exact OwnD.nil w B E
  · cases he
    have hl : (ds.take k).length = k := by rw [List.length_take]; omega
    refine ⟨by rw [cellsOf_length, flat_len _ (d32_take hd k), hl]; omega, .inr ⟨g, c, cur, by rw [hl], hbg, hg, by rw [hl]; omega, hcm, hcs, ?_⟩⟩
    rw [hl, flat_take ds hd, cellsOf_take, ← htake, List.take_take]
    congr 1
    omega
/-- how many bits of a number are 1 -/
def ones (q : Nat) : Nat := if h : q = 0 then 0 else q % 2 + ones (q / 2)
termination_by q
decreasing_by omega
theorem ones_zero : ones 0 = 0 := by rw [ones]; rfl
theorem ones_pos {q : Nat} (h : q ≠ 0) : ones q = q % 2 + ones (q / 2) := by rw [ones, dif_neg h]
theorem ones_odd {q : Nat} (h : q % 2 = 1) : ones q = ones (q / 2) + 1 := by rw [ones_pos (by omega), h]; omega
theorem ones_le (f : Nat) : ∀ q, q < 2 ^ f → ones q ≤ f := by
  induction f with
  | zero => intro q h; rw [show q = 0 by simpa using h, ones_zero]; exact Nat.le_refl _
  | succ f ih =>
    intro q h
    by_cases h0 : q = 0
    · rw [h0, ones_zero]; omega
    · rw [ones_pos h0]
      have := ih (q / 2) (by rw [Nat.pow_succ] at h; omega)
      omega
/-- one leaf more: each lowest bit that is 1 carries over -/
def carryS : Nat → Nat → Ds → List Nat → Ds
  | 0, _, ds, top => ds ++ [top]
  | f + 1, q, ds, top => if q % 2 = 1 then carryS f (q / 2) (ds.take (ds.length - 1)) (nodeS (ds.getD (ds.length - 1) []) top) else ds ++ [top]
theorem carry_len (f : Nat) : ∀ (q : Nat) (ds : Ds) (top : List Nat), q < 2 ^ f → ds.length = ones q → (carryS f q ds top).length = ones (q + 1) := by
  induction f with
  | zero =>
    intro q ds top hq hl
    obtain rfl : q = 0 := by simpa using hq
    rw [ones_zero] at hl
    rw [carryS, List.length_append, hl, ones_pos (by omega), ones_zero]
    rfl
  | succ f ih =>
    intro q ds top hq hl
    rw [carryS]
    rw [Nat.pow_succ] at hq
    by_cases h : q % 2 = 1
    · rw [if_pos h, ih (q / 2) _ _ (by omega) (by rw [List.length_take, hl, ones_odd h]; omega), ones_pos (show q + 1 ≠ 0 by omega), show (q + 1) % 2 = 0 by omega, show (q + 1) / 2 = q / 2 + 1 by omega]
      omega
    · rw [if_neg h, List.length_append, hl, ones_pos (show q + 1 ≠ 0 by omega), show (q + 1) / 2 = q / 2 by omega, show (q + 1) % 2 = 1 by omega]
      by_cases h0 : q = 0
      · subst h0; rw [ones_zero]; rfl
      · rw [ones_pos h0]
        simp
        omega
theorem carry_d32 (f : Nat) : ∀ (q : Nat) (ds : Ds) (top : List Nat), (∀ d ∈ ds, D32 d) → D32 top → ∀ d ∈ carryS f q ds top, D32 d := by
  induction f with
  | zero =>
    intro q ds top hd ht d h
    rw [carryS] at h
    rcases List.mem_append.1 h with h | h
    · exact hd d h
    · rw [List.mem_singleton.1 h]; exact ht
  | succ f ih =>
    intro q ds top hd ht d h
    rw [carryS] at h
    split at h
    · exact ih _ _ _ (d32_take hd _) (d32_sum _) d h
    · rcases List.mem_append.1 h with h | h
      · exact hd d h
      · rw [List.mem_singleton.1 h]; exact ht
set_option maxRecDepth 100000 in
theorem fnew_c (w : World) : Calls Tryd.prog 8 #[] w fun e w' => e = .returned (.pointer (some ⟨w.heap.size, 0, none⟩)) ∧ FR w' w.heap.size 0 (.slice none 0 0) ∧ Below w.heap.size w w' := by
  go_enter Tryd.func8, Tryd.ntmps8
  go_wp2_with (first | (refine wpList_buildTo (by rfl) 68 _ (by rfl) (some 1) (by rfl) #[.int .i64 0, .slice none 0 0] (by kernel_rfl) ?_))
  go_ret
  exact ⟨rfl, heap_new _ _, (Below.refl _ _).alloc (Nat.le_refl _) _⟩
set_option maxRecDepth 100000 in
theorem size_none (w : World) : Calls Tryd.prog 10 #[.pointer none] w fun e w' => e = .returned (.int .i64 0) ∧ w = w' := by
  go_enter Tryd.func10, Tryd.ntmps10
  go_wp2
  go_ret
  exact ⟨rfl, rfl⟩
set_option maxRecDepth 100000 in
theorem fsize_c (g n : Nat) (v : Value) (w : World) (h : FR w g n v) : Calls Tryd.prog 10 #[.pointer (some ⟨g, 0, none⟩)] w fun e w' => e = .returned (.int .i64 (n : Int)) ∧ w = w' := by
  have hc := h.sizec
  go_enter Tryd.func10, Tryd.ntmps10
  go_wp2
  go_ret
  exact ⟨rfl, rfl⟩
set_option maxRecDepth 100000 in
theorem tops_none (w : World) : Calls Tryd.prog 9 #[.pointer none] w fun e w' => e = .returned (.slice none 0 0) ∧ w = w' := by
  go_enter Tryd.func9, Tryd.ntmps9
  go_wp2
  go_ret
  exact ⟨rfl, rfl⟩
set_option maxRecDepth 100000 in
theorem add_none (d : List Nat) (w : World) : Calls Tryd.prog 17 #[.pointer none, .agg (cellsOf d).toArray] w fun e w' => e = .returned (.int .i64 2) ∧ Below w.heap.size w w' := by
  go_enter Tryd.func17, Tryd.ntmps17
  go_wp2
  go_ret
  exact ⟨rfl, (Below.refl _ _).alloc (Nat.le_refl _) _⟩
end Go.Proofs.YtlnblfdddellmaaDoor
