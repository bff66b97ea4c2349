/-
  A state of digest as it lies in memory: eight words, a block, how many bytes came in.
-/
import Derived.Test.YthnfbdmkdpokcaaDoorSch
import Derived.Deep.MidRow
import Derived.Laws.CopyOwn
namespace Go.Proofs.YthnfbdmkdpokcaaDoor
open Go.RowKit
set_option linter.unusedVariables false

/-- all blocks but g are as they were -/
structure Only (g : Nat) (w w' : World) : Prop where
  os : w'.os = w.os
  tape : w'.tape = w.tape
  output : w'.output = w.output
  size : w.heap.size ≤ w'.heap.size
  block : ∀ k, k < w.heap.size → k ≠ g → w'.heap[k]? = w.heap[k]?
theorem Only.refl (g : Nat) (w : World) : Only g w w := ⟨rfl, rfl, rfl, Nat.le_refl _, fun _ _ _ => rfl⟩
theorem Only.trans {g : Nat} {a b c : World} (h : Only g a b) (k : Only g b c) : Only g a c :=
  ⟨k.os.trans h.os, k.tape.trans h.tape, k.output.trans h.output, Nat.le_trans h.size k.size, fun i hi hg => (k.block i (Nat.lt_of_lt_of_le hi h.size) hg).trans (h.block i hi hg)⟩
theorem Only.below {g B : Nat} {w w' : World} (h : Only g w w') (hB : B ≤ g) (hB2 : B ≤ w.heap.size) : Below B w w' :=
  ⟨h.os, h.tape, h.output, h.size, fun k hk => h.block k (by omega) (by omega)⟩
theorem Only.of {g : Nat} {w w' : World} (h : Below w.heap.size w w') : Only g w w' :=
  ⟨h.os, h.tape, h.output, h.size, fun k hk _ => h.block k hk⟩
theorem Only.setCell {g : Nat} {a w : World} (h : Only g a w) (o : Nat) (u : Value) : Only g a (w.setCell ⟨g, o, none⟩ u) :=
  ⟨h.os, h.tape, h.output, by simp [h.size], fun k hk hg => (Below.heap_setCell _ _ _ _ hg).trans (h.block k hk hg)⟩
theorem Only.drewN {g : Nat} {a w : World} (h : Only g a w) (n : Nat) : Only g a (w.drewN n) := ⟨h.os, h.tape, h.output, h.size, h.block⟩
theorem Only.drew {g : Nat} {a w : World} (h : Only g a w) : Only g a w.drew := ⟨h.os, h.tape, h.output, h.size, h.block⟩
theorem Only.setCells {g : Nat} : ∀ (vs : List Value) (o : Nat) {a w : World} (_ : Only g a w), Only g a (w.setCells g o vs)
  | [], _, _, _, h => h
  | v :: r, o, a, w, h => by rw [World.setCells]; exact Only.setCells r (o + 1) (h.setCell o v)
theorem Only.rd {g : Nat} {w w' : World} (h : Only g w w') {a : Option Addr} {len : Nat} {zs : List Nat} (hr : Rd w a len zs) (hg : ∀ b off, a = some ⟨b, off, none⟩ → b ≠ g) : Rd w' a len zs := by
  obtain ⟨h1, h2, h3⟩ := hr
  refine ⟨h1, h2, ?_⟩
  rcases h3 with h0 | ⟨b, off, ha, hlt, hc⟩
  · exact .inl h0
  · exact .inr ⟨b, off, ha, Nat.lt_of_lt_of_le hlt h.size, fun i hi => (World.cell?_of_block (w := w) (a := ⟨b, off + i, none⟩) (h.block b hlt (hg b off ha))).trans (hc i hi)⟩

/-- the cells of a state -/
def stCells (hs bs : List Nat) (n : Nat) : List Value := wordsOf hs ++ (cellsOf bs ++ [Value.int .i64 (n : Int)])
theorem wordsOf_length (ws : List Nat) : (wordsOf ws).length = ws.length := by simp [wordsOf]
/-- a state lies at g -/
structure St (w : World) (g : Nat) (hs bs : List Nat) (n : Nat) : Prop where
  row : w.heap[g]? = some (.cells (stCells hs bs n).toArray 100 (0, 0))
  w8 : Sha.W8 hs
  bl : bs.length = 64
  bb : ∀ z ∈ bs, z < 256
  nn : n ≤ 2305843009213693951
theorem stCells_len {hs bs : List Nat} {n : Nat} (h : hs.length = 8) (hb : bs.length = 64) : (stCells hs bs n).length = 73 := by
  simp [stCells, wordsOf_length, cellsOf_length, h, hb]
theorem St.len {w : World} {g : Nat} {hs bs : List Nat} {n : Nat} (h : St w g hs bs n) : (stCells hs bs n).length = 73 := stCells_len h.w8.1 h.bl
theorem St.lt {w : World} {g : Nat} {hs bs : List Nat} {n : Nat} (h : St w g hs bs n) : g < w.heap.size := (Array.getElem?_eq_some_iff.1 h.row).1
theorem St.cellq {w : World} {g : Nat} {hs bs : List Nat} {n : Nat} (h : St w g hs bs n) (j : Nat) : w.cell? ⟨g, j, none⟩ = (stCells hs bs n)[j]? := by
  rw [cell_of_row w g j _ _ _ h.row]; simp
theorem St.froz {w : World} {g : Nat} {hs bs : List Nat} {n : Nat} (h : St w g hs bs n) (j : Nat) : w.frozen? ⟨g, j, none⟩ = false := frozen_of_row w g j _ _ h.row
theorem St.words {w : World} {g : Nat} {hs bs : List Nat} {n : Nat} (h : St w g hs bs n) : w.rangeAt g 0 (wordsOf hs) := fun j v hv => by
  rw [Nat.zero_add, h.cellq]
  unfold stCells
  rw [List.getElem?_append_left (List.getElem?_eq_some_iff.1 hv).1, hv]
theorem St.block {w : World} {g : Nat} {hs bs : List Nat} {n : Nat} (h : St w g hs bs n) : w.rangeAt g 8 (cellsOf bs) := fun j v hv => by
  rw [h.cellq]
  unfold stCells
  rw [List.getElem?_append_right (by rw [wordsOf_length, h.w8.1]; omega), wordsOf_length, h.w8.1, Nat.add_sub_cancel_left, List.getElem?_append_left (List.getElem?_eq_some_iff.1 hv).1, hv]
theorem St.size {w : World} {g : Nat} {hs bs : List Nat} {n : Nat} (h : St w g hs bs n) : w.cell? ⟨g, 72, none⟩ = some (.int .i64 (n : Int)) := by
  rw [h.cellq]
  unfold stCells
  rw [List.getElem?_append_right (by rw [wordsOf_length, h.w8.1]; omega), wordsOf_length, h.w8.1, List.getElem?_append_right (by rw [cellsOf_length, h.bl]; omega), cellsOf_length, h.bl]
  rfl
theorem St.there {w : World} {g : Nat} {hs bs : List Nat} {n : Nat} (h : St w g hs bs n) (o m : Nat) (hm : o + m ≤ 73) : w.there g o m := fun j hj => by
  refine ⟨?_, h.froz _⟩
  have := h.len
  rw [h.cellq, List.getElem?_eq_getElem (by omega)]
  rfl
/-- the bytes of the block can be read -/
theorem St.rd {w : World} {g : Nat} {hs bs : List Nat} {n : Nat} (h : St w g hs bs n) (k m : Nat) (hk : k + m ≤ 64) : Rd w (some ⟨g, 8 + k, none⟩) m ((bs.drop k).take m) := by
  have hl := h.bl
  refine ⟨by rw [List.length_take, List.length_drop]; omega, fun z hz => h.bb z (List.mem_of_mem_drop (List.mem_of_mem_take hz)), .inr ⟨g, 8 + k, rfl, h.lt, fun i hi => ?_⟩⟩
  have e := h.block (k + i) (.int .u8 ((bs.getD (k + i) 0 : Nat) : Int)) (cellsOf_get _ _ (by omega))
  rw [Nat.add_assoc, e]
  simp [hi]
theorem St.drewN {w : World} {g : Nat} {hs bs : List Nat} {n : Nat} (h : St w g hs bs n) (q : Nat) : St (w.drewN q) g hs bs n := ⟨h.row, h.w8, h.bl, h.bb, h.nn⟩
theorem St.drew {w : World} {g : Nat} {hs bs : List Nat} {n : Nat} (h : St w g hs bs n) : St w.drew g hs bs n := ⟨h.row, h.w8, h.bl, h.bb, h.nn⟩
theorem St.below {B : Nat} {w w' : World} {g : Nat} {hs bs : List Nat} {n : Nat} (h : St w g hs bs n) (hb : Below B w w') (hg : g < B) : St w' g hs bs n := ⟨(hb.block g hg).trans h.row, h.w8, h.bl, h.bb, h.nn⟩
theorem St.only {g' : Nat} {w w' : World} {g : Nat} {hs bs : List Nat} {n : Nat} (h : St w g hs bs n) (hb : Only g' w w') (hg : g ≠ g') : St w' g hs bs n := ⟨(hb.block g h.lt hg).trans h.row, h.w8, h.bl, h.bb, h.nn⟩
/-- the number is stored -/
theorem St.setSize {w : World} {g : Nat} {hs bs : List Nat} {n : Nat} (h : St w g hs bs n) (m : Nat) (hm : m ≤ 2305843009213693951) : St (w.setCell ⟨g, 72, none⟩ (.int .i64 (m : Int))) g hs bs m := by
  refine ⟨?_, h.w8, h.bl, h.bb, hm⟩
  rw [heap_setCell_same w g 72 _ _ _ h.row]
  congr 2
  unfold stCells
  rw [List.setIfInBounds_toArray, List.set_append_right _ _ (by rw [wordsOf_length, h.w8.1]; omega), wordsOf_length, h.w8.1, List.set_append_right _ _ (by rw [cellsOf_length, h.bl]; omega), cellsOf_length, h.bl]
  rfl
theorem setCells_row (g : Nat) (t : TypeId) : ∀ (vs : List Value) (o : Nat) (cur : List Value) (w : World), w.heap[g]? = some (.cells cur.toArray t (0, 0)) → o + vs.length ≤ cur.length →
    (w.setCells g o vs).heap[g]? = some (.cells (splice cur o vs).toArray t (0, 0))
  | [], o, cur, w, hg, hl => by simpa [World.setCells, splice] using hg
  | v :: r, o, cur, w, hg, hl => by
    rw [World.setCells]
    have h1 := heap_setCell_same w g o _ _ v hg
    rw [List.setIfInBounds_toArray] at h1
    rw [setCells_row g t r (o + 1) (cur.set o v) _ h1 (by simp at hl ⊢; omega)]
    congr 2
    have := list_seg_step cur o v r (by simp at hl; omega)
    unfold splice
    simp only [List.append_assoc] at this
    rw [this]
    simp only [List.cons_append, List.length_cons]
/-- the words are stored -/
theorem St.setWords {w : World} {g : Nat} {hs bs : List Nat} {n : Nat} (h : St w g hs bs n) (hs' : List Nat) (h8 : Sha.W8 hs') : St (w.setCells g 0 (wordsOf hs')) g hs' bs n := by
  refine ⟨?_, h8, h.bl, h.bb, h.nn⟩
  rw [setCells_row g _ _ _ _ _ h.row (by rw [h.len, wordsOf_length, h8.1]; omega)]
  congr 2
  unfold splice stCells
  rw [List.take_zero, List.nil_append, Nat.zero_add, wordsOf_length, h8.1, List.drop_append, List.drop_eq_nil_of_le (by rw [wordsOf_length, h.w8.1]; omega), wordsOf_length, h.w8.1]
  rfl
theorem cellsOf_splice (bs xs : List Nat) (k : Nat) : cellsOf (splice bs k xs) = splice (cellsOf bs) k (cellsOf xs) := by
  simp [splice, cellsOf, List.map_take, List.map_drop]
theorem splice_mem {bs xs : List Nat} {k : Nat} (hb : ∀ z ∈ bs, z < 256) (hx : ∀ z ∈ xs, z < 256) : ∀ z ∈ splice bs k xs, z < 256 := by
  intro z hz
  simp only [splice, List.mem_append] at hz
  rcases hz with h | h | h
  · exact hb z (List.mem_of_mem_take h)
  · exact hx z h
  · exact hb z (List.mem_of_mem_drop h)
/-- bytes are copied into the block -/
theorem St.copied {w w' : World} {g : Nat} {hs bs : List Nat} {n : Nat} (h : St w g hs bs n) (k : Nat) (xs : List Nat) (hx : ∀ z ∈ xs, z < 256) (hk : k + xs.length ≤ 64)
    (hr : w'.heap[g]? = some (.cells (splice (stCells hs bs n) (8 + k) (cellsOf xs)).toArray 100 (0, 0))) : St w' g hs (splice bs k xs) n := by
  refine ⟨?_, h.w8, by rw [length_splice _ _ _ (by rw [h.bl]; omega), h.bl], splice_mem h.bb hx, h.nn⟩
  rw [hr]
  congr 2
  unfold stCells
  rw [cellsOf_splice]
  have h8 : (wordsOf hs).length = 8 := by rw [wordsOf_length, h.w8.1]
  have hb : (cellsOf bs).length = 64 := by rw [cellsOf_length, h.bl]
  have hxl : (cellsOf xs).length = xs.length := cellsOf_length xs
  generalize wordsOf hs = W at *
  generalize cellsOf bs = C at *
  generalize cellsOf xs = X at *
  unfold splice
  rw [List.take_append, h8, List.take_of_length_le (by omega), show 8 + k - 8 = k by omega, List.take_append_of_le_length (by omega), List.drop_append, List.drop_eq_nil_of_le (by omega), h8, List.nil_append,
    show 8 + k + X.length - 8 = k + X.length by omega, List.drop_append_of_le_length (by omega)]
  simp
end Go.Proofs.YthnfbdmkdpokcaaDoor
