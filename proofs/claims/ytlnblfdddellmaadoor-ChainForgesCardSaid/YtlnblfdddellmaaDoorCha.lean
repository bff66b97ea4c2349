/-
  Arrays of 67 sums: reading one, writing one, comparing two.
-/
import Derived.Test.YtlnblfdddellmaaDoorZcl
import Derived.Test.YtlnblfdddellmaaDoorChi
import Derived.Test.YtlnblfdddellmaaDoorDgl
namespace Go.Proofs.YtlnblfdddellmaaDoor
open Go.RowKit
set_option linter.unusedVariables false
def D67 (ds : Ds) : Prop := ds.length = 67 ∧ ∀ d ∈ ds, D32 d
def zs7 : Ds := List.replicate 67 zs32
theorem d67_zero : D67 zs7 := ⟨by simp [zs7], fun d hd => by rw [List.eq_of_mem_replicate hd]; exact d32_zero⟩
theorem D67.flat {ds : Ds} (h : D67 ds) : ds.flatten.length = 2144 := by rw [flat_len ds h.2, h.1]
theorem D67.bytes {ds : Ds} (h : D67 ds) : ∀ z ∈ ds.flatten, z < 256 := fun z hz => by
  obtain ⟨d, h1, h2⟩ := List.mem_flatten.1 hz
  exact (h.2 d h1).2 z h2
theorem D67.get {ds : Ds} (h : D67 ds) (i : Nat) (hi : i < 67) : D32 (ds.getD i []) := D32.get h.2 i (by rw [h.1]; exact hi)
theorem D67.set {ds : Ds} (h : D67 ds) (i : Nat) {d : List Nat} (hd : D32 d) : D67 (ds.set i d) := by
  refine ⟨by rw [List.length_set, h.1], fun x hx => ?_⟩
  rcases List.mem_or_eq_of_mem_set hx with h1 | rfl
  · exact h.2 x h1
  · exact hd
theorem flat_set (ds : Ds) (h : ∀ d ∈ ds, D32 d) (i : Nat) (hi : i < ds.length) (d : List Nat) (hd : d.length = 32) : splice ds.flatten (32 * i) d = (ds.set i d).flatten := by
  induction ds generalizing i with
  | nil => simp at hi
  | cons e ds ih =>
    have he := (h e (List.mem_cons_self ..)).1
    cases i with
    | zero =>
      simp only [splice, Nat.mul_zero, List.take_zero, List.nil_append, Nat.zero_add, List.set_cons_zero, List.flatten_cons, hd]
      rw [← he, List.drop_left]
    | succ i =>
      have := ih (fun x hx => h x (List.mem_cons_of_mem _ hx)) i (by simpa using hi)
      simp only [splice, List.set_cons_succ, List.flatten_cons] at this ⊢
      rw [← this, show 32 * (i + 1) = e.length + 32 * i by rw [he]; omega]
      rw [List.take_length_add_append, show e.length + 32 * i + d.length = e.length + (32 * i + d.length) by omega, List.drop_length_add_append]
      simp only [List.append_assoc]
theorem flat_at (ds : Ds) (h : ∀ d ∈ ds, D32 d) (i : Nat) (hi : i < ds.length) : (ds.flatten.drop (32 * i)).take 32 = ds.getD i [] := by
  rw [← flat_drop ds h]
  have := flat_take (ds.drop i) (d32_drop h i) 1
  rw [Nat.mul_one] at this
  rw [← this, List.drop_eq_getElem_cons hi, List.take_succ_cons, List.take_zero]
  simp [List.getD_eq_getElem?_getD, List.getElem?_eq_getElem hi]
theorem cells_at (ds : Ds) (h : ∀ d ∈ ds, D32 d) (i : Nat) (hi : i < ds.length) : (cellsOf ds.flatten).toArray.extract (i * 32) (i * 32 + 32) = (cellsOf (ds.getD i [])).toArray := by
  rw [← flat_at ds h i hi, List.extract_toArray, List.extract_eq_take_drop, Nat.add_sub_cancel_left, Nat.mul_comm i 32]
  simp only [cellsOf, List.map_take, List.map_drop]
theorem cells_at' (ds : Ds) (h : ∀ d ∈ ds, D32 d) (i : Nat) (hi : i < ds.length) : List.take 32 (List.drop (i * 32) (cellsOf ds.flatten)) = cellsOf (ds[i]?.getD []) := by
  have := flat_at ds h i hi
  rw [List.getD_eq_getElem?_getD] at this
  rw [← this, Nat.mul_comm i 32]
  simp only [cellsOf, List.map_take, List.map_drop]
theorem Brow.setMid {w : World} {g : Nat} {t : TypeId} {ds : Ds} (h : Brow w g t ds.flatten) (hd : ∀ d ∈ ds, D32 d) (i : Nat) (hi : i < ds.length) (d : List Nat) (hdl : d.length = 32) : Brow (w.setCells g (32 * i) (cellsOf d)) g t (ds.set i d).flatten := by
  have hl := flat_len ds hd
  have := setCells_row g t (cellsOf d) (32 * i) (cellsOf ds.flatten) w h (by rw [cellsOf_length, cellsOf_length]; omega)
  rw [← cellsOf_splice, flat_set ds hd i hi d hdl] at this
  exact this
theorem Brow.thereMid {w : World} {g : Nat} {t : TypeId} {zs : List Nat} (h : Brow w g t zs) (o m : Nat) (hm : o + m ≤ zs.length) : w.there g o m := fun j hj => by
  rw [cell_of_row _ _ _ _ _ _ h, frozen_of_row _ _ _ _ _ h]
  rw [List.getElem?_toArray, cellsOf_get _ _ (by omega)]
  exact ⟨rfl, rfl⟩
theorem Brow.part {w : World} {g : Nat} {t : TypeId} {ds : Ds} (h : Brow w g t ds.flatten) (hd : ∀ d ∈ ds, D32 d) (i : Nat) (hi : i < ds.length) : w.rangeAt g (32 * i) (cellsOf (ds.getD i [])) := fun j v hv => by
  have hj : j < 32 := by
    have := (List.getElem?_eq_some_iff.1 hv).1
    rw [cellsOf_length, (D32.get hd i hi).1] at this
    exact this
  have hl := flat_len ds hd
  rw [cell_of_row _ _ _ _ _ _ h, List.getElem?_toArray, cellsOf_get _ _ (by omega), flat_get ds hd i j hi hj]
  rw [cellsOf_get _ _ (by rw [(D32.get hd i hi).1]; exact hj)] at hv
  exact hv
theorem info_a7 : (Tryd.prog.info? 53).map (·.size) = some 2144 := by kernel_rfl
theorem info_r7 : (Tryd.prog.info? 49).map (·.size) = some 2144 := by kernel_rfl
theorem size_a (W : World) : (Go.sizeOf 32).run Tryd.prog W = .ok 32 W := by kernel_rfl
theorem size_r (W : World) : (Go.sizeOf 31).run Tryd.prog W = .ok 32 W := by kernel_rfl
theorem run_index_digs (T E : TypeId) (hT : Tryd.prog.underlying T = some (.array 67 E)) (hE : Tryd.prog.underlying E = some (.array 32 5)) (hs : ∀ W, (Go.sizeOf E).run Tryd.prog W = .ok 32 W) (ds : Ds) (h : D67 ds) (i : Nat) (hi : i < 67) (W : World) :
    (Instr.index T (.agg (cellsOf ds.flatten).toArray) (.int .i64 (i : Int))).run Tryd.prog W = .ok (.agg (cellsOf (ds.getD i [])).toArray) W := by
  have hc := cells_at' ds h.2 i (by rw [h.1]; exact hi)
  simp [Instr.index, run_underlying hT, asIntOf, go_sem]
  rw [if_pos (by omega)]
  simp [isAgg, run_underlying hE, hs, hc, Result.andThen]
theorem run_part_digs (E : TypeId) (hE : Tryd.prog.underlying E = some (.array 32 5)) (hs : ∀ W, (Go.sizeOf E).run Tryd.prog W = .ok 32 W) (ds : Ds) (h : ∀ d ∈ ds, D32 d) (i : Nat) (hi : i < ds.length) (W : World) :
    (part E (cellsOf ds.flatten).toArray (i * 32)).run Tryd.prog W = .ok (.agg (cellsOf (ds.getD i [])).toArray) W := by
  have hc := cells_at' ds h i hi
  simp [part, isAgg, run_underlying hE, hs, hc]
theorem eq_digF (d t n : Nat) (hu : Tryd.prog.underlying t = some (.array n 5)) (W : World) (a b : List Nat) (la : a.length = n) (lb : b.length = n) (ha : ∀ z ∈ a, z < 256) (hb : ∀ z ∈ b, z < 256) :
    (Op.equalIn (d + 2) t (.agg (cellsOf a).toArray) (.agg (cellsOf b).toArray)).run Tryd.prog W = .ok (decide (a = b)) W := by
  rw [eq_cells a ha, eq_cells b hb, ← map_u8_inj ha hb]
  exact run_equalIn_bytes W d t 5 n hu Tryd.underlying5 (fun w => sizeOf_u8 w) _ _ (by simp [la]) (by simp [lb])
theorem all_digs (ds es : Ds) (h : ds.length = es.length) : ((List.range ds.length).all fun i => decide (ds.getD i [] = es.getD i [])) = decide (ds = es) := by
  rw [Bool.eq_iff_iff]
  simp only [List.all_eq_true, List.mem_range, decide_eq_true_eq]
  constructor
  · intro H
    apply List.ext_getElem?
    intro i
    by_cases hi : i < ds.length
    · have := H i hi
      rw [List.getD_eq_getElem?_getD, List.getD_eq_getElem?_getD, List.getElem?_eq_getElem hi, List.getElem?_eq_getElem (by omega)] at this
      rw [List.getElem?_eq_getElem hi, List.getElem?_eq_getElem (by omega)]
      simpa using this
    · rw [List.getElem?_eq_none (by omega), List.getElem?_eq_none (by omega)]
  · rintro rfl; intro i hi; rfl
theorem eq_digs (T E : TypeId) (hT : Tryd.prog.underlying T = some (.array 67 E)) (hE : Tryd.prog.underlying E = some (.array 32 5)) (hs : ∀ W, (Go.sizeOf E).run Tryd.prog W = .ok 32 W) (ds es : Ds) (hd : D67 ds) (he : D67 es) (w : World) :
    (Op.equalIn 10000 T (.agg (cellsOf ds.flatten).toArray) (.agg (cellsOf es.flatten).toArray)).run Tryd.prog w = .ok (decide (ds = es)) w := by
  rw [← all_digs ds es (hd.1.trans he.1.symm), hd.1, List.range_eq_range', show (10000 : Nat) = 9999 + 1 from rfl, Op.equalIn]
  simp only [Sem.run_bind, run_underlying hT, Result.andThen_ok, hs, Std.Legacy.Range.forIn_eq_forIn_range', Std.Legacy.Range.size, Nat.sub_zero, Nat.add_sub_cancel, Nat.div_one]
  have hl : ∀ i ∈ List.range' 0 67 1, i < 67 := fun i hi => by simpa using (List.mem_range'_1.1 hi).2
  generalize List.range' 0 67 1 = l at hl ⊢
  induction l with
  | nil => simp
  | cons i l ih =>
    have hi : i < 67 := hl i (by simp)
    have px := run_part_digs E hE hs ds hd.2 i (by rw [hd.1]; exact hi) w
    have py := run_part_digs E hE hs es he.2 i (by rw [he.1]; exact hi) w
    have pe := eq_digF 9997 E 32 hE w (ds.getD i []) (es.getD i []) (hd.get i hi).1 (he.get i hi).1 (hd.get i hi).2 (he.get i hi).2
    simp only [List.forIn_cons, Sem.run_bind, px, py, pe, Result.andThen_ok, List.all_cons]
    cases hb : (decide (ds.getD i [] = es.getD i []))
    · simp
    · simp only [Bool.not_true, Bool.false_eq_true, if_false, Sem.run_pure, Result.andThen_ok, Bool.true_and]
      exact ih fun j hj => hl j (by simp [hj])
theorem index_a (ds : Ds) (h : D67 ds) (i : Nat) (hi : i < 67) (W : World) : (Instr.index 53 (.agg (cellsOf ds.flatten).toArray) (.int .i64 (i : Int))).run Tryd.prog W = .ok (.agg (cellsOf (ds.getD i [])).toArray) W :=
  run_index_digs _ 32 Tryd.underlying53 Tryd.underlying32 size_a ds h i hi W
theorem index_r (ds : Ds) (h : D67 ds) (i : Nat) (hi : i < 67) (W : World) : (Instr.index 49 (.agg (cellsOf ds.flatten).toArray) (.int .i64 (i : Int))).run Tryd.prog W = .ok (.agg (cellsOf (ds.getD i [])).toArray) W :=
  run_index_digs _ 31 Tryd.underlying49 Tryd.underlying31 size_r ds h i hi W
theorem eq_r7 (ds es : Ds) (hd : D67 ds) (he : D67 es) (w : World) : (Op.equalIn 10000 49 (.agg (cellsOf ds.flatten).toArray) (.agg (cellsOf es.flatten).toArray)).run Tryd.prog w = .ok (decide (ds = es)) w :=
  eq_digs _ 31 Tryd.underlying49 Tryd.underlying31 size_r ds es hd he w
theorem info_ds7 (T : TypeId) (hi : (Tryd.prog.info? T).map (·.size) = some 2144) {ds : Ds} (h : D67 ds) : (Tryd.prog.info? T).map (·.size) = some (cellsOf ds.flatten).toArray.size := by rw [cellsOf_size, h.flat]; exact hi
theorem size_ds7 {ds es : Ds} (h : D67 ds) (h' : D67 es) : (cellsOf ds.flatten).toArray.size = (cellsOf es.flatten).toArray.size := by rw [cellsOf_size, cellsOf_size, h.flat, h'.flat]
end Go.Proofs.YtlnblfdddellmaaDoor
