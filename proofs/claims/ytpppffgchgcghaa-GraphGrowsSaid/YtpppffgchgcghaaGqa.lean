/-
  A queue of sums in memory: a slice of a row of its own, from some place of the row on; its head is cut off, sums are laid behind it.
-/
import Derived.Test.YtpppffgchgcghaaGma
namespace Go.Proofs.Ytpppffgchgcghaa
open Go.RowKit Go.Maps
set_option linter.unusedVariables false
def QR (w : World) (B : Nat) (v : Value) (ds : Ds) : Prop := (∀ d ∈ ds, D32 d) ∧ ((v = .slice none 0 0 ∧ ds = []) ∨ ∃ g o cap cur, v = .slice (some ⟨g, o * 32, none⟩) ds.length cap ∧ B ≤ g ∧ w.heap[g]? = some (.cells cur 42 (0, 0)) ∧ ds.length ≤ cap ∧ cap ≤ maxLen ∧ (o + cap) * 32 ≤ cur.size ∧ (cur.toList.drop (o * 32)).take (ds.length * 32) = cellsOf ds.flatten)
theorem QR.ofOwn {w : World} {B : Nat} {v : Value} {ds : Ds} (h : OwE w B v ds) (hd : ∀ d ∈ ds, D32 d) : QR w B v ds := by
  refine ⟨hd, ?_⟩
  rcases h.2 with ⟨rfl, hn⟩ | ⟨g, cap, cur, rfl, hbg, hg, hnc, hcm, hcs, htake⟩
  · exact .inl ⟨rfl, List.eq_nil_of_length_eq_zero hn⟩
  · refine .inr ⟨g, 0, cap, cur, by rw [Nat.zero_mul], hbg, hg, hnc, hcm, by omega, ?_⟩
    rw [Nat.zero_mul, List.drop_zero]
    exact htake
theorem QR.keep {w w' : World} {B : Nat} {v : Value} {ds : Ds} (h : QR w B v ds) (hk : ∀ k, v.ownBlock = some k → w'.heap[k]? = w.heap[k]?) : QR w' B v ds :=
  ⟨h.1, h.2.imp id fun ⟨g, o, cap, cur, e, hb, hg, r⟩ => ⟨g, o, cap, cur, e, hb, (hk g (by rw [e]; rfl)).trans hg, r⟩⟩
theorem QR.block {w : World} {B : Nat} {v : Value} {ds : Ds} (h : QR w B v ds) : ∀ k, v.ownBlock = some k → B ≤ k ∧ k < w.heap.size ∧ ∃ cur, w.heap[k]? = some (.cells cur 42 (0, 0)) := by
  intro k hk
  rcases h.2 with ⟨rfl, _⟩ | ⟨g, o, cap, cur, rfl, hb, hg, _⟩
  · cases hk
  · cases hk
    exact ⟨hb, (Array.getElem?_eq_some_iff.1 hg).1, cur, hg⟩
theorem QR.dr {w : World} {B : Nat} {v : Value} {ds : Ds} (h : QR w B v ds) : ∃ a cap, v = .slice a ds.length cap ∧ ds.length ≤ cap ∧ cap ≤ maxLen ∧ (a = none → cap = 0) ∧ DR w a ds.length ds := by
  have hb : ∀ z ∈ ds.flatten, z < 256 := fun z hz => by
    obtain ⟨d, hd1, hd2⟩ := List.mem_flatten.1 hz
    exact (h.1 d hd1).2 z hd2
  rcases h.2 with ⟨rfl, rfl⟩ | ⟨g, o, cap, cur, rfl, hbg, hg, hnc, hcm, hcs, htake⟩
  · exact ⟨none, 0, rfl, Nat.le_refl _, Nat.zero_le _, fun _ => rfl, DR.nil w⟩
  · refine ⟨_, cap, rfl, hnc, hcm, by simp, rfl, h.1, by rw [flat_len ds h.1], hb, .inr ⟨g, o * 32, rfl, (Array.getElem?_eq_some_iff.1 hg).1, fun i hi => ?_⟩⟩
    have hc := cellsOf_get ds.flatten i (by rw [flat_len ds h.1]; exact hi)
    rw [← htake, List.getElem?_take, if_pos (by omega), List.getElem?_drop] at hc
    rw [cell_of_row w g _ _ _ _ hg]
    simpa using hc
theorem QR.len {w : World} {B : Nat} {ds : Ds} {a : Option Addr} {n cap : Nat} (h : QR w B (.slice a n cap) ds) : n = ds.length := by
  obtain ⟨a', cap', e, _⟩ := h.dr
  exact (Value.slice.inj e).2.1
/-- the head is cut off -/
theorem QR.cut {w : World} {B : Nat} {a : Option Addr} {n cap : Nat} {d : List Nat} {r : Ds} (h : QR w B (.slice a n cap) (d :: r)) : QR w B (.slice (sld a cap 1) (n - 1) (cap - 1)) r := by
  refine ⟨fun x hx => h.1 x (List.mem_cons_of_mem _ hx), ?_⟩
  have hd := (h.1 d (List.mem_cons_self ..)).1
  rcases h.2 with ⟨_, e⟩ | ⟨g, o, cp, cur, e, hbg, hg, hnc, hcm, hcs, htake⟩
  · cases e
  · obtain ⟨rfl, rfl, rfl⟩ := Value.slice.inj e
    rw [List.length_cons] at hnc htake
    have ht2 : (cur.toList.drop ((o + 1) * 32)).take (r.length * 32) = cellsOf r.flatten := by
      have := congrArg (List.drop 32) htake
      rw [List.flatten_cons, cellsOf_append, List.drop_left' (by rw [cellsOf_length, hd])] at this
      rw [← this, List.drop_take, List.drop_drop]
      congr 1
      · omega
      · congr 1
        omega
    by_cases hc : cap = 1
    · subst hc
      have hr : r = [] := List.eq_nil_of_length_eq_zero (by omega)
      subst hr
      exact .inr ⟨g, o, 0, cur, by simp [sld], hbg, hg, by simp, by omega, by omega, by simp [cellsOf]⟩
    · refine .inr ⟨g, o + 1, cap - 1, cur, ?_, hbg, hg, by omega, by omega, by omega, ht2⟩
      simp only [sld, if_neg hc, Option.map_some, List.length_cons, Addr.add_mid, Nat.add_sub_cancel]
      rw [show o * 32 + 1 * 32 = (o + 1) * 32 by omega]
theorem drop_take_append (xs ys : List Value) (k : Nat) (h : xs.length = k) : (xs ++ ys).drop k = ys := by subst h; exact List.drop_left
theorem row_push (X d : List Value) (a n m : Nat) (hX : a + n + m ≤ X.length) (hd : d.length = m) : ((X.take (a + n) ++ d ++ X.drop (a + n + m)).drop a).take (n + m) = (X.drop a).take n ++ d := by
  rw [show X.take (a + n) = X.take a ++ (X.drop a).take n from List.take_add, List.append_assoc, List.append_assoc, drop_take_append _ _ _ (by rw [List.length_take]; omega), ← List.append_assoc]
  exact List.take_left' (by rw [List.length_append, List.length_take, List.length_drop, hd]; omega)
/-- a sum is laid behind -/
theorem QR.push {w : World} {B : Nat} {v : Value} {ds : Ds} (h : QR w B v ds) (hB : B ≤ w.heap.size) {d : List Nat} (hd : D32 d) (hn : ds.length + 1 ≤ 1000000000) (ty : TypeId) :
    ∃ v' w', (Builtin.append_ #[38, 38] ty #[v, .slice (some ⟨w.heap.size, 0, none⟩) 1 1]).run Try.prog (w.alloc (.cells (cellsOf d).toArray 42)) = .ok v' w' ∧ QR w' B v' (ds ++ [d]) ∧ (w.alloc (.cells (cellsOf d).toArray 42)).grownBy w' v.ownBlock ∧ (v'.ownBlock = v.ownBlock ∨ ∃ k, v'.ownBlock = some k ∧ w.heap.size ≤ k) := by
  obtain ⟨i0, z, hi, hz, hsz, hby, hzs⟩ := dtA.info
  have hD : ∀ x ∈ ds ++ [d], D32 x := fun x hx => by
    rcases List.mem_append.1 hx with hx | hx
    · exact h.1 x hx
    · rw [List.mem_singleton] at hx; subst hx; exact hd
  have hlen : (ds ++ [d]).length = ds.length + 1 := by simp
  have hfl : cellsOf (ds ++ [d]).flatten = cellsOf ds.flatten ++ cellsOf d := by rw [List.flatten_append, List.flatten_cons, List.flatten_nil, List.append_nil, cellsOf_append]
  have hcl : (cellsOf d).length = 1 * i0.size := by rw [cellsOf_length, hd.1, hsz]
  obtain ⟨W, hW⟩ : ∃ W, W = w.alloc (.cells (cellsOf d).toArray 42) := ⟨_, rfl⟩
  have hnews : ∀ j u, (cellsOf d)[j]? = some u → W.cell? ((⟨w.heap.size, 0, none⟩ : Addr).add j) = some u := fun j u hj => by
    rw [hW, Addr.add_mid, Nat.zero_add, cell_of_row _ _ _ _ _ _ (heap_new _ _)]
    simpa using hj
  have hWs : W.heap.size = w.heap.size + 1 := by rw [hW]; simp
  have grown : ∀ (old : Nat), ∀ (row : Option Nat), QR (W.drew.alloc (.cells ((cellsOf ds.flatten).toArray ++ (cellsOf d).toArray ++ Builtin.zeroCells z.cells (grownCap W (ds.length + 1) old 42 - (ds.length + 1))) 42)) B (.slice (some ⟨W.heap.size, 0, none⟩) (ds.length + 1) (grownCap W (ds.length + 1) old 42)) (ds ++ [d]) ∧ W.grownBy (W.drew.alloc (.cells ((cellsOf ds.flatten).toArray ++ (cellsOf d).toArray ++ Builtin.zeroCells z.cells (grownCap W (ds.length + 1) old 42 - (ds.length + 1))) 42)) row := by
    intro old row
    have hge := grownCap_ge W (ds.length + 1) old 42
    have hcm : grownCap W (ds.length + 1) old 42 ≤ maxLen := grownCap_le_maxLen W (ds.length + 1) old _ (by unfold maxLen; omega)
    refine ⟨⟨hD, .inr ⟨W.heap.size, 0, _, _, by rw [hlen, Nat.zero_mul], by omega, heap_alloc_new W.drew _, by rw [hlen]; exact hge, hcm, ?_, ?_⟩⟩, ⟨rfl, rfl, rfl, by simp, fun k hk _ => Below.heap_alloc W.drew _ _ hk⟩⟩
    · simp only [Array.size_append, List.size_toArray, size_zeroCells, hzs, cellsOf_length, hd.1, flat_len ds h.1]
      omega
    · rw [Nat.zero_mul, List.drop_zero, hlen, hfl]
      simp only [Array.toList_append, List.append_assoc]
      rw [← List.append_assoc]
      exact List.take_left' (by rw [List.length_append, cellsOf_length, cellsOf_length, flat_len ds h.1, hd.1]; omega)
  rw [← hW]
  rcases h.2 with ⟨rfl, rfl⟩ | ⟨g, o, cap, cur, rfl, hbg, hg, hnc, hcm, hcs, htake⟩
  · have hr := run_append_nil (P := Try.prog) W 38 ty 42 i0 z dtA.und hi hz ⟨w.heap.size, 0, none⟩ 1 1 (cellsOf d) hcl hnews (by omega) (by omega) (by rw [hby]; decide)
    have hgr := grown 0 (Value.ownBlock (.slice none 0 0))
    simp only [List.length_nil, Nat.zero_add, List.flatten_nil, cellsOf, List.map_nil, List.nil_append, List.append_nil, Array.empty_append] at hgr
    exact ⟨_, _, hr, hgr.1, hgr.2, .inr ⟨_, rfl, show w.heap.size ≤ W.heap.size by omega⟩⟩
  · have hgl := (Array.getElem?_eq_some_iff.1 hg).1
    have hgW : W.heap[g]? = some (.cells cur 42 (0, 0)) := by rw [hW]; exact (Below.heap_alloc _ _ _ hgl).trans hg
    by_cases hroom : ds.length + 1 ≤ cap
    · have hf := run_firstCells_some (P := Try.prog) W i0.size 1 ⟨w.heap.size, 0, none⟩ 1 1 (cellsOf d) hcl hnews
      have hfit : (o * 32 + ds.length * 32) + 0 + (cellsOf d).length ≤ cur.size := by rw [cellsOf_length, hd.1]; omega
      have hst := run_storeCells_at Try.prog g (o * 32 + ds.length * 32) 42 (cellsOf d) 0 cur W hgW hfit (cellsOf_one _)
      simp only [Nat.add_zero] at hst
      have hr : (Builtin.append_ #[38, 38] ty #[.slice (some ⟨g, o * 32, none⟩) ds.length cap, .slice (some ⟨w.heap.size, 0, none⟩) 1 1]).run Try.prog W = .ok (.slice (some ⟨g, o * 32, none⟩) (ds.length + 1) cap) (W.setRow g (cur.toList.take (o * 32 + ds.length * 32) ++ cellsOf d ++ cur.toList.drop (o * 32 + ds.length * 32 + (cellsOf d).length)).toArray) := by
        rw [hsz] at hf
        simp [Builtin.append_, run_underlying dtA.und, Go.sizeOf, typeInfo, hi, hsz, Builtin.lenOf, hroom, hf, Addr.add_mid, hst]
      refine ⟨_, _, hr, ⟨hD, .inr ⟨g, o, cap, _, by rw [hlen], hbg, setRow_heap W g cur _ 42 _ hgW, by rw [hlen]; exact hroom, hcm, ?_, ?_⟩⟩, ⟨rfl, rfl, rfl, by simp, fun k _ hk => setRow_other W g k _ (fun e => hk (by simp [Value.ownBlock, e]))⟩, .inl rfl⟩
      · simp only [List.size_toArray, List.length_append, List.length_take, List.length_drop, Array.length_toList]
        omega
      · rw [hlen, hfl, ← htake, List.toList_toArray, Nat.add_mul, Nat.one_mul, cellsOf_length, hd.1]
        exact row_push cur.toList (cellsOf d) (o * 32) (ds.length * 32) 32 (by have e3 : cur.toList.length = cur.size := Array.length_toList; omega) (by rw [cellsOf_length, hd.1])
    · have holds : ∀ j u, (cellsOf ds.flatten)[j]? = some u → W.cell? ((⟨g, o * 32, none⟩ : Addr).add j) = some u := fun j u hj => by
        have hjl := (List.getElem?_eq_some_iff.1 hj).1
        rw [cellsOf_length, flat_len ds h.1] at hjl
        rw [← htake, List.getElem?_take, if_pos (by omega), List.getElem?_drop] at hj
        rw [Addr.add_mid, cell_of_row W g _ _ _ _ hgW]
        simpa using hj
      have hr := run_append_grow (P := Try.prog) W 38 ty 42 i0 z dtA.und hi hz ⟨g, o * 32, none⟩ ds.length cap (cellsOf ds.flatten) (by rw [cellsOf_length, flat_len ds h.1, hsz]; omega) holds ⟨w.heap.size, 0, none⟩ 1 1 (cellsOf d) hcl hnews (by omega) (by omega) (growslice_fits (by omega) (by rw [hby]; omega))
      have hgr := grown cap (Value.ownBlock (.slice (some ⟨g, o * 32, none⟩) ds.length cap))
      exact ⟨_, _, hr, hgr.1, hgr.2, .inr ⟨_, rfl, show w.heap.size ≤ W.heap.size by omega⟩⟩
end Go.Proofs.Ytpppffgchgcghaa
