/-
  The walks over the document's New and Write.
-/
import Derived.Test.YthnfbdmkdpokcaaDoorBlk
import Derived.Test.YthnfbdmkdpokcaaDoorTwin
namespace Go.Proofs.YthnfbdmkdpokcaaDoor
open Go.RowKit
set_option linter.unusedVariables false

/-- the cells of the document's state -/
def rsCells (hs : List Nat) (n : Nat) (v : Value) : List Value := wordsOf hs ++ [Value.int .u64 (n : Int), v]
/-- the document's state lies at g -/
structure RS (w : World) (g : Nat) (hs : List Nat) (n : Nat) (v : Value) : Prop where
  row : w.heap[g]? = some (.cells (rsCells hs n v).toArray 106 (0, 0))
  l8 : hs.length = 8
theorem rsCells_len {hs : List Nat} {n : Nat} {v : Value} (h : hs.length = 8) : (rsCells hs n v).length = 10 := by simp [rsCells, wordsOf_length, h]
theorem RS.lt {w : World} {g : Nat} {hs : List Nat} {n : Nat} {v : Value} (h : RS w g hs n v) : g < w.heap.size := (Array.getElem?_eq_some_iff.1 h.row).1
theorem RS.cellq {w : World} {g : Nat} {hs : List Nat} {n : Nat} {v : Value} (h : RS w g hs n v) (j : Nat) : w.cell? ⟨g, j, none⟩ = (rsCells hs n v)[j]? := by
  rw [cell_of_row w g j _ _ _ h.row]; simp
theorem RS.froz {w : World} {g : Nat} {hs : List Nat} {n : Nat} {v : Value} (h : RS w g hs n v) (j : Nat) : w.frozen? ⟨g, j, none⟩ = false := frozen_of_row w g j _ _ h.row
theorem RS.words {w : World} {g : Nat} {hs : List Nat} {n : Nat} {v : Value} (h : RS w g hs n v) : w.rangeAt g 0 (wordsOf hs) := fun j u hu => by
  rw [Nat.zero_add, h.cellq]
  unfold rsCells
  rw [List.getElem?_append_left (List.getElem?_eq_some_iff.1 hu).1, hu]
theorem RS.num {w : World} {g : Nat} {hs : List Nat} {n : Nat} {v : Value} (h : RS w g hs n v) : w.cell? ⟨g, 8, none⟩ = some (.int .u64 (n : Int)) := by
  rw [h.cellq]
  unfold rsCells
  rw [List.getElem?_append_right (by rw [wordsOf_length, h.l8]; omega), wordsOf_length, h.l8]
  rfl
theorem RS.tail {w : World} {g : Nat} {hs : List Nat} {n : Nat} {v : Value} (h : RS w g hs n v) : w.cell? ⟨g, 9, none⟩ = some v := by
  rw [h.cellq]
  unfold rsCells
  rw [List.getElem?_append_right (by rw [wordsOf_length, h.l8]; omega), wordsOf_length, h.l8]
  rfl
theorem RS.there {w : World} {g : Nat} {hs : List Nat} {n : Nat} {v : Value} (h : RS w g hs n v) (o m : Nat) (hm : o + m ≤ 10) : w.there g o m := fun j hj => by
  refine ⟨?_, h.froz _⟩
  have := rsCells_len (n := n) (v := v) h.l8
  rw [h.cellq, List.getElem?_eq_getElem (by omega)]
  rfl
theorem RS.drewN {w : World} {g : Nat} {hs : List Nat} {n : Nat} {v : Value} (h : RS w g hs n v) (q : Nat) : RS (w.drewN q) g hs n v := ⟨h.row, h.l8⟩
theorem RS.drew {w : World} {g : Nat} {hs : List Nat} {n : Nat} {v : Value} (h : RS w g hs n v) : RS w.drew g hs n v := ⟨h.row, h.l8⟩
theorem RS.below {B : Nat} {w w' : World} {g : Nat} {hs : List Nat} {n : Nat} {v : Value} (h : RS w g hs n v) (hb : Below B w w') (hg : g < B) : RS w' g hs n v := ⟨(hb.block g hg).trans h.row, h.l8⟩
theorem RS.only {g' : Nat} {w w' : World} {g : Nat} {hs : List Nat} {n : Nat} {v : Value} (h : RS w g hs n v) (hb : Only g' w w') (hg : g ≠ g') : RS w' g hs n v := ⟨(hb.block g h.lt hg).trans h.row, h.l8⟩
theorem RS.setNum {w : World} {g : Nat} {hs : List Nat} {n : Nat} {v : Value} (h : RS w g hs n v) (m : Nat) : RS (w.setCell ⟨g, 8, none⟩ (.int .u64 (m : Int))) g hs m v := by
  refine ⟨?_, h.l8⟩
  rw [heap_setCell_same w g 8 _ _ _ h.row]
  congr 2
  unfold rsCells
  rw [List.setIfInBounds_toArray, List.set_append_right _ _ (by rw [wordsOf_length, h.l8]; omega), wordsOf_length, h.l8]
  rfl
theorem RS.setTail {w : World} {g : Nat} {hs : List Nat} {n : Nat} {v : Value} (h : RS w g hs n v) (u : Value) : RS (w.setCell ⟨g, 9, none⟩ u) g hs n u := by
  refine ⟨?_, h.l8⟩
  rw [heap_setCell_same w g 9 _ _ _ h.row]
  congr 2
  unfold rsCells
  rw [List.setIfInBounds_toArray, List.set_append_right _ _ (by rw [wordsOf_length, h.l8]; omega), wordsOf_length, h.l8]
  rfl
theorem RS.setWords {w : World} {g : Nat} {hs : List Nat} {n : Nat} {v : Value} (h : RS w g hs n v) (hs' : List Nat) (h8 : hs'.length = 8) : RS (w.setCells g 0 (wordsOf hs')) g hs' n v := by
  refine ⟨?_, h8⟩
  rw [setCells_row g _ _ _ _ _ h.row (by rw [rsCells_len h.l8, wordsOf_length, h8]; omega)]
  congr 2
  unfold splice rsCells
  rw [List.take_zero, List.nil_append, Nat.zero_add, wordsOf_length, h8, List.drop_append, List.drop_eq_nil_of_le (by rw [wordsOf_length, h.l8]; omega), wordsOf_length, h.l8]
  rfl
theorem RS.setAll {w : World} {g : Nat} {hs hs' : List Nat} {n n' : Nat} {v v' : Value} (h : RS w g hs n v) (h8 : hs'.length = 8) : RS (w.setRow g (rsCells hs' n' v').toArray) g hs' n' v' := ⟨setRow_heap _ _ _ _ _ _ h.row, h8⟩
theorem rsCells_one (hs : List Nat) (n : Nat) (a : Option Addr) (l c : Nat) : (rsCells hs n (.slice a l c)).toArray.all (·.oneCell') = true := by
  refine Array.all_eq_true_iff_forall_mem.2 fun v hv => ?_
  simp only [rsCells, wordsOf, List.mem_toArray, List.mem_append, List.mem_map, List.mem_cons, List.not_mem_nil, or_false] at hv
  rcases hv with ⟨z, _, rfl⟩ | rfl | rfl <;> rfl
theorem info_rs : (Tryd.prog.info? 106).map (·.size) = some 10 := by kernel_rfl
theorem Own.only {g B : Nat} {w w' : World} {v : Value} {zs : List Nat} (h : Own w B v zs) (ho : Only g w w') (hg : g < B) : Own w' B v zs := by
  refine ⟨h.1, ?_⟩
  rcases h.2 with h0 | ⟨b, cap, cur, h1, h2, h3, h4⟩
  · exact .inl h0
  · exact .inr ⟨b, cap, cur, h1, h2, (ho.block b (Array.getElem?_eq_some_iff.1 h3).1 (by omega)).trans h3, h4⟩
theorem Own.base {B B' : Nat} {w : World} {v : Value} {zs : List Nat} (h : Own w B v zs) (hB : B' ≤ B) : Own w B' v zs := by
  refine ⟨h.1, ?_⟩
  rcases h.2 with h0 | ⟨b, cap, cur, h1, h2, h3, h4⟩
  · exact .inl h0
  · exact .inr ⟨b, cap, cur, h1, by omega, h3, h4⟩
theorem Own.oneCell {B : Nat} {w : World} {v : Value} {zs : List Nat} (h : Own w B v zs) : v.oneCell' = true := by
  rcases h.2 with ⟨rfl, _⟩ | ⟨b, cap, cur, rfl, _⟩ <;> rfl
theorem Own.isSlice {B : Nat} {w : World} {v : Value} {zs : List Nat} (h : Own w B v zs) : ∃ a l c, v = .slice a l c := by
  rcases h.2 with ⟨rfl, _⟩ | ⟨b, cap, cur, rfl, _⟩ <;> exact ⟨_, _, _, rfl⟩
/-- what hands back a state -/
def RsRet (hs : List Nat) (n : Nat) (zs : List Nat) (w : World) (e : Ending) (w' : World) : Prop :=
  ∃ v, e = .returned (.agg (rsCells hs n v).toArray) ∧ Own w' w.heap.size v zs ∧ Below w.heap.size w w'
theorem info_rs0 : (Tryd.prog.info? 106).map (·.size) = some (rsCells Sha.H0 0 (.slice none 0 0)).toArray.size := by kernel_rfl
set_option maxRecDepth 100000 in
set_option maxHeartbeats 1000000 in
theorem rnew_c (w : World) : Calls Tryd.prog 68 #[] w (RsRet Sha.H0 0 [] w) := by
  go_enter Tryd.func68, Tryd.ntmps68
  go_wp2_with fail
  refine (begin_c _).mono ?_
  rintro en w3 ⟨rfl, hb3⟩
  have hv3 : RS w3 w.heap.size zs8 0 (.slice none 0 0) := ⟨(hb3.block _ (by simp)).trans (heap_new _ _), rfl⟩
  have hB3 : Below w.heap.size w w3 := Below.trans ((Below.refl _ _).alloc (by omega) _) (hb3.mono (by simp))
  clear hb3
  have HV := Lib.hid hv3
  have HB := Lib.hid hB3
  clear hv3 hB3
  go_wp2_with (first | (refine wpList_buildTo (by rfl) 106 _ (by rfl) (some 2) (by rfl) (rsCells Sha.H0 0 (.slice none 0 0)).toArray (by kernel_rfl) ?_) | (refine wpList_store_row (by rfl) 106 _ _ (by rfl) w.heap.size (rsCells Sha.H0 0 (.slice none 0 0)).toArray (by rfl) (by rfl) 106 (rsCells zs8 0 (.slice none 0 0)).toArray HV.out.row info_rs0 (by kernel_rfl) (rsCells_one _ _ _ _ _) ?_))
  refine bodyPost_ret (results_cell_row (by rfl) _ _ w.heap.size _ (rsCells Sha.H0 0 (.slice none 0 0)).toArray (0, 0) _ (by rfl) (setRow_heap _ _ _ _ _ _ HV.out.row) Tryd.underlying106 (by rfl) info_rs0) ?_ ?_
  · rfl
  · exact ⟨_, rfl, Own.nil _ _, HB.out.setRow (Nat.le_refl _) _⟩
/-- what stands while bytes come in -/
def WAt (w : World) (hs : List Nat) (n : Nat) (v : Value) (wr : World) : Prop :=
  RS wr w.heap.size hs n v ∧ RS wr (w.heap.size + 1) zs8 0 (.slice none 0 0) ∧ Below w.heap.size w wr ∧ w.heap.size + 2 ≤ wr.heap.size
theorem WAt.step {w wr w' : World} {hs : List Nat} {n : Nat} {v : Value} (h : WAt w hs n v wr) (hb : Below (w.heap.size + 2) wr w') : WAt w hs n v w' :=
  ⟨h.1.below hb (by omega), h.2.1.below hb (by omega), h.2.2.1.trans (hb.mono (by omega)), Nat.le_trans h.2.2.2 hb.size⟩
theorem WAt.words {w wr : World} {hs : List Nat} {n : Nat} {v : Value} (h : WAt w hs n v wr) (hs' : List Nat) (h8 : hs'.length = 8) : WAt w hs' n v (wr.setCells w.heap.size 0 (wordsOf hs')) := by
  have o : Only w.heap.size wr (wr.setCells w.heap.size 0 (wordsOf hs')) := Only.setCells _ _ (Only.refl _ _)
  exact ⟨h.1.setWords hs' h8, h.2.1.only o (by omega), h.2.2.1.trans (o.below (Nat.le_refl _) (by have := h.1.lt; omega)), Nat.le_trans h.2.2.2 o.size⟩
theorem info_w8 (hs : List Nat) (h : hs.length = 8) : (Tryd.prog.info? 95).map (·.size) = some (wordsOf hs).length := by rw [wordsOf_length, h]; exact info_a8
theorem WAt.only9 {w wr W : World} {hs : List Nat} {n : Nat} {v v' : Value} (h : WAt w hs n v wr) (o : Only w.heap.size wr W) (hr : RS W w.heap.size hs n v') : WAt w hs n v' W :=
  ⟨hr, h.2.1.only o (by omega), h.2.2.1.trans (o.below (Nat.le_refl _) (by have := h.1.lt; omega)), Nat.le_trans h.2.2.2 o.size⟩
theorem gen_num {P : Program} {c : Code} {Q : Exit → Act → World → Prop} {a : Act} {w wr : World} {hs T : List Nat} {n : Nat} {v0 v : Value} (hW : WAt w hs n v0 wr) (hO : Own wr (w.heap.size + 2) v T) (m : Nat)
    (k : ∀ W, WAt w hs m v0 W → Own W (w.heap.size + 2) v T → c.wp P Q a W) : c.wp P Q a (wr.setCell ⟨w.heap.size, 8, none⟩ (.int .u64 (m : Int))) := by
  have o : Only w.heap.size wr (wr.setCell ⟨w.heap.size, 8, none⟩ (.int .u64 (m : Int))) := (Only.refl _ _).setCell _ _
  exact k _ ⟨hW.1.setNum _, hW.2.1.only o (by omega), hW.2.2.1.trans (o.below (Nat.le_refl _) (by have := hW.1.lt; omega)), Nat.le_trans hW.2.2.2 o.size⟩ (hO.only o (by omega))
theorem gen_tail {P : Program} {c : Code} {Q : Exit → Act → World → Prop} {a : Act} {w wr : World} {hs T : List Nat} {n : Nat} {v0 v : Value} (hW : WAt w hs n v0 wr) (hO : Own wr (w.heap.size + 2) v T)
    (k : ∀ W, WAt w hs n v W → Own W (w.heap.size + 2) v T → c.wp P Q a W) : c.wp P Q a (wr.setCell ⟨w.heap.size, 9, none⟩ v) := by
  have o : Only w.heap.size wr (wr.setCell ⟨w.heap.size, 9, none⟩ v) := (Only.refl _ _).setCell _ _
  exact k _ (hW.only9 o (hW.1.setTail v)) (hO.only o (by omega))
theorem WAt.fin {w W : World} {hs T : List Nat} {n : Nat} {v : Value} (h : WAt w hs n v W) (hO : Own W (w.heap.size + 2) v T) : ∃ C : Array Value, W.heap[w.heap.size]? = some (.cells C 106 (0, 0)) ∧
    (Tryd.prog.info? 106).map (·.size) = some C.size ∧ (rsCells zs8 0 (.slice none 0 0)).toArray.size = C.size ∧ C.all (·.oneCell') = true ∧ ∃ v, C = (rsCells hs n v).toArray ∧ Own W (w.heap.size + 2) v T := by
  refine ⟨_, h.1.row, ?_, ?_, ?_, v, rfl, hO⟩
  · rw [List.size_toArray, rsCells_len h.1.l8]; exact info_rs
  · rw [List.size_toArray, List.size_toArray, rsCells_len h.1.l8]; rfl
  · rcases hO.2 with ⟨rfl, _⟩ | ⟨b, c, cur, rfl, _⟩ <;> exact rsCells_one _ _ _ _ _
set_option maxRecDepth 100000 in
set_option maxHeartbeats 2000000 in
theorem rwrite_c (hs tail zs : List Nat) (n : Nat) (ta a : Option Addr) (tl tc len cap : Nat) (w : World) (h8 : Sha.W8 hs) (hrt : Rd w ta tl tail) (htl : tl < 64) (hr : Rd w a len zs) (hlen : len ≤ 9223372036854775807) (hn : n + len ≤ 18446744073709551615) :
    Calls Tryd.prog 67 #[.agg (rsCells hs n (.slice ta tl tc)).toArray, .slice a len cap] w (RsRet (Sha.run hs (tail ++ zs)) (n + len) (Sha.rest (tail ++ zs)) w) := by
  have H8 := Lib.hid h8
  have HRT := Lib.hid hrt
  have HR := Lib.hid hr
  clear h8 hrt hr
  go_enter Tryd.func67, Tryd.ntmps67
  go_upto_region 1 with fail
  refine gen_code (F := WAt w hs n (.slice ta tl tc)) ⟨⟨(heap_new2 _ _ _).1, H8.out.1⟩, ⟨(heap_new2 _ _ _).2, rfl⟩, ((Below.refl _ _).alloc (Nat.le_refl _) _).alloc (by simp) _, by simp⟩ ?_
  intro wA hA
  have HA := Lib.hid hA
  have hc9 := hA.1.tail
  clear hA
  go_wp2_with fail
  refine (twin_c ta tl tc tail wA (HRT.out.below HA.out.2.2.1) (by omega)).mono ?_
  rintro en wB ⟨v, rfl, hown, hB⟩
  have HOW := Lib.hid (Own.base hown HA.out.2.2.2)
  have HB := Lib.hid (HA.out.step (hB.mono HA.out.2.2.2))
  clear hown hB HA hc9
  go_wp2_with fail
  go_loopw [5, 6] (fun t i wr => ∃ k : Nat, k ≤ len ∧ i = .int .i64 k ∧ Hid (Own wr (w.heap.size + 2) t (Sha.rest (tail ++ zs.take k))) ∧ Hid (WAt w (Sha.run hs (tail ++ zs.take k)) n (.slice ta tl tc) wr)) (fun _ i _ => len - (intOf i).toNat)
  case atStart =>
    refine ⟨0, Nat.zero_le _, rfl, ?_, ?_⟩
    · rw [List.take_zero, List.append_nil, (Sha.run_less hs tail (by rw [HRT.out.1]; omega)).2]; exact HOW
    · rw [List.take_zero, List.append_nil, (Sha.run_less hs tail (by rw [HRT.out.1]; omega)).1]; exact HB
  case round =>
    clear HOW HB
    obtain ⟨k, hk, rfl, HO, HW⟩ := hrel
    by_cases hkl : k < len
    · obtain ⟨T, hT⟩ : ∃ T, T = Sha.rest (tail ++ zs.take k) := ⟨_, rfl⟩
      obtain ⟨H, hH⟩ : ∃ H, H = Sha.run hs (tail ++ zs.take k) := ⟨_, rfl⟩
      obtain ⟨z, hz⟩ : ∃ z, z = zs.getD k 0 := ⟨_, rfl⟩
      have hlz := HR.out.1
      have hlt := HRT.out.1
      have hql : (tail ++ zs.take k).length = tl + k := by rw [List.length_append, List.length_take, hlt, hlz]; omega
      have hTl : T.length = (tl + k) % 64 := by rw [hT, Sha.rest_len, hql]
      have hW8 : Sha.W8 H := by rw [hH]; exact H8.out.run _
      have hz256 : z < 256 := by rw [hz, getD_at zs k (by omega)]; exact HR.out.2.1 _ (List.getElem_mem _)
      have hTb : ∀ y ∈ T ++ [z], y < 256 := by
        intro y hy
        rcases List.mem_append.1 hy with h | h
        · rw [hT] at h
          rcases List.mem_append.1 (List.mem_of_mem_drop h) with h | h
          · exact HRT.out.2.1 y h
          · exact HR.out.2.1 y (List.mem_of_mem_take h)
        · rw [List.mem_singleton.1 h]; exact hz256
      have htk : zs.take (k + 1) = zs.take k ++ [z] := by rw [List.take_succ_eq_append_getElem (by omega), hz, getD_at zs k (by omega)]
      have hshort : T.length + 1 < 64 → Sha.run hs (tail ++ zs.take (k + 1)) = H ∧ Sha.rest (tail ++ zs.take (k + 1)) = T ++ [z] := by
        intro h
        have := Sha.run_short hs (tail ++ zs.take k) [z] (by rw [hql, ← hTl]; exact h)
        rw [← hT, ← hH, List.append_assoc, ← htk] at this
        exact this
      have hfull : T.length + 1 = 64 → Sha.run hs (tail ++ zs.take (k + 1)) = Sha.mix H (T ++ [z]) ∧ Sha.rest (tail ++ zs.take (k + 1)) = [] := by
        intro h
        have := Sha.run_full hs (tail ++ zs.take k) [z] (by rw [hql, ← hTl]; exact h)
        rw [← hT, ← hH, List.append_assoc, ← htk] at this
        exact this
      have hT64 : T.length < 64 := by omega
      rw [← hT] at HO
      rw [← hH] at HW
      obtain ⟨_, _, h0 | ⟨b, off, rfl, hb, hc⟩⟩ := HR.out.below HW.out.2.2.1
      · omega
      have hcy := hc k hkl
      rw [← hz] at hcy
      have HSH := Lib.hid hshort
      have HFU := Lib.hid hfull
      have H8' := Lib.hid hW8
      have HTB := Lib.hid hTb
      have HT64 := Lib.hid hT64
      clear hT hH hz hlz hlt hql hTl hW8 hTb htk hshort hfull hc hb hT64
      go_wp2_with (at_builtin; (refine wpList_push rfl _ _ rfl (w.heap.size + 2) u5 T z _ rfl rfl HO.out HW.out.2.2.2 rfl (by have := HT64.out; omega) ?_))
      intro v1 w1 hown1 hb1
      have HW1 := Lib.hid (HW.out.step (hb1.mono (by omega)))
      obtain ⟨a1, L, cap1, rfl, hL, _, _, _, hrd1, hown1⟩ := hown1.form HTB.out
      have HO1 := Lib.hid hown1
      have HRD1 := Lib.hid hrd1
      rw [List.length_append, List.length_singleton] at hL
      clear hown1 hb1 hrd1 HO HW hcy
      have h64 := HT64.out
      by_cases hL64 : L = 64
      · subst hL64
        obtain ⟨b1, o1, rfl⟩ : ∃ b1 o1, a1 = some ⟨b1, o1, none⟩ := by
          rcases HRD1.out.2.2 with h | ⟨b1, o1, h, _⟩
          · omega
          · exact ⟨b1, o1, h⟩
        have HF := Lib.hid (HFU.out hL)
        clear hL h64
        go_wp2_with (first | (refine wpList_load_mid (by rfl) 95 _ (by rfl) w.heap.size 0 (by rfl) (wordsOf H) _ HW1.out.1.words Tryd.underlying95 (by rfl) (info_w8 _ H8'.out.1) ?_))
        refine (block_c H (T ++ [z]) b1 o1 cap1 w1 H8'.out.1 H8'.out.2 HRD1.out).mono ?_
        rintro en w2 ⟨rfl, hb2⟩
        obtain ⟨M, hM⟩ : ∃ M, M = Sha.mix H (T ++ [z]) := ⟨_, rfl⟩
        have hM8 : M.length = 8 := by rw [hM]; exact Sha.mix_len _ _
        have HW2 := Lib.hid (HW1.out.step (hb2.mono HW1.out.2.2.2))
        have HM := Lib.hid hM
        have HM8 := Lib.hid hM8
        have HIM := Lib.hid (show (Tryd.prog.info? 95).map (·.size) = some (wordsOf M).toArray.size by rw [wordsOf_size, hM8]; exact info_a8)
        have HTH := Lib.hid (show w2.there w.heap.size 0 (wordsOf M).toArray.size by rw [wordsOf_size, hM8]; exact HW2.out.1.there 0 8 (by omega))
        have HW3 := Lib.hid (show WAt w M n (.slice ta tl tc) (w2.setCells w.heap.size 0 (wordsOf M).toArray.toList) by rw [List.toList_toArray]; exact HW2.out.words M hM8)
        rw [← hM]
        clear hM hM8 hb2
        go_wp2_with (first | (refine wpList_store_mid (by rfl) 95 _ _ (by rfl) w.heap.size 0 (wordsOf M).toArray (by rfl) (by rfl) HTH.out HIM.out (wordsOf_one _) ?_))
        go_roundw
        case rel =>
          refine ⟨k + 1, by omega, by go_num, ?_, ?_⟩
          · rw [HF.out.2]; exact Lib.hid (Own.nil _ _)
          · rw [HF.out.1, ← HM.out]; exact HW3
        case measure => simp [intOf]; omega
      · have HF := Lib.hid (HSH.out (by omega))
        have hLi : ¬ (L : Int) = 64 := by omega
        go_wp2
        go_roundw
        case rel =>
          refine ⟨k + 1, by omega, by go_num, ?_, ?_⟩
          · rw [HF.out.2]; exact HO1
          · rw [HF.out.1]; exact HW1
        case measure => simp [intOf]; omega
    · obtain rfl : k = len := by omega
      obtain ⟨a1, l1, c1, rfl⟩ := HO.out.isSlice
      rw [List.take_of_length_le (by rw [HR.out.1]; omega)] at HO HW
      obtain ⟨T, hT⟩ : ∃ T, T = Sha.rest (tail ++ zs) := ⟨_, rfl⟩
      obtain ⟨H, hH⟩ : ∃ H, H = Sha.run hs (tail ++ zs) := ⟨_, rfl⟩
      rw [← hT] at HO
      rw [← hH] at HW
      have h8 := Lib.hid (show H.length = 8 by rw [hH]; exact (H8.out.run _).1)
      have HTE := Lib.hid hT
      have HHE := Lib.hid hH
      clear hT hH
      have hc8 := HW.out.1.num
      have hf8 := HW.out.1.froz 8
      go_upto_region 10 with fail
      rw [show ((n : Int) + (k : Int)) = ((n + k : Nat) : Int) by omega]
      refine gen_num HW.out HO.out (n + k) ?_
      intro w1 hw1 ho1
      clear hc8 hf8 HO HW
      have hc9 := hw1.1.tail
      have hf9 := hw1.1.froz 9
      have HW1 := Lib.hid hw1
      have HO1 := Lib.hid ho1
      clear hw1 ho1
      go_upto_region 11 with fail
      refine gen_tail HW1.out HO1.out ?_
      intro w2 hw2 ho2
      clear hc9 hf9 HO1 HW1
      obtain ⟨C, hrow, hinf, hsz, hone, hC⟩ := hw2.fin ho2
      have HROW := Lib.hid hrow
      have HON := Lib.hid hone
      have HIN := Lib.hid hinf
      have HSZ := Lib.hid hsz
      have HC := Lib.hid hC
      have HR2 := Lib.hid hw2.2.1.row
      have HB2 := Lib.hid hw2.2.2.1
      clear hone hinf hsz hw2 ho2 hrow hC
      go_wp2_with (first | (refine wpList_load_row (by rfl) 106 _ (by rfl) w.heap.size (by rfl) _ C (0, 0) _ HROW.out Tryd.underlying106 (by rfl) HIN.out ?_) | (refine wpList_store_row (by rfl) 106 _ _ (by rfl) (w.heap.size + 1) C (by rfl) (by rfl) 106 (rsCells zs8 0 (.slice none 0 0)).toArray HR2.out HIN.out HSZ.out HON.out ?_))
      refine bodyPost_ret (results_cell_row (by rfl) _ _ (w.heap.size + 1) _ C (0, 0) _ (by rfl) (setRow_heap _ _ _ _ _ _ HR2.out) Tryd.underlying106 (by rfl) HIN.out) ?_ ?_
      · rfl
      · have o : Only (w.heap.size + 1) w2 (w2.setRow (w.heap.size + 1) C) := (Only.refl _ _).setRow _
        obtain ⟨v, hv, hO⟩ := HC.out
        refine ⟨v, by rw [← HHE.out, hv], ?_, HB2.out.setRow (by omega) _⟩
        rw [← HTE.out]
        exact (hO.only o (by omega)).base (by omega)
end Go.Proofs.YthnfbdmkdpokcaaDoor
