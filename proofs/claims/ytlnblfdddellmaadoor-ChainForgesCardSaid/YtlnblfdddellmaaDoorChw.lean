/-
  The walks over Secret and Step of one-time keys.
-/
import Derived.Test.YtlnblfdddellmaaDoorChm
namespace Go.Proofs.YtlnblfdddellmaaDoor
open Go.RowKit
set_option linter.unusedVariables false
theorem ownlit (w : World) (zs : List Nat) (hl : zs.length ≤ 9223372036854775807) : Own (w.alloc (.cells (cellsOf zs).toArray 5)) w.heap.size (.slice (some ⟨w.heap.size, 0, none⟩) zs.length zs.length) zs := by
  refine ⟨by simp [cellsOf_length], .inr ⟨w.heap.size, zs.length, _, rfl, Nat.le_refl _, heap_new _ _, Nat.le_refl _, hl, by simp [cellsOf_length], ?_⟩⟩
  simp only [Nat.mul_one]
  exact List.take_of_length_le (by rw [cellsOf_length]; exact Nat.le_refl _)
theorem info_d32 (d : List Nat) (h : D32 d) : (Tryd.prog.info? 32).map (·.size) = some (cellsOf d).toArray.size := by rw [cellsOf_size, h.1]; exact info_dig
theorem info_r32 (d : List Nat) (h : D32 d) : (Tryd.prog.info? 31).map (·.size) = some (cellsOf d).toArray.size := by rw [cellsOf_size, h.1]; exact info_a32
theorem zs_size (d : List Nat) (h : D32 d) : (cellsOf zs32).toArray.size = (cellsOf d).toArray.size := by rw [cellsOf_size, cellsOf_size, h.1, zs32_len]
/-- two blocks: what came in, and the result -/
def B2 (w : World) (t : TypeId) (x y : List Nat) (W : World) : Prop := Brow W w.heap.size t x ∧ Brow W (w.heap.size + 1) t y ∧ Below w.heap.size w W
theorem B2.new (w : World) (t : TypeId) (x y : List Nat) : B2 w t x y ((w.alloc (.cells (cellsOf x).toArray t)).alloc (.cells (cellsOf y).toArray t)) :=
  ⟨(heap_new2 _ _ _).1, (heap_new2 _ _ _).2, ((Below.refl _ _).alloc (Nat.le_refl _) _).alloc (by simp) _⟩
theorem B2.below {w W W' : World} {t : TypeId} {x y : List Nat} (h : B2 w t x y W) (hb : Below W.heap.size W W') : B2 w t x y W' :=
  ⟨h.1.below hb h.1.lt, h.2.1.below hb h.2.1.lt, h.2.2.trans (hb.mono h.2.2.size)⟩
theorem B2.from {w V W W' : World} {t : TypeId} {x y : List Nat} (h : B2 w t x y W) (hV : B2 w t x y V) (hb : Below V.heap.size W W') : B2 w t x y W' :=
  ⟨h.1.below hb hV.1.lt, h.2.1.below hb hV.2.1.lt, h.2.2.trans (hb.mono hV.2.2.size)⟩
theorem B2.rd {w W : World} {t : TypeId} {x y : List Nat} (h : B2 w t x y W) (hx : D32 x) : Rd W (some ⟨w.heap.size, 0, none⟩) 32 x := by
  have := h.1.rd hx.2
  rwa [hx.1] at this
set_option maxRecDepth 100000 in
set_option maxHeartbeats 2000000 in
theorem secret_c (seed : List Nat) (key c : Nat) (w : World) (hs : D32 seed) (hk : key < 4294967296) (hc : c < 256) (ht : Tab w) :
    Calls Tryd.prog 47 #[.agg (cellsOf seed).toArray, .int .u32 (key : Int), .int .u8 (c : Int)] w (DigRet (Ch.secS seed key c) w) := by
  have HS := Lib.hid hs
  have HT := Lib.hid ht
  have hpos := ht.pos
  obtain ⟨P, hP⟩ : ∃ P, P = Numm.put key 4 := ⟨_, rfl⟩
  have HPL := Lib.hid (show P.length = 4 from by rw [hP, Numm.put_len])
  have HPB := Lib.hid (show ∀ z ∈ P, z < 256 from by rw [hP]; exact Numm.put_byte _ _)
  obtain ⟨S, hS⟩ : ∃ S, S = Ch.secS seed key c := ⟨_, rfl⟩
  have HSD := Lib.hid (show D32 S from by rw [hS]; exact Ch.d32_sec _ _ _)
  have HSE := Lib.hid hS
  have HPE := Lib.hid hP
  clear hs ht hP hS
  go_enter Tryd.func47, Tryd.ntmps47
  go_upto_region 1 with fail
  refine gen_code (F := B2 w 32 seed zs32) (B2.new w _ _ _) ?_
  intro wA h
  have H0 := Lib.hid h
  clear h
  have kD := fun W => run_digAll W w.heap.size 0
  have HO0 := Lib.hid (ownlit wA [4] (by simp))
  have HB0 := Lib.hid (show Below wA.heap.size wA (wA.alloc (.cells (cellsOf [4]).toArray 5)) from (Below.refl _ _).alloc (Nat.le_refl _) _)
  have HR0 := Lib.hid ((H0.out.below HB0.out).rd HS.out)
  go_upto_region 2 with (at_builtin; (refine wpList_catR rfl (.tmp 8) (.tmp 9) rfl wA.heap.size _ [4] seed rfl HO0.out (by simp) _ 32 32 rfl HR0.out (by simp) (by simp) (by have := HS.out.1; simp; omega) ?_); intro a1 L1 c1 w1 g1 g2 g3 g4 g5 g6 g7; have HL1 := Lib.hid g1; have HO1 := Lib.hid g6; have HB1 := Lib.hid (HB0.out.trans g7); clear g1 g2 g3 g4 g5 g6 g7)
  have hsz1 := HB1.out.size
  have HPUT := Lib.hid ((put_in key 4 w1 (by omega) (by omega)).mono (RetB.form (Numm.put_byte _ _)))
  rw [← HPE.out] at HPUT
  go_wp2_with fail
  refine HPUT.out.mono ?_
  rintro e2 w2 ⟨a2, L2, c2, rfl, hl2, hlc2, hc2, hn2, hr2, ho2, hb2⟩
  have HR2 := Lib.hid hr2
  have HO2 := Lib.hid (HO1.out.keep hb2)
  have HB2 := Lib.hid (HB1.out.trans (hb2.mono hsz1))
  have HN2 := Lib.hid hn2
  have HLE := Lib.hid (show ([4] ++ seed).length + P.length ≤ 140737488355328 from by have := HS.out.1; have := HPL.out; simp; omega)
  have HBY := Lib.hid (show ∀ z ∈ [4] ++ seed, z < 256 from by
    intro z hz
    rcases List.mem_append.1 hz with h | h
    · simp at h; omega
    · exact HS.out.2 z h)
  clear hl2 hlc2 hc2 hn2 hr2 ho2 hb2 HPUT HO1 HB1 HL1
  have hsz2 := HB2.out.size
  go_upto_region 3 with (at_builtin; (refine wpList_catR rfl (.tmp 11) (.tmp 14) rfl wA.heap.size _ ([4] ++ seed) P rfl HO2.out hsz2 _ _ _ rfl HR2.out HN2.out HBY.out HLE.out ?_); intro a3 L3 c3 w3 g1 g2 g3 g4 g5 g6 g7; have HL3 := Lib.hid g1; have HO3 := Lib.hid g6; have HB3 := Lib.hid (HB2.out.trans g7); clear g1 g2 g3 g4 g5 g6 g7)
  have hsz3 := HB3.out.size
  have HLE3 := Lib.hid (show ([4] ++ seed ++ P).length + 1 ≤ 140737488355328 from by have := HS.out.1; have := HPL.out; simp; omega)
  go_wp2_with (at_builtin; (refine wpList_push rfl (.tmp 16) (.tmp 18) rfl wA.heap.size _ ([4] ++ seed ++ P) c _ rfl rfl HO3.out hsz3 rfl HLE3.out ?_); intro v4 w4 g1 g2; have HO4 := Lib.hid g1; have HB4 := Lib.hid (HB3.out.trans g2); clear g1 g2)
  obtain ⟨a4, L4, c4, rfl, g1, g2, g3, g4, g5, g6⟩ := HO4.out.form (by
    intro z hz
    rcases List.mem_append.1 hz with h | h
    · rcases List.mem_append.1 h with h | h
      · exact HBY.out z h
      · exact HPB.out z h
    · simp at h; omega)
  have HSUM := Lib.hid (dsum_c a4 L4 c4 _ w4 g5 g2 g3 (by rw [← g1]; have := HS.out.1; have := HPL.out; simp; omega) (HT.out.below (H0.out.2.2.trans (HB4.out.mono H0.out.2.2.size)) hpos))
  have HE := Lib.hid (show Sha.sum ([4] ++ seed ++ P ++ [c]) = S from by rw [HSE.out, HPE.out]; simp [Ch.secS, Ch.secB])
  rw [HE.out] at HSUM
  have H4 := Lib.hid (H0.out.from H0.out HB4.out)
  clear g1 g2 g3 g4 g5 g6 HO4 HO3 HB3 HR2 HO2
  go_wp2_with fail
  refine HSUM.out.mono ?_
  rintro e5 w5 ⟨rfl, hb5⟩
  have H5 := Lib.hid (H4.out.below hb5)
  have HI := Lib.hid (info_d32 S HSD.out)
  have HZ := Lib.hid (zs_size S HSD.out)
  clear hb5
  go_wp2_with (first | (refine wpList_store_row (by rfl) 32 _ _ (by rfl) (w.heap.size + 1) (cellsOf S).toArray (by rfl) (by rfl) 32 (cellsOf zs32).toArray H5.out.2.1 HI.out HZ.out (cellsOf_all _) ?_))
  refine bodyPost_ret (results_cell_row (by rfl) _ _ (w.heap.size + 1) _ (cellsOf S).toArray (0, 0) _ (by rfl) H5.out.2.1.setRow Tryd.underlying32 (by rfl) HI.out) ?_ ?_
  · rfl
  · exact ⟨by rw [HSE.out], H5.out.2.2.setRow (by omega) _⟩
/-- a place, what came in, and the result -/
def Prow (w : World) (g key c s : Nat) : Prop := w.heap[g]? = some (.cells #[.int .u32 (key : Int), .int .u8 (c : Int), .int .u8 (s : Int)] 83 (0, 0))
theorem Prow.cell {w : World} {g key c s : Nat} (h : Prow w g key c s) : w.cell? ⟨g, 0, none⟩ = some (.int .u32 (key : Int)) ∧ w.cell? ⟨g, 1, none⟩ = some (.int .u8 (c : Int)) ∧ w.cell? ⟨g, 2, none⟩ = some (.int .u8 (s : Int)) :=
  ⟨by rw [cell_of_row w g 0 _ _ _ h]; rfl, by rw [cell_of_row w g 1 _ _ _ h]; rfl, by rw [cell_of_row w g 2 _ _ _ h]; rfl⟩
theorem Prow.lt {w : World} {g key c s : Nat} (h : Prow w g key c s) : g < w.heap.size := (Array.getElem?_eq_some_iff.1 h).1
def B3 (w : World) (key c s : Nat) (x y : List Nat) (W : World) : Prop := Prow W w.heap.size key c s ∧ Brow W (w.heap.size + 1) 32 x ∧ Brow W (w.heap.size + 1 + 1) 32 y ∧ Below w.heap.size w W
theorem B3.new (w : World) (key c s : Nat) (x y : List Nat) : B3 w key c s x y (((w.alloc (.cells #[.int .u32 (key : Int), .int .u8 (c : Int), .int .u8 (s : Int)] 83)).alloc (.cells (cellsOf x).toArray 32)).alloc (.cells (cellsOf y).toArray 32)) :=
  ⟨(heap_new3 _ _ _ _).1, (heap_new3 _ _ _ _).2.1, (heap_new3 _ _ _ _).2.2, (((Below.refl _ _).alloc (Nat.le_refl _) _).alloc (by simp) _).alloc (by simp; omega) _⟩
theorem B3.below {w W W' : World} {key c s : Nat} {x y : List Nat} (h : B3 w key c s x y W) (hb : Below W.heap.size W W') : B3 w key c s x y W' :=
  ⟨(hb.block _ h.1.lt).trans h.1, h.2.1.below hb h.2.1.lt, h.2.2.1.below hb h.2.2.1.lt, h.2.2.2.trans (hb.mono h.2.2.2.size)⟩
theorem B3.rd {w W : World} {key c s : Nat} {x y : List Nat} (h : B3 w key c s x y W) (hx : D32 x) : Rd W (some ⟨w.heap.size + 1, 0, none⟩) 32 x := by
  have := h.2.1.rd hx.2
  rwa [hx.1] at this
set_option maxRecDepth 100000 in
set_option maxHeartbeats 2000000 in
theorem step_c (key c s : Nat) (x : List Nat) (w : World) (hx : D32 x) (hk : key < 4294967296) (hc : c < 256) (hs : s < 256) (ht : Tab w) :
    Calls Tryd.prog 42 #[.agg #[.int .u32 (key : Int), .int .u8 (c : Int), .int .u8 (s : Int)], .agg (cellsOf x).toArray] w (DigRet (Ch.stepS key c s x) w) := by
  have HX := Lib.hid hx
  have HT := Lib.hid ht
  have hpos := ht.pos
  obtain ⟨P, hP⟩ : ∃ P, P = Numm.put key 4 := ⟨_, rfl⟩
  have HPL := Lib.hid (show P.length = 4 from by rw [hP, Numm.put_len])
  have HPB := Lib.hid (show ∀ z ∈ P, z < 256 from by rw [hP]; exact Numm.put_byte _ _)
  obtain ⟨S, hS⟩ : ∃ S, S = Ch.stepS key c s x := ⟨_, rfl⟩
  have HSD := Lib.hid (show D32 S from by rw [hS]; exact Ch.d32_step _ _ _ _)
  have HSE := Lib.hid hS
  have HPE := Lib.hid hP
  clear hx ht hP hS
  go_enter Tryd.func42, Tryd.ntmps42
  go_upto_region 1 with fail
  refine gen_code (F := B3 w key c s x zs32) (B3.new w _ _ _ _ _) ?_
  intro wA h
  have H0 := Lib.hid h
  have c0 := h.1.cell.1
  have hN : w.heap.size < wA.heap.size := h.1.lt
  clear h
  have HO0 := Lib.hid (ownlit wA [2] (by simp))
  have HB0 := Lib.hid (show Below wA.heap.size wA (wA.alloc (.cells (cellsOf [2]).toArray 5)) from (Below.refl _ _).alloc (Nat.le_refl _) _)
  go_wp2_with fail
  refine gen_calls (F := fun W => Own W wA.heap.size (.slice (some ⟨wA.heap.size, 0, none⟩) 1 1) [2] ∧ Below wA.heap.size wA W) ⟨HO0.out, HB0.out⟩ ?_
  rintro w1 ⟨ho1, hb1⟩
  have HPUT := Lib.hid ((put_in key 4 w1 (by omega) (by omega)).mono (RetB.form (Numm.put_byte _ _)))
  rw [← HPE.out] at HPUT
  refine HPUT.out.mono ?_
  rintro e2 w2 ⟨a2, L2, c2, rfl, hl2, hlc2, hc2, hn2, hr2, ho2, hb2⟩
  have HR2 := Lib.hid hr2
  have HO2 := Lib.hid (ho1.keep hb2)
  have HB2 := Lib.hid (hb1.trans (hb2.mono hb1.size))
  have HN2 := Lib.hid hn2
  have HLE := Lib.hid (show ([2] : List Nat).length + P.length ≤ 140737488355328 from by have := HPL.out; simp; omega)
  clear hl2 hlc2 hc2 hn2 hr2 ho2 hb2 HPUT HO0 HB0 ho1 hb1 c0
  have hsz2 := HB2.out.size
  go_upto_region 2 with (at_builtin; (refine wpList_catR rfl (.tmp 6) (.tmp 10) rfl wA.heap.size _ [2] P rfl HO2.out hsz2 _ _ _ rfl HR2.out HN2.out (by simp) HLE.out ?_); intro a3 L3 c3 w3 g1 g2 g3 g4 g5 g6 g7; have HL3 := Lib.hid g1; have HO3 := Lib.hid g6; have HB3 := Lib.hid (HB2.out.trans g7); clear g1 g2 g3 g4 g5 g6 g7)
  have hsz3 := HB3.out.size
  have H3 := Lib.hid (H0.out.below HB3.out)
  have c1 := H3.out.1.cell.2.1
  have c2' := H3.out.1.cell.2.2
  have HLE3 := Lib.hid (show ([2] ++ P).length + 2 ≤ 140737488355328 from by have := HPL.out; simp; omega)
  go_upto_region 3 with (at_builtin; (refine wpList_push2 rfl (.tmp 12) (.tmp 17) rfl wA.heap.size _ ([2] ++ P) c s _ _ rfl rfl rfl HO3.out hsz3 rfl HLE3.out ?_); intro v4 w4 g1 g2; have HO4 := Lib.hid g1; have HB4 := Lib.hid (HB3.out.trans g2); clear g1 g2)
  have hsz4 := HB4.out.size
  have H4 := Lib.hid (H0.out.below HB4.out)
  have HRX := Lib.hid (H4.out.rd HX.out)
  have HBY4 := Lib.hid (show ∀ z ∈ [2] ++ P ++ [c, s], z < 256 from by
    intro z hz
    simp only [List.mem_append, List.mem_cons, List.not_mem_nil, or_false] at hz
    rcases hz with (rfl | h) | rfl | rfl
    · omega
    · exact HPB.out z h
    · exact hc
    · exact hs)
  have HLE4 := Lib.hid (show ([2] ++ P ++ [c, s]).length + x.length ≤ 140737488355328 from by have := HPL.out; have := HX.out.1; simp; omega)
  have kD := fun W => run_digAll W (w.heap.size + 1) 0
  clear c1 c2' HO3 HB3 HL3 H3 HLE3 HB2 HO2 HR2 HLE
  go_wp2_with (at_builtin; (refine wpList_catR rfl (.tmp 19) (.tmp 20) rfl wA.heap.size _ ([2] ++ P ++ [c, s]) x rfl HO4.out hsz4 _ 32 32 rfl HRX.out (by simp) HBY4.out HLE4.out ?_); intro a5 L5 c5 w5 g1 g2 g3 g4 g5 g6 g7; have HB5 := Lib.hid (HB4.out.trans g7); have HSUM := Lib.hid (dsum_c a5 L5 c5 _ w5 g5 g2 g3 (by rw [← g1]; have := HX.out.1; have := HPL.out; simp; omega) (HT.out.below (H0.out.2.2.2.trans (HB5.out.mono H0.out.2.2.2.size)) hpos)); clear g1 g2 g3 g4 g5 g6 g7)
  have HE := Lib.hid (show Sha.sum ([2] ++ P ++ [c, s] ++ x) = S from by rw [HSE.out, HPE.out]; simp [Ch.stepS, Ch.stepB])
  rw [HE.out] at HSUM
  have H5 := Lib.hid (H0.out.below HB5.out)
  refine HSUM.out.mono ?_
  rintro e6 w6 ⟨rfl, hb6⟩
  have H6 := Lib.hid (H5.out.below hb6)
  have HI := Lib.hid (info_d32 S HSD.out)
  have HZ := Lib.hid (zs_size S HSD.out)
  clear hb6
  go_wp2_with (first | (refine wpList_store_row (by rfl) 32 _ _ (by rfl) (w.heap.size + 1 + 1) (cellsOf S).toArray (by rfl) (by rfl) 32 (cellsOf zs32).toArray H6.out.2.2.1 HI.out HZ.out (cellsOf_all _) ?_))
  refine bodyPost_ret (results_cell_row (by rfl) _ _ (w.heap.size + 1 + 1) _ (cellsOf S).toArray (0, 0) _ (by rfl) H6.out.2.2.1.setRow Tryd.underlying32 (by rfl) HI.out) ?_ ?_
  · rfl
  · exact ⟨by rw [HSE.out], H6.out.2.2.2.setRow (by omega) _⟩
end Go.Proofs.YtlnblfdddellmaaDoor
