/-
  The walks over the document's Secret, Bytes, Step and Climb of one-time keys.
-/
import Derived.Test.YtlnblfdddellmaaDoorChx
namespace Go.Proofs.YtlnblfdddellmaaDoor
open Go.RowKit
set_option linter.unusedVariables false
theorem tk_push (p l : List Nat) (k : Nat) (h : k < l.length) : (p ++ l.take k) ++ [l.getD k 0] = p ++ l.take (k + 1) := by
  rw [take_snoc l k h, List.append_assoc, getD_at l k h]
def B1 (w : World) (t : TypeId) (x : List Nat) (W : World) : Prop := Brow W w.heap.size t x ∧ Below w.heap.size w W
theorem B1.new (w : World) (t : TypeId) (x : List Nat) : B1 w t x (w.alloc (.cells (cellsOf x).toArray t)) := ⟨heap_new _ _, (Below.refl _ _).alloc (Nat.le_refl _) _⟩
theorem B1.below {w W W' : World} {t : TypeId} {x : List Nat} (h : B1 w t x W) (hb : Below W.heap.size W W') : B1 w t x W' :=
  ⟨h.1.below hb h.1.lt, h.2.trans (hb.mono h.2.size)⟩
set_option maxRecDepth 100000 in
set_option maxHeartbeats 2000000 in
theorem rbytes_c (key c s : Nat) (x : List Nat) (w : World) (hx : D32 x) (hk : key < 4294967296) (hc : c < 256) (hs : s < 256) :
    Calls Tryd.prog 61 #[.int .u32 (key : Int), .int .u8 (c : Int), .int .u8 (s : Int), .agg (cellsOf x).toArray] w (RetB w.heap.size w (Ch.stepB key c s x)) := by
  have HX := Lib.hid hx
  obtain ⟨P, hP⟩ : ∃ P, P = Numm.put key 4 := ⟨_, rfl⟩
  have HPL := Lib.hid (show P.length = 4 from by rw [hP, Numm.put_len])
  have HPE := Lib.hid hP
  clear hx hP
  go_enter Tryd.func61, Tryd.ntmps61
  go_upto_region 1 with fail
  refine gen_code (F := B1 w 31 x) (B1.new w _ _) ?_
  intro wA h
  have H0 := Lib.hid h
  clear h
  have HO0 := Lib.hid (ownlit wA [2] (by simp))
  have HB0 := Lib.hid (show Below wA.heap.size wA (wA.alloc (.cells (cellsOf [2]).toArray 5)) from (Below.refl _ _).alloc (Nat.le_refl _) _)
  go_wp2_with fail
  refine gen_calls (F := fun W => Own W wA.heap.size (.slice (some ⟨wA.heap.size, 0, none⟩) 1 1) [2] ∧ Below wA.heap.size wA W) ⟨HO0.out, HB0.out⟩ ?_
  rintro w1 ⟨ho1, hb1⟩
  have HPUT := Lib.hid ((refPut_in key 4 w1 (by omega) (by omega) (by omega)).mono (RetB.form (Numm.put_byte _ _)))
  rw [← HPE.out] at HPUT
  refine HPUT.out.mono ?_
  rintro e2 w2 ⟨a2, L2, c2, rfl, hl2, hlc2, hc2, hn2, hr2, ho2, hb2⟩
  have HR2 := Lib.hid hr2
  have HO2 := Lib.hid (ho1.keep hb2)
  have HB2 := Lib.hid (hb1.trans (hb2.mono hb1.size))
  have HN2 := Lib.hid hn2
  have HLE := Lib.hid (show ([2] : List Nat).length + P.length ≤ 140737488355328 from by have := HPL.out; simp; omega)
  clear hl2 hlc2 hc2 hn2 hr2 ho2 hb2 HPUT HO0 HB0 ho1 hb1
  have hsz2 := HB2.out.size
  go_upto_region 2 with (at_builtin; (refine wpList_catR rfl (.tmp 11) (.tmp 14) rfl wA.heap.size _ [2] P rfl HO2.out hsz2 _ _ _ rfl HR2.out HN2.out (by simp) HLE.out ?_); intro a3 L3 c3 w3 g1 g2 g3 g4 g5 g6 g7; have HO3 := Lib.hid g6; have HB3 := Lib.hid (HB2.out.trans g7); clear g1 g2 g3 g4 g5 g6 g7)
  have hsz3 := HB3.out.size
  have HLE3 := Lib.hid (show ([2] ++ P).length + 1 ≤ 140737488355328 from by have := HPL.out; simp; omega)
  go_upto_region 3 with (at_builtin; (refine wpList_push rfl (.tmp 16) (.tmp 18) rfl wA.heap.size _ ([2] ++ P) c _ rfl rfl HO3.out hsz3 rfl HLE3.out ?_); intro v4 w4 g1 g2; have HO4 := Lib.hid g1; have HB4 := Lib.hid (HB3.out.trans g2); clear g1 g2)
  have hsz4 := HB4.out.size
  have HLE4 := Lib.hid (show ([2] ++ P ++ [c]).length + 1 ≤ 140737488355328 from by have := HPL.out; simp; omega)
  go_upto_region 4 with (at_builtin; (refine wpList_push rfl (.tmp 20) (.tmp 22) rfl wA.heap.size _ ([2] ++ P ++ [c]) s _ rfl rfl HO4.out hsz4 rfl HLE4.out ?_); intro v5 w5 g1 g2; have HO5 := Lib.hid g1; have HB5 := Lib.hid (HB4.out.trans g2); clear g1 g2)
  obtain ⟨Q, hQ⟩ : ∃ Q, Q = [2] ++ P ++ [c] ++ [s] := ⟨_, rfl⟩
  rw [← hQ] at HO5
  have HQL := Lib.hid (show Q.length = 7 from by rw [hQ]; have := HPL.out; simp; omega)
  have HQE := Lib.hid (show Q ++ x = Ch.stepB key c s x from by rw [hQ, HPE.out]; simp [Ch.stepB])
  clear hQ HO4 HB4 HO3 HB3 HO2 HB2 HR2 HLE HLE3 HLE4
  go_wp2_with fail
  go_loopw [9, 10] (fun v i wr => ∃ k : Nat, k ≤ 32 ∧ i = .int .i64 k ∧ Hid (Own wr wA.heap.size v (Q ++ x.take k)) ∧ Hid (Below wA.heap.size wA wr)) (fun _ i _ => 32 - (intOf i).toNat)
  case atStart => exact ⟨0, Nat.zero_le _, rfl, by rw [List.take_zero, List.append_nil]; exact HO5, HB5⟩
  case round =>
    clear HO5 HB5
    obtain ⟨k, hk, rfl, HO, HB⟩ := hrel
    by_cases hkl : k < 32
    · have hsz := HB.out.size
      obtain ⟨z, hz⟩ : ∃ z, z = x.getD k 0 := ⟨_, rfl⟩
      have hcx : wr.cell? ⟨w.heap.size, k, none⟩ = some (.int .u8 (z : Int)) := by rw [hz]; exact (H0.out.below HB.out).1.cell k (by rw [HX.out.1]; exact hkl)
      have HZ := Lib.hid hz
      have HLK := Lib.hid (show (Q ++ x.take k).length + 1 ≤ 140737488355328 from by rw [List.length_append, List.length_take, HQL.out]; omega)
      clear hz
      go_wp2_with (at_builtin; (refine wpList_push rfl (.tmp 28) (.tmp 32) rfl wA.heap.size _ (Q ++ x.take k) z _ rfl rfl HO.out hsz rfl HLK.out ?_); intro v6 w6 g1 g2; have HO6 := Lib.hid (show Own w6 wA.heap.size v6 (Q ++ x.take (k + 1)) from by rw [← tk_push Q x k (by rw [HX.out.1]; exact hkl), ← HZ.out]; exact g1); have HB6 := Lib.hid (HB.out.trans g2); clear g1 g2 HO HB hcx hsz HZ)
      go_roundw
      case rel => exact ⟨k + 1, by omega, by go_num, HO6, HB6⟩
      case measure => simp [intOf]; omega
    · obtain rfl : k = 32 := by omega
      have HF := Lib.hid (show Own wr wA.heap.size u9 (Ch.stepB key c s x) from by
        have := HO.out
        rwa [List.take_of_length_le (by rw [HX.out.1]; omega), HQE.out] at this)
      clear HO
      go_wp2_with fail
      go_ret
      exact ⟨_, rfl, HF.out.base H0.out.2.size, H0.out.2.trans (HB.out.mono H0.out.2.size)⟩
set_option maxRecDepth 100000 in
set_option maxHeartbeats 2000000 in
theorem rstep_c (key c s : Nat) (x : List Nat) (w : World) (hx : D32 x) (hk : key < 4294967296) (hc : c < 256) (hs : s < 256) :
    Calls Tryd.prog 48 #[.int .u32 (key : Int), .int .u8 (c : Int), .int .u8 (s : Int), .agg (cellsOf x).toArray] w (DigRet (Ch.stepS key c s x) w) := by
  have HX := Lib.hid hx
  obtain ⟨S, hS⟩ : ∃ S, S = Ch.stepS key c s x := ⟨_, rfl⟩
  have HSD := Lib.hid (show D32 S from by rw [hS]; exact Ch.d32_step _ _ _ _)
  have HSE := Lib.hid hS
  clear hx hS
  go_enter Tryd.func48, Tryd.ntmps48
  go_upto_region 1 with fail
  refine gen_code (F := B2 w 31 x zs32) (B2.new w _ _ _) ?_
  intro wA h
  have H0 := Lib.hid h
  clear h
  have HI := Lib.hid (info_r32 x HX.out)
  have HIS := Lib.hid (info_r32 S HSD.out)
  have HZ := Lib.hid (zs_size S HSD.out)
  have HBY := Lib.hid ((rbytes_c key c s x wA HX.out hk hc hs).mono (RetB.form (Ch.stepB_byte key c s x hc hs HX.out.2)))
  have HLB := Lib.hid (Ch.stepB_len key c s x HX.out.1)
  obtain ⟨Q, hQ⟩ : ∃ Q, Q = Ch.stepB key c s x := ⟨_, rfl⟩
  rw [← hQ] at HBY HLB
  have HSQ := Lib.hid (show Sha.sum Q = S from by rw [hQ, HSE.out]; rfl)
  clear hQ
  go_wp2_with (first | (refine wpList_load_row (by rfl) 31 _ (by rfl) w.heap.size (by rfl) _ (cellsOf x).toArray (0, 0) _ H0.out.1 Tryd.underlying31 (by rfl) HI.out ?_))
  refine HBY.out.mono ?_
  rintro e1 w1 ⟨a1, L1, c1, rfl, hl1, hlc1, hc1, hn1, hr1, ho1, hb1⟩
  have H1 := Lib.hid (H0.out.below hb1)
  have HSUM := Lib.hid (rsum_c Q a1 L1 c1 w1 hr1 (by rw [← hl1, HLB.out]; omega))
  rw [HSQ.out] at HSUM
  clear hl1 hlc1 hc1 hn1 hr1 ho1 hb1 HBY H0
  go_wp2_with fail
  refine HSUM.out.mono ?_
  rintro e2 w2 ⟨rfl, hb2⟩
  have H2 := Lib.hid (H1.out.below hb2)
  clear hb2
  go_wp2_with (first | (refine wpList_store_row (by rfl) 31 _ _ (by rfl) (w.heap.size + 1) (cellsOf S).toArray (by rfl) (by rfl) 31 (cellsOf zs32).toArray H2.out.2.1 HIS.out HZ.out (cellsOf_all _) ?_))
  refine bodyPost_ret (results_cell_row (by rfl) _ _ (w.heap.size + 1) _ (cellsOf S).toArray (0, 0) _ (by rfl) H2.out.2.1.setRow Tryd.underlying31 (by rfl) HIS.out) ?_ ?_
  · rfl
  · exact ⟨by rw [HSE.out], H2.out.2.2.setRow (by omega) _⟩
set_option maxRecDepth 100000 in
set_option maxHeartbeats 2000000 in
theorem rclimb_c (key c f t : Nat) (x : List Nat) (w : World) (hx : D32 x) (hk : key < 4294967296) (hc : c < 256) (hft : f ≤ t) (ht15 : t ≤ 255) :
    Calls Tryd.prog 43 #[.int .u32 (key : Int), .int .u8 (c : Int), .agg (cellsOf x).toArray, .int .i64 (f : Int), .int .i64 (t : Int)] w (DigRet (Ch.climbS key c x f (t - f)) w) := by
  have HX := Lib.hid hx
  clear hx
  go_enter Tryd.func43, Tryd.ntmps43
  go_upto_region 1 with fail
  refine gen_code (F := B2 w 31 x zs32) (B2.new w _ _ _) ?_
  intro wA h
  have H0 := Lib.hid h
  clear h
  go_wp2_with fail
  go_loopw [11] (fun i wr => ∃ k : Nat, f + k ≤ t ∧ i = .int .i64 ((f + k : Nat) : Int) ∧ Hid (B2 w 31 (Ch.climbS key c x f k) zs32 wr)) (fun i _ => t - (intOf i).toNat)
  case atStart => exact ⟨0, by omega, rfl, H0⟩
  case round =>
    clear H0
    obtain ⟨k, hk1, rfl, HB⟩ := hrel
    obtain ⟨X, hX⟩ : ∃ X, X = Ch.climbS key c x f k := ⟨_, rfl⟩
    rw [← hX] at HB
    have HXD := Lib.hid (show D32 X from by rw [hX]; exact Ch.d32_climb HX.out _ _)
    have HI := Lib.hid (info_r32 X HXD.out)
    have HXE := Lib.hid hX
    clear hX
    by_cases hkt : f + k < t
    · have hwr : IntKind.u8.wrap ((f + k : Nat) : Int) = ((f + k : Nat) : Int) := by rw [IntKind.wrap_u8]; omega
      have hwr' : IntKind.u8.wrap ((f : Int) + (k : Int)) = ((f + k : Nat) : Int) := by rw [IntKind.wrap_u8]; omega
      have HST := Lib.hid (rstep_c key c (f + k) X wr HXD.out hk hc (by omega))
      obtain ⟨Y, hY⟩ : ∃ Y, Y = Ch.stepS key c (f + k) X := ⟨_, rfl⟩
      rw [← hY] at HST
      have HYD := Lib.hid (show D32 Y from by rw [hY]; exact Ch.d32_step _ _ _ _)
      have HYE := Lib.hid (show Y = Ch.climbS key c x f (k + 1) from by rw [hY, HXE.out]; rfl)
      have HIY := Lib.hid (info_r32 Y HYD.out)
      have HZ := Lib.hid (dd_size X Y HXD.out HYD.out)
      clear hY
      go_wp2_with (first | (refine wpList_load_row (by rfl) 31 _ (by rfl) w.heap.size (by rfl) _ (cellsOf X).toArray (0, 0) _ HB.out.1 Tryd.underlying31 (by rfl) HI.out ?_) | (go_at_call 48; refine HST.out.mono ?_; rintro e w1 ⟨rfl, hb1⟩; have H1 := Lib.hid (HB.out.below hb1); clear hb1) | (refine wpList_store_row (by rfl) 31 _ _ (by rfl) w.heap.size (cellsOf Y).toArray (by rfl) (by rfl) 31 (cellsOf X).toArray H1.out.1 HIY.out HZ.out (cellsOf_all _) ?_))
      have H2 := Lib.hid (show B2 w 31 (Ch.climbS key c x f (k + 1)) zs32 (w1.setRow w.heap.size (cellsOf Y).toArray) from by rw [← HYE.out]; exact H1.out.put Y)
      go_roundw
      case rel => exact ⟨k + 1, by omega, by go_num, H2⟩
      case measure => simp [intOf]; omega
    · obtain rfl : t = f + k := by omega
      have HZ := Lib.hid (zs_size X HXD.out)
      go_wp2_with (first | (refine wpList_load_row (by rfl) 31 _ (by rfl) w.heap.size (by rfl) _ (cellsOf X).toArray (0, 0) _ HB.out.1 Tryd.underlying31 (by rfl) HI.out ?_) | (refine wpList_store_row (by rfl) 31 _ _ (by rfl) (w.heap.size + 1) (cellsOf X).toArray (by rfl) (by rfl) 31 (cellsOf zs32).toArray HB.out.2.1 HI.out HZ.out (cellsOf_all _) ?_))
      refine bodyPost_ret (results_cell_row (by rfl) _ _ (w.heap.size + 1) _ (cellsOf X).toArray (0, 0) _ (by rfl) HB.out.2.1.setRow Tryd.underlying31 (by rfl) HI.out) ?_ ?_
      · rfl
      · exact ⟨by rw [HXE.out, Nat.add_sub_cancel_left], HB.out.2.2.setRow (by omega) _⟩
set_option maxRecDepth 100000 in
set_option maxHeartbeats 2000000 in
theorem rsecret_c (seed : List Nat) (key c : Nat) (w : World) (hs : D32 seed) (hk : key < 4294967296) (hc : c < 256) :
    Calls Tryd.prog 44 #[.agg (cellsOf seed).toArray, .int .u32 (key : Int), .int .u8 (c : Int)] w (DigRet (Ch.secS seed key c) w) := by
  have HX := Lib.hid hs
  obtain ⟨P, hP⟩ : ∃ P, P = Numm.put key 4 := ⟨_, rfl⟩
  have HPL := Lib.hid (show P.length = 4 from by rw [hP, Numm.put_len])
  have HPB := Lib.hid (show ∀ z ∈ P, z < 256 from by rw [hP]; exact Numm.put_byte _ _)
  have HPE := Lib.hid hP
  obtain ⟨S, hS⟩ : ∃ S, S = Ch.secS seed key c := ⟨_, rfl⟩
  have HSD := Lib.hid (show D32 S from by rw [hS]; exact Ch.d32_sec _ _ _)
  have HSE := Lib.hid hS
  have HI := Lib.hid (info_r32 S HSD.out)
  have HZ := Lib.hid (zs_size S HSD.out)
  clear hs hP hS
  go_enter Tryd.func44, Tryd.ntmps44
  go_upto_region 1 with fail
  refine gen_code (F := B2 w 31 seed zs32) (B2.new w _ _ _) ?_
  intro wA h
  have H0 := Lib.hid h
  clear h
  have HO0 := Lib.hid (ownlit wA [4] (by simp))
  have HB0 := Lib.hid (show Below wA.heap.size wA (wA.alloc (.cells (cellsOf [4]).toArray 5)) from (Below.refl _ _).alloc (Nat.le_refl _) _)
  go_wp2_with fail
  go_loopw [7, 8] (fun v i wr => ∃ k : Nat, k ≤ 32 ∧ i = .int .i64 k ∧ Hid (Own wr wA.heap.size v ([4] ++ seed.take k)) ∧ Hid (Below wA.heap.size wA wr)) (fun _ i _ => 32 - (intOf i).toNat)
  case atStart => exact ⟨0, Nat.zero_le _, rfl, by rw [List.take_zero, List.append_nil]; exact HO0, HB0⟩
  case round =>
    clear HO0 HB0
    obtain ⟨k, hk1, rfl, HO, HB⟩ := hrel
    by_cases hkl : k < 32
    · have hsz := HB.out.size
      obtain ⟨z, hz⟩ : ∃ z, z = seed.getD k 0 := ⟨_, rfl⟩
      have hcx : wr.cell? ⟨w.heap.size, k, none⟩ = some (.int .u8 (z : Int)) := by rw [hz]; exact (H0.out.below HB.out).1.cell k (by rw [HX.out.1]; exact hkl)
      have HZ := Lib.hid hz
      have HLK := Lib.hid (show ([4] ++ seed.take k).length + 1 ≤ 140737488355328 from by rw [List.length_append, List.length_take]; simp; omega)
      clear hz
      go_wp2_with (at_builtin; (refine wpList_push rfl (.tmp 14) (.tmp 18) rfl wA.heap.size _ ([4] ++ seed.take k) z _ rfl rfl HO.out hsz rfl HLK.out ?_); intro v6 w6 g1 g2; have HO6 := Lib.hid (show Own w6 wA.heap.size v6 ([4] ++ seed.take (k + 1)) from by rw [← tk_push [4] seed k (by rw [HX.out.1]; exact hkl), ← HZ.out]; exact g1); have HB6 := Lib.hid (HB.out.trans g2); clear g1 g2 HO HB hcx hsz HZ)
      go_roundw
      case rel => exact ⟨k + 1, by omega, by go_num, HO6, HB6⟩
      case measure => simp [intOf]; omega
    · obtain rfl : k = 32 := by omega
      have HO1 := Lib.hid (show Own wr wA.heap.size u7 ([4] ++ seed) from by
        have := HO.out
        rwa [List.take_of_length_le (by rw [HX.out.1]; omega)] at this)
      have hsz1 := HB.out.size
      have HPUT := Lib.hid ((refPut_in key 4 wr (by omega) (by omega) (by omega)).mono (RetB.form (Numm.put_byte _ _)))
      rw [← HPE.out] at HPUT
      clear HO
      go_wp2_with fail
      refine HPUT.out.mono ?_
      rintro e2 w2 ⟨a2, L2, c2, rfl, hl2, hlc2, hc2, hn2, hr2, ho2, hb2⟩
      have HR2 := Lib.hid hr2
      have HO2 := Lib.hid (HO1.out.keep hb2)
      have HB2 := Lib.hid (HB.out.trans (hb2.mono hsz1))
      have HN2 := Lib.hid hn2
      have HLE := Lib.hid (show ([4] ++ seed).length + P.length ≤ 140737488355328 from by have := HX.out.1; have := HPL.out; simp; omega)
      have HBY := Lib.hid (show ∀ z ∈ [4] ++ seed, z < 256 from by
        intro z hz
        rcases List.mem_append.1 hz with h | h
        · simp at h; omega
        · exact HX.out.2 z h)
      clear hl2 hlc2 hc2 hn2 hr2 ho2 hb2 HPUT HO1
      have hsz2 := HB2.out.size
      go_upto_region 7 with (at_builtin; (refine wpList_catR rfl (.tmp 20) (.tmp 23) rfl wA.heap.size _ ([4] ++ seed) P rfl HO2.out hsz2 _ _ _ rfl HR2.out HN2.out HBY.out HLE.out ?_); intro a3 L3 c3 w3 g1 g2 g3 g4 g5 g6 g7; have HO3 := Lib.hid g6; have HB3 := Lib.hid (HB2.out.trans g7); clear g1 g2 g3 g4 g5 g6 g7)
      have hsz3 := HB3.out.size
      have HLE3 := Lib.hid (show ([4] ++ seed ++ P).length + 1 ≤ 140737488355328 from by have := HX.out.1; have := HPL.out; simp; omega)
      go_wp2_with (at_builtin; (refine wpList_push rfl (.tmp 25) (.tmp 27) rfl wA.heap.size _ ([4] ++ seed ++ P) c _ rfl rfl HO3.out hsz3 rfl HLE3.out ?_); intro v4 w4 g1 g2; have HO4 := Lib.hid g1; have HB4 := Lib.hid (HB3.out.trans g2); clear g1 g2)
      obtain ⟨a4, L4, c4, rfl, g1, g2, g3, g4, g5, g6⟩ := HO4.out.form (by
        intro z hz
        rcases List.mem_append.1 hz with h | h
        · rcases List.mem_append.1 h with h | h
          · exact HBY.out z h
          · exact HPB.out z h
        · simp at h; omega)
      have HSUM := Lib.hid (rsum_c _ a4 L4 c4 w4 g5 (by rw [← g1]; have := HX.out.1; have := HPL.out; simp; omega))
      have HE := Lib.hid (show Sha.sum ([4] ++ seed ++ P ++ [c]) = S from by rw [HSE.out, HPE.out]; simp [Ch.secS, Ch.secB])
      rw [HE.out] at HSUM
      have H4 := Lib.hid (H0.out.below HB4.out)
      clear g1 g2 g3 g4 g5 g6 HO4 HO3 HB3 HR2 HO2
      go_wp2_with fail
      refine HSUM.out.mono ?_
      rintro e5 w5 ⟨rfl, hb5⟩
      have H5 := Lib.hid (H4.out.below hb5)
      clear hb5
      go_wp2_with (first | (refine wpList_store_row (by rfl) 31 _ _ (by rfl) (w.heap.size + 1) (cellsOf S).toArray (by rfl) (by rfl) 31 (cellsOf zs32).toArray H5.out.2.1 HI.out HZ.out (cellsOf_all _) ?_))
      refine bodyPost_ret (results_cell_row (by rfl) _ _ (w.heap.size + 1) _ (cellsOf S).toArray (0, 0) _ (by rfl) H5.out.2.1.setRow Tryd.underlying31 (by rfl) HI.out) ?_ ?_
      · rfl
      · exact ⟨by rw [HSE.out], H5.out.2.2.setRow (by omega) _⟩
end Go.Proofs.YtlnblfdddellmaaDoor
