/-
  The walks over Leaf, and over the document's Node and Leaf.
-/
import Derived.Test.YthnfbdmkdpokcaaDoorPai
namespace Go.Proofs.YthnfbdmkdpokcaaDoor
open Go.RowKit
set_option linter.unusedVariables false
theorem close_run (p : List Nat) (n : Nat) (hn : n = p.length) : Sha.close (Sha.run Sha.H0 p) (Sha.rest p) n = Sha.sum p := by subst hn; rfl
set_option maxRecDepth 100000 in
set_option maxHeartbeats 2000000 in
theorem leaf_c (a : Option Addr) (len cap : Nat) (zs : List Nat) (w : World) (hr : Rd w a len zs) (hlc : len ≤ cap) (hcm : cap ≤ 9223372036854775807) (hlm : len ≤ 140737488355327) (ht : Tab w) :
    Calls Tryd.prog 15 #[.slice a len cap] w (DigRet (leafS zs) w) := by
  have HR := Lib.hid hr
  have HT := Lib.hid ht
  have hpos := ht.pos
  clear hr ht
  go_enter Tryd.func15, Tryd.ntmps15
  go_wp2_with fail
  refine gen_calls (F := fun W => Brow W w.heap.size 27 zs32 ∧ Below w.heap.size w W) ⟨heap_new _ _, (Below.refl _ _).alloc (Nat.le_refl _) _⟩ ?_
  rintro w0 ⟨hd0, hb0⟩
  refine (new_c w0).mono ?_
  rintro e1 w1 ⟨g, rfl, hg, hst, hb1⟩
  have hdl := hd0.lt
  have HD1 := Lib.hid (hd0.below hb1 hdl)
  have HB1 := Lib.hid (hb0.trans (hb1.mono hb0.size))
  have HST1 := Lib.hid (show StM w1 g Sha.H0 [] 0 from ⟨_, hst, rfl⟩)
  have hsz := hb0.size
  have hgl := hst.lt
  clear hst hb1 hd0 hb0
  go_wp2_with fail
  refine gen_calls (F := fun W => Rd W (some ⟨w1.heap.size, 0, none⟩) 1 [0] ∧ Below w1.heap.size w1 W) ⟨rd_one w1 0 (by decide), (Below.refl _ _).alloc (Nat.le_refl _) _⟩ ?_
  rintro w1b ⟨hr1, hb1⟩
  have HB1b := Lib.hid (HB1.out.trans (hb1.mono HB1.out.size))
  have HD1b := Lib.hid (HD1.out.below hb1 HD1.out.lt)
  refine (write_c w1b g Sha.H0 [] 0 (HST1.out.below hb1 hgl) (some ⟨w1.heap.size, 0, none⟩) 1 1 [0] hr1 (by omega) (by omega) (by omega) (fun _ => by simp [blkOf]; omega) (HT.out.below HB1b.out hpos) (by omega)).mono ?_
  rintro e2 w2 ⟨rfl, hst2, ho2⟩
  have hs1b := hb1.size
  have HB2 := Lib.hid (HB1b.out.trans (ho2.below (by omega) (by have := HB1b.out.size; omega)))
  have HD2 := Lib.hid (HD1b.out.only ho2 (by omega))
  have HST2 := Lib.hid hst2
  clear hst2 ho2 hr1 hb1 HB1b HD1b HST1
  go_wp2_with fail
  have HR2 := Lib.hid (HR.out.below HB2.out)
  refine (write_c w2 g (Sha.run Sha.H0 ([] ++ [0])) (Sha.rest ([] ++ [0])) (0 + 1) HST2.out a len cap zs HR2.out hlc hcm (by omega) (HR.out.blk g (by omega)) (HT.out.below HB2.out hpos) (by omega)).mono ?_
  rintro e3 w3 ⟨rfl, hst3, ho3⟩
  rw [(Sha.run_run Sha.H0 ([] ++ [0]) zs).1, (Sha.run_run Sha.H0 ([] ++ [0]) zs).2] at hst3
  have HB3 := Lib.hid (HB2.out.trans (ho3.below (by omega) (by have := HB2.out.size; omega)))
  have HD3 := Lib.hid (HD2.out.only ho3 (by omega))
  obtain ⟨S, hS⟩ : ∃ S, S = leafS zs := ⟨_, rfl⟩
  have HSUM := Lib.hid (show Calls Tryd.prog 46 #[.pointer (some ⟨g, 0, none⟩)] w3 (DigRet S w3) from by
    have h := ssum_c w3 g _ _ _ hst3 (HT.out.below HB3.out hpos)
    rw [close_run _ _ (by simp [HR.out.1]; omega)] at h
    rw [hS]
    exact h)
  have HS := Lib.hid (show D32 S from by rw [hS]; exact d32_sum _)
  have HSE := Lib.hid hS
  clear hst3 ho3 hS HST2 HR2
  go_wp2_with fail
  refine HSUM.out.mono ?_
  rintro e4 w4 ⟨rfl, hb4⟩
  have HD4 := Lib.hid (HD3.out.below hb4 HD3.out.lt)
  have HB4 := Lib.hid (HB3.out.trans (hb4.mono HB3.out.size))
  have HI32 := Lib.hid (show (Tryd.prog.info? 27).map (·.size) = some (cellsOf S).toArray.size from by rw [cellsOf_size, HS.out.1]; exact info_dig)
  have hsz32 := Lib.hid (show (cellsOf zs32).toArray.size = (cellsOf S).toArray.size from by rw [cellsOf_size, cellsOf_size, HS.out.1, zs32_len])
  clear hb4
  go_wp2_with (first | (refine wpList_store_row (by rfl) 27 _ _ (by rfl) w.heap.size (cellsOf S).toArray (by rfl) (by rfl) 27 (cellsOf zs32).toArray HD4.out HI32.out hsz32.out (cellsOf_all _) ?_))
  refine bodyPost_ret (results_cell_row (by rfl) _ _ w.heap.size _ (cellsOf S).toArray (0, 0) _ (by rfl) HD4.out.setRow Tryd.underlying27 (by rfl) HI32.out) ?_ ?_
  · rfl
  · exact ⟨by rw [HSE.out], HB4.out.setRow (Nat.le_refl _) _⟩

set_option maxRecDepth 100000 in
set_option maxHeartbeats 2000000 in
theorem rnode_c (l r : List Nat) (w : World) (hl : D32 l) (hr : D32 r) :
    Calls Tryd.prog 40 #[.agg (cellsOf l).toArray, .agg (cellsOf r).toArray] w (DigRet (nodeS l r) w) := by
  have HL := Lib.hid hl
  have HR := Lib.hid hr
  clear hl hr
  go_enter Tryd.func40, Tryd.ntmps40
  go_upto_region 1 with fail
  refine gen_code (F := fun W => Brow W w.heap.size 26 l ∧ Brow W (w.heap.size + 1) 26 r ∧ Brow W (w.heap.size + 1 + 1) 26 zs32 ∧ Below w.heap.size w W) ⟨(heap_new3 _ _ _ _).1, (heap_new3 _ _ _ _).2.1, (heap_new3 _ _ _ _).2.2, (((Below.refl _ _).alloc (Nat.le_refl _) _).alloc (by simp) _).alloc (by simp; omega) _⟩ ?_
  rintro wA ⟨h1, h2, h3, hb⟩
  have HA := Lib.hid h1
  have HB := Lib.hid h2
  have HC := Lib.hid h3
  have HBW := Lib.hid hb
  have HIL := Lib.hid (show (Tryd.prog.info? 26).map (·.size) = some (cellsOf l).toArray.size by rw [cellsOf_size, HL.out.1]; exact info_a32b)
  have HIR := Lib.hid (show (Tryd.prog.info? 26).map (·.size) = some (cellsOf r).toArray.size by rw [cellsOf_size, HR.out.1]; exact info_a32b)
  clear h1 h2 h3 hb
  go_wp2_with (first | (refine wpList_load_row (by rfl) 26 _ (by rfl) w.heap.size (by rfl) _ (cellsOf l).toArray (0, 0) _ HA.out Tryd.underlying26 (by rfl) HIL.out ?_) | (refine wpList_load_row (by rfl) 26 _ (by rfl) (w.heap.size + 1) (by rfl) _ (cellsOf r).toArray (0, 0) _ HB.out Tryd.underlying26 (by rfl) HIR.out ?_))
  refine ((pair_c l r wA HL.out HR.out).mono (RetB.form (by
    intro z hz
    simp only [List.mem_cons, List.mem_append] at hz
    rcases hz with rfl | h | h
    · omega
    · exact HL.out.2 z h
    · exact HR.out.2 z h))).mono ?_
  rintro e1 w1 ⟨a1, L1, c1, rfl, hl1, hlc1, hc1, hn1, hr1, ho1, hb1⟩
  have HC1 := Lib.hid (HC.out.below hb1 HC.out.lt)
  have HBW1 := Lib.hid (HBW.out.trans (hb1.mono HBW.out.size))
  have HR1 := Lib.hid hr1
  have hL1 : L1 = 65 := by rw [← hl1, List.length_cons, List.length_append, HL.out.1, HR.out.1]
  obtain ⟨S, hS⟩ : ∃ S, S = nodeS l r := ⟨_, rfl⟩
  have HSUM := Lib.hid (show Calls Tryd.prog 47 #[.slice a1 L1 c1] w1 (DigRet S w1) from by rw [hS]; exact rsum_c _ a1 L1 c1 w1 hr1 (by omega))
  have HS := Lib.hid (show D32 S from by rw [hS]; exact d32_sum _)
  have HSE := Lib.hid hS
  clear hl1 hr1 ho1 hb1 hS HA HB hL1
  go_wp2_with fail
  refine HSUM.out.mono ?_
  rintro e2 w2 ⟨rfl, hb2⟩
  have HC2 := Lib.hid (HC1.out.below hb2 HC1.out.lt)
  have HBW2 := Lib.hid (HBW1.out.trans (hb2.mono HBW1.out.size))
  have HI := Lib.hid (show (Tryd.prog.info? 26).map (·.size) = some (cellsOf S).toArray.size by rw [cellsOf_size, HS.out.1]; exact info_a32b)
  have HSS := Lib.hid (show (cellsOf zs32).toArray.size = (cellsOf S).toArray.size by rw [cellsOf_size, cellsOf_size, HS.out.1]; rfl)
  clear hb2
  go_wp2_with (first | (refine wpList_store_row (by rfl) 26 _ _ (by rfl) (w.heap.size + 1 + 1) (cellsOf S).toArray (by rfl) (by rfl) 26 (cellsOf zs32).toArray HC2.out HI.out HSS.out (cellsOf_all _) ?_))
  refine bodyPost_ret (results_cell_row (by rfl) _ _ (w.heap.size + 1 + 1) _ (cellsOf S).toArray (0, 0) _ (by rfl) HC2.out.setRow Tryd.underlying26 (by rfl) HI.out) ?_ ?_
  · rfl
  · exact ⟨by rw [HSE.out], HBW2.out.setRow (by omega) _⟩

set_option maxRecDepth 100000 in
set_option maxHeartbeats 2000000 in
theorem rleaf_end (w wr : World) (v : Value) (zs : List Nat) (B : Nat) (hd : Brow wr w.heap.size 26 zs32) (hB : Below w.heap.size w wr) (ho : Own wr B v (0 :: zs)) (hz : ∀ z ∈ zs, z < 256) (hl : zs.length ≤ 140737488355326) :
    Calls Tryd.prog 47 #[v] wr fun e w' => e = .returned (.agg (cellsOf (leafS zs)).toArray) ∧ Brow w' w.heap.size 26 zs32 ∧ Below w.heap.size w w' := by
  obtain ⟨a, L, c, rfl, h1, h2, h3, h4, h5, h6⟩ := ho.form (by
    intro z hm
    rcases List.mem_cons.1 hm with rfl | h
    · omega
    · exact hz z h)
  refine (rsum_c _ a L c wr h5 (by rw [← h1, List.length_cons]; omega)).mono ?_
  rintro e w' ⟨rfl, hb⟩
  exact ⟨rfl, hd.below hb hd.lt, hB.trans (hb.mono hB.size)⟩
set_option maxRecDepth 100000 in
set_option maxHeartbeats 2000000 in
theorem rleaf_c (a : Option Addr) (len cap : Nat) (zs : List Nat) (w : World) (hr : Rd w a len zs) (hlm : len ≤ 140737488355326) :
    Calls Tryd.prog 16 #[.slice a len cap] w (DigRet (leafS zs) w) := by
  have HR := Lib.hid hr
  have HS := Lib.hid (show D32 (leafS zs) from d32_sum _)
  clear hr
  go_enter Tryd.func16, Tryd.ntmps16
  go_upto_region 1 with fail
  refine gen_code (F := fun W => Brow W w.heap.size 26 zs32 ∧ Below w.heap.size w W) ⟨heap_new _ _, (Below.refl _ _).alloc (Nat.le_refl _) _⟩ ?_
  rintro wA ⟨hd, hb⟩
  have HD := Lib.hid hd
  have HBW := Lib.hid hb
  have hlt := hd.lt
  have HO := Lib.hid (own_one wA 0)
  have HB0 := Lib.hid (show Below wA.heap.size wA (wA.alloc (.cells #[.int .u8 ((0 : Nat) : Int)] 5)) from (Below.refl _ _).alloc (Nat.le_refl _) _)
  clear hd hb
  go_wp2
  go_loopw [3, 4] (fun v i wr => ∃ k : Nat, k ≤ len ∧ i = .int .i64 k ∧ Hid (Own wr wA.heap.size v ([0] ++ zs.take k)) ∧ Hid (Below wA.heap.size wA wr)) (fun _ i _ => len - (intOf i).toNat)
  case atStart => exact ⟨0, Nat.zero_le _, rfl, by rw [List.take_zero, List.append_nil]; exact HO, HB0⟩
  case round =>
    clear HO HB0
    obtain ⟨k, hk, rfl, HO, HB⟩ := hrel
    by_cases hkl : k < len
    · have hsz := HB.out.size
      obtain ⟨b, off, rfl, hbl, hcell⟩ : ∃ b off, a = some ⟨b, off, none⟩ ∧ b < w.heap.size ∧ ∀ i, i < len → w.cell? ⟨b, off + i, none⟩ = some (.int .u8 ((zs.getD i 0 : Nat) : Int)) := by
        rcases HR.out.2.2 with h | h
        · omega
        · exact h
      obtain ⟨x, hx⟩ : ∃ x, x = zs.getD k 0 := ⟨_, rfl⟩
      have hcx : wr.cell? ⟨b, off + k, none⟩ = some (.int .u8 (x : Int)) := by rw [hx, ← hcell k hkl]; exact (HBW.out.trans (HB.out.mono (by omega))).cell (p := ⟨b, off + k, none⟩) hbl
      have HX := Lib.hid hx
      clear hx hcell
      go_wp2_with (at_builtin; (refine wpList_push rfl _ _ rfl wA.heap.size u3 ([0] ++ zs.take k) x _ rfl rfl HO.out hsz rfl ?hl ?_))
      case hl => rw [List.length_append, List.length_take]; simp; omega
      intro v1 w1 hown1 hb1
      have HO1 := Lib.hid (show Own w1 wA.heap.size v1 ([0] ++ zs.take (k + 1)) from by
        rw [← take_push [0] zs k (by rw [HR.out.1]; exact hkl), ← HX.out]
        simpa using hown1)
      have HB1 := Lib.hid (HB.out.trans hb1)
      clear HO HB hown1 hb1 hcx hsz HX
      go_wp2
      go_roundw
      case rel => exact ⟨k + 1, by omega, by go_num, HO1, HB1⟩
      case measure => simp [intOf]; omega
    · obtain rfl : k = len := by omega
      have HO2 := Lib.hid (show Own wr wA.heap.size u3 (0 :: zs) from by
        have := HO.out
        rwa [List.take_of_length_le (by rw [HR.out.1]; omega)] at this)
      have HEND := Lib.hid (rleaf_end w wr u3 zs wA.heap.size (HD.out.below HB.out hlt) (HBW.out.trans (HB.out.mono (by omega))) HO2.out HR.out.2.1 (by rw [HR.out.1]; omega))
      obtain ⟨S, hS⟩ : ∃ S, S = leafS zs := ⟨_, rfl⟩
      rw [← hS] at HEND HS
      have HSE := Lib.hid hS
      have HI := Lib.hid (show (Tryd.prog.info? 26).map (·.size) = some (cellsOf S).toArray.size by rw [cellsOf_size, HS.out.1]; exact info_a32b)
      have HSS := Lib.hid (show (cellsOf zs32).toArray.size = (cellsOf S).toArray.size by rw [cellsOf_size, cellsOf_size, HS.out.1]; rfl)
      clear HO hS
      go_wp2_with fail
      refine HEND.out.mono ?_
      rintro e w2 ⟨rfl, hd2, hb2⟩
      have HD2 := Lib.hid hd2
      have HB2 := Lib.hid hb2
      clear hd2 hb2
      go_wp2_with (first | (refine wpList_store_row (by rfl) 26 _ _ (by rfl) w.heap.size (cellsOf S).toArray (by rfl) (by rfl) 26 (cellsOf zs32).toArray HD2.out HI.out HSS.out (cellsOf_all _) ?_))
      refine bodyPost_ret (results_cell_row (by rfl) _ _ w.heap.size _ (cellsOf S).toArray (0, 0) _ (by rfl) HD2.out.setRow Tryd.underlying26 (by rfl) HI.out) ?_ ?_
      · rfl
      · exact ⟨by rw [HSE.out], HB2.out.setRow (by omega) _⟩
end Go.Proofs.YthnfbdmkdpokcaaDoor
