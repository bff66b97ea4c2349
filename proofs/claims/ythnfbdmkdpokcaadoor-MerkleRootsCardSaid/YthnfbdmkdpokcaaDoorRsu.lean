/-
  The walk over the document's Sum.
-/
import Derived.Test.YthnfbdmkdpokcaaDoorRcl
namespace Go.Proofs.YthnfbdmkdpokcaaDoor
open Go.RowKit
set_option linter.unusedVariables false
set_option maxRecDepth 100000 in
set_option maxHeartbeats 1000000 in
theorem rsum_c (zs : List Nat) (a : Option Addr) (len cap : Nat) (w : World) (hr : Rd w a len zs) (hlen : len ≤ 140737488355327) :
    Calls Tryd.prog 47 #[.slice a len cap] w (DigRet (Sha.sum zs) w) := by
  have HR := Lib.hid hr
  have hzl := hr.1
  clear hr
  obtain ⟨S, hS⟩ : ∃ S, S = Sha.sum zs := ⟨_, rfl⟩
  have HS := Lib.hid hS
  have hSl : S.length = 32 := by rw [hS]; exact sum_len zs
  rw [← hS]
  have HI := Lib.hid (show (Tryd.prog.info? 26).map (·.size) = some (cellsOf S).toArray.size by rw [cellsOf_size, hSl]; exact info_a32b)
  have HSS := Lib.hid (show (cellsOf zs32).toArray.size = (cellsOf S).toArray.size by rw [cellsOf_size, cellsOf_size, hSl]; rfl)
  clear hS hSl
  go_enter Tryd.func47, Tryd.ntmps47
  go_wp2_with fail
  refine (rnew_c _).mono ?_
  rintro en w1 ⟨v, rfl, ho1, hb1⟩
  have HB0 := Lib.hid (show Brow w1 w.heap.size 26 zs32 from (hb1.block _ (by simp)).trans (heap_new _ _))
  have HB1 := Lib.hid (show Below w.heap.size w w1 from Below.trans ((Below.refl _ _).alloc (Nat.le_refl _) _) (hb1.mono (by simp)))
  obtain ⟨ta, tl, tc, rfl, htl, _, _, _, hrd, _⟩ := ho1.form (by simp)
  obtain rfl : tl = 0 := htl.symm
  clear ho1 hb1
  go_wp2_with fail
  refine (rwrite_c Sha.H0 [] zs 0 ta a 0 tc len cap w1 Sha.W8.H0 hrd (by omega) (HR.out.below HB1.out) (by omega) (by omega)).mono ?_
  rintro en w2 ⟨v2, rfl, ho2, hb2⟩
  rw [List.nil_append] at *
  obtain ⟨ta2, tl2, tc2, rfl, htl2, _, _, _, hrd2, _⟩ := ho2.form (fun z hz => HR.out.2.1 z (List.mem_of_mem_drop hz))
  have HB2 := Lib.hid (HB0.out.below hb2 HB0.out.lt)
  have HBB2 := Lib.hid (HB1.out.trans (hb2.mono HB1.out.size))
  have htl3 : tl2 < 64 := by rw [← htl2, Sha.rest_len]; omega
  clear ho2 hb2
  go_wp2_with fail
  refine (rclose_c (Sha.run Sha.H0 zs) (Sha.rest zs) len ta2 tl2 tc2 w2 (Sha.W8.H0.run zs) hrd2 htl3 (by omega)).mono ?_
  rintro en w3 ⟨rfl, hb3⟩
  have hsum : Sha.close (Sha.run Sha.H0 zs) (Sha.rest zs) len = S := by rw [HS.out, ← hzl]; rfl
  rw [hsum]
  have HB3 := Lib.hid (HB2.out.below hb3 HB2.out.lt)
  have HBB3 := Lib.hid (HBB2.out.trans (hb3.mono HBB2.out.size))
  clear hb3 hsum
  go_wp2_with (first | (refine wpList_store_row (by rfl) 26 _ _ (by rfl) w.heap.size (cellsOf S).toArray (by rfl) (by rfl) 26 (cellsOf zs32).toArray HB3.out HI.out HSS.out (cellsOf_all _) ?_))
  refine bodyPost_ret (results_cell_row (by rfl) _ _ w.heap.size _ (cellsOf S).toArray (0, 0) _ (by rfl) (setRow_heap _ _ _ _ _ _ HB3.out) Tryd.underlying26 (by rfl) HI.out) ?_ ?_
  · rfl
  · exact ⟨rfl, HBB3.out.setRow (Nat.le_refl _) _⟩
end Go.Proofs.YthnfbdmkdpokcaaDoor
