/-
  The walks over digest.Sum and Text.
-/
import Derived.Test.YthnfbdmkdpokcaaDoorSum
import Derived.Test.YthnfbdmkdpokcaaDoorHex
namespace Go.Proofs.YthnfbdmkdpokcaaDoor
open Go.RowKit
set_option linter.unusedVariables false

theorem gen_calls {P : Program} {f : FuncId} {args : Array Value} {W : World} {R : Ending → World → Prop} {F : World → Prop} (h : F W) (k : ∀ w, F w → Calls P f args w R) : Calls P f args W R := k W h
theorem sum_len (zs : List Nat) : (Sha.sum zs).length = 32 := by
  unfold Sha.sum Sha.close
  rw [bytesOf_len, (Sha.W8.run (Sha.W8.run Sha.W8.H0 _) _).1]
theorem sum_byte (zs : List Nat) : ∀ z ∈ Sha.sum zs, z < 256 := by unfold Sha.sum Sha.close; exact bytesOf_byte _
set_option maxRecDepth 100000 in
set_option maxHeartbeats 1000000 in
theorem dsum_c (a : Option Addr) (len cap : Nat) (zs : List Nat) (w : World) (hr : Rd w a len zs) (hlc : len ≤ cap) (hcm : cap ≤ 9223372036854775807) (hlm : len ≤ 2305843009213693951) (ht : Tab w) :
    Calls Tryd.prog 48 #[.slice a len cap] w (DigRet (Sha.sum zs) w) := by
  have HR := Lib.hid hr
  have HT := Lib.hid ht
  clear hr ht
  go_enter Tryd.func48, Tryd.ntmps48
  go_wp2_with fail
  refine gen_calls (F := fun W => Brow W w.heap.size 27 zs32 ∧ Below w.heap.size w W) ⟨heap_new _ _, (Below.refl _ _).alloc (Nat.le_refl _) _⟩ ?_
  rintro w0 ⟨hd0, hb0⟩
  refine (new_c w0).mono ?_
  rintro e1 w1 ⟨g, rfl, hg, hst, hb1⟩
  have hdl := hd0.lt
  have HD1 := Lib.hid (hd0.below hb1 hdl)
  have HB1 := Lib.hid (hb0.trans (hb1.mono hb0.size))
  have HST1 := Lib.hid (show StM w1 g Sha.H0 [] 0 from ⟨_, hst, rfl⟩)
  have HT1 := Lib.hid (HT.out.below HB1.out HT.out.pos)
  have hsz := hb0.size
  have hp := HT.out.pos
  clear hst hb1 hd0 hb0
  go_wp2_with fail
  refine (write_c w1 g Sha.H0 [] 0 HST1.out a len cap zs (HR.out.below HB1.out) hlc hcm (by omega) (HR.out.blk g (by omega)) HT1.out (by omega)).mono ?_
  rintro e2 w2 ⟨rfl, hst2, ho2⟩
  rw [List.nil_append, Nat.zero_add] at hst2
  have HD2 := Lib.hid (HD1.out.only ho2 (by omega))
  have HB2 := Lib.hid (HB1.out.trans (ho2.below (by omega) (by have := HB1.out.size; omega)))
  have HST2 := Lib.hid hst2
  have HT2 := Lib.hid (HT.out.below HB2.out HT.out.pos)
  clear hst2 ho2
  go_wp2_with fail
  refine (ssum_c w2 g _ _ _ HST2.out HT2.out).mono ?_
  rintro e3 w3 ⟨rfl, hb3⟩
  have hdl2 := HD2.out.lt
  have HD3 := Lib.hid (HD2.out.below hb3 hdl2)
  have HB3 := Lib.hid (HB2.out.trans (hb3.mono HB2.out.size))
  have hsum : Sha.close (Sha.run Sha.H0 zs) (Sha.rest zs) len = Sha.sum zs := by rw [← HR.out.1]; rfl
  rw [hsum]
  obtain ⟨D, hD⟩ : ∃ z, z = Sha.sum zs := ⟨_, rfl⟩
  rw [← hD]
  have hDl := Lib.hid (show D.length = 32 from by rw [hD, sum_len])
  have HI32 := Lib.hid (show (Tryd.prog.info? 27).map (·.size) = some (cellsOf D).toArray.size from by rw [cellsOf_size, hDl.out]; exact info_dig)
  have hsz32 := Lib.hid (show (cellsOf zs32).toArray.size = (cellsOf D).toArray.size from by rw [cellsOf_size, cellsOf_size, hDl.out, zs32_len])
  have HFIN := Lib.hid (show (w3.setRow w.heap.size (cellsOf D).toArray).heap[w.heap.size]? = some (.cells (cellsOf D).toArray 27 (0, 0)) from setRow_heap _ _ _ _ _ _ HD3.out)
  have HBFIN := Lib.hid (HB3.out.setRow (Nat.le_refl _) (cellsOf D).toArray)
  have HDq := Lib.hid hD
  clear hsum hD hb3 hdl2
  go_wp2_with (first | (refine wpList_store_row (by rfl) 27 _ _ (by rfl) w.heap.size (cellsOf D).toArray (by rfl) (by rfl) 27 (cellsOf zs32).toArray HD3.out HI32.out hsz32.out (cellsOf_all _) ?_))
  refine bodyPost_ret (results_cell_row (by rfl) _ _ w.heap.size _ (cellsOf D).toArray (0, 0) _ (by rfl) HFIN.out Tryd.underlying27 (by rfl) HI32.out) ?_ ?_
  · rfl
  · exact ⟨by rw [HDq.out], HBFIN.out⟩

theorem str_hex (d : List Nat) : (⟨#[115, 104, 97, 50, 53, 54, 58]⟩ : ByteArray) ++ str (hex d) = str ([115, 104, 97, 50, 53, 54, 58] ++ hex d) := by
  apply ByteArray.ext
  simp [str]
end Go.Proofs.YthnfbdmkdpokcaaDoor
