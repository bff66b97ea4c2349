/-
  The walk over 'awake' of layer 2: the answers that the document fixes.
-/
import Derived.Test.YthnfbdmkdpokcabDoorDsm
import Derived.Lib.SlBytesConst
namespace Go.Proofs.YthnfbdmkdpokcabDoor
open Go.RowKit
set_option linter.unusedVariables false

theorem sum_abc : (Sha.sum [97, 98, 99]).getD 0 0 = 186 ∧ (Sha.sum [97, 98, 99]).getD 31 0 = 173 := by decide +kernel
theorem text_nil : str ([115, 104, 97, 50, 53, 54, 58] ++ hex (Sha.sum [])) = ⟨#[115, 104, 97, 50, 53, 54, 58, 101, 51, 98, 48, 99, 52, 52, 50, 57, 56, 102, 99, 49, 99, 49, 52, 57, 97, 102, 98, 102, 52, 99, 56, 57, 57, 54, 102, 98, 57, 50, 52, 50, 55, 97, 101, 52, 49, 101, 52, 54, 52, 57, 98, 57, 51, 52, 99, 97, 52, 57, 53, 57, 57, 49, 98, 55, 56, 53, 50, 98, 56, 53, 53]⟩ := by decide +kernel
theorem text_nil_c (w : World) : Calls Tryd.prog 27 #[.agg (cellsOf (Sha.sum [])).toArray] w (fun e w' => e = .returned (.string ⟨#[115, 104, 97, 50, 53, 54, 58, 101, 51, 98, 48, 99, 52, 52, 50, 57, 56, 102, 99, 49, 99, 49, 52, 57, 97, 102, 98, 102, 52, 99, 56, 57, 57, 54, 102, 98, 57, 50, 52, 50, 55, 97, 101, 52, 49, 101, 52, 54, 52, 57, 98, 57, 51, 52, 99, 97, 52, 57, 53, 57, 57, 49, 98, 55, 56, 53, 50, 98, 56, 53, 53]⟩) ∧ Below w.heap.size w w') := by
  refine (text_c (Sha.sum []) w (sum_len _) (sum_byte _)).mono ?_
  rintro e w' ⟨h1, h2⟩
  rw [text_nil] at h1
  exact ⟨h1, h2⟩
theorem convA (w : World) (C : Array Value) (n c : Nat) : (convert 22 22 (.slice (some ⟨w.heap.size, 0, none⟩) n c)).run Tryd.prog (w.alloc (.cells C 5)) = .ok (.slice (some ⟨w.heap.size, 0, none⟩) n c) (w.alloc (.cells C 5 (C.size, C.size + 1))) :=
  Lib.run_convert_bytes_const (P := Tryd.prog) w 22 5 C n c Tryd.underlying22 Tryd.underlying5
set_option maxRecDepth 100000 in
set_option maxHeartbeats 1000000 in
theorem awake2_c (w : World) (ht : Tab w) : Calls Tryd.prog 8 #[] w fun e w' => e = .returned (.bool true) ∧ Below w.heap.size w w' := by
  have kc := convA w
  have HT := Lib.hid ht
  clear ht
  go_enter Tryd.func8, Tryd.ntmps8
  go_wp2_with fail
  refine gen_calls (F := fun W => Rd W (some ⟨w.heap.size, 0, none⟩) 3 [97, 98, 99] ∧ Below w.heap.size w W) ⟨rd_lit w [97, 98, 99] (3, 4) (by decide), (Below.refl _ _).alloc (Nat.le_refl _) _⟩ ?_
  rintro w0 ⟨hr0, hb0⟩
  have HT0 := Lib.hid (HT.out.below hb0 HT.out.pos)
  refine (dsum_c _ 3 3 [97, 98, 99] w0 hr0 (by omega) (by omega) (by omega) HT0.out).mono ?_
  rintro e1 w1 ⟨rfl, hb1⟩
  obtain ⟨D, hD⟩ : ∃ z, z = Sha.sum [97, 98, 99] := ⟨_, rfl⟩
  have h0 : D.getD 0 0 = 186 := by rw [hD]; exact sum_abc.1
  have h31 : D.getD 31 0 = 173 := by rw [hD]; exact sum_abc.2
  rw [← hD]
  have hDl := Lib.hid (show D.length = 32 from by rw [hD, sum_len])
  have HB1 := Lib.hid (hb0.trans (hb1.mono hb0.size))
  have H0 := Lib.hid h0
  have H31 := Lib.hid h31
  clear hb0 hb1 hr0 HT0 hD h0 h31 kc
  have K := Lib.hid (fun (X : Obj) (hX : X = .cells (cellsOf zs32).toArray 25 (0, 0)) => show
      (Brow ((w1.alloc X).setRow w1.heap.size (cellsOf D).toArray) w1.heap.size 25 D ∧ Below w.heap.size w ((w1.alloc X).setRow w1.heap.size (cellsOf D).toArray)) from by
    subst hX
    refine ⟨(Brow.new w1 25 zs32).setRow, ?_⟩
    exact ((HB1.out.trans ((Below.refl _ _).alloc HB1.out.size _)).setRow HB1.out.size _))
  have HI32 := Lib.hid (show (Tryd.prog.info? 25).map (·.size) = some (cellsOf D).toArray.size from by rw [cellsOf_size, hDl.out]; exact info_dig)
  have hsz32 := Lib.hid (show (cellsOf zs32).toArray.size = (cellsOf D).toArray.size from by rw [cellsOf_size, cellsOf_size, hDl.out, zs32_len])
  go_wp2_with (first | (refine wpList_store_row (by rfl) 25 _ _ (by rfl) w1.heap.size (cellsOf D).toArray (by rfl) (by rfl) 25 (cellsOf zs32).toArray (by exact heap_new _ _) HI32.out hsz32.out (cellsOf_all _) ?_; refine gen_world (F := fun W => Brow W w1.heap.size 25 D ∧ Below w.heap.size w W) (K.out _ rfl) ?_; rintro w2 ⟨hd2, hb2⟩; have c0 : w2.cell? ⟨w1.heap.size, 0, none⟩ = some (.int .u8 186) := (hd2.cell 0 (by rw [hDl.out]; omega)).trans (by rw [H0.out]; rfl); have c31 : w2.cell? ⟨w1.heap.size, 31, none⟩ = some (.int .u8 173) := (hd2.cell 31 (by rw [hDl.out]; omega)).trans (by rw [H31.out]; rfl); have HB2 := Lib.hid hb2; have HT2 := Lib.hid (HT.out.below hb2 HT.out.pos); clear hd2 hb2) | (go_at_call 9; refine (dsum_c none 0 0 [] _ ⟨rfl, by simp, .inl rfl⟩ (by omega) (by omega) (by omega) HT2.out).mono ?_; rintro e3 w3 ⟨rfl, hb3⟩) | (go_at_call 27; refine (text_nil_c _).mono ?_; rintro e4 w4 ⟨rfl, hb4⟩))
  go_ret
  exact ⟨rfl, (HB2.out.trans (hb3.mono HB2.out.size)).trans (hb4.mono (by have := HB2.out.size; have := hb3.size; omega))⟩
end Go.Proofs.YthnfbdmkdpokcabDoor
