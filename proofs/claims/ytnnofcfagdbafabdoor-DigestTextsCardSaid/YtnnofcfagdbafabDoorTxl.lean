/-
  The walk over DigestTexts.
-/
import Derived.Test.YtnnofcfagdbafabDoorHxu
import Derived.Test.YtnnofcfagdbafabDoorOrd
namespace Go.Proofs.YtnnofcfagdbafabDoor
open Go.RowKit
set_option linter.unusedVariables false

def TS (w : World) (g5 g7 g9 : Nat) (d X : List Nat) (W : World) : Prop :=
  Brow W w.heap.size 24 d ∧ Brow W g5 25 X ∧ Brow W g7 24 X ∧ Brow W g9 25 d ∧ Below w.heap.size w W
theorem TS.step {w : World} {g5 g7 g9 : Nat} {d X : List Nat} {W W' : World} (h : TS w g5 g7 g9 d X W) (hb : Below W.heap.size W W') : TS w g5 g7 g9 d X W' :=
  ⟨h.1.below hb h.1.lt, h.2.1.below hb h.2.1.lt, h.2.2.1.below hb h.2.2.1.lt, h.2.2.2.1.below hb h.2.2.2.1.lt, h.2.2.2.2.trans (hb.mono h.2.2.2.2.size)⟩
theorem add_row (w1 : World) (t : TypeId) (a : List Nat) (o : Obj) (ho : o = .cells (cellsOf zs32).toArray t (0, 0)) :
    Brow ((w1.alloc o).setRow w1.heap.size (cellsOf a).toArray) w1.heap.size t a ∧ Below w1.heap.size w1 ((w1.alloc o).setRow w1.heap.size (cellsOf a).toArray) := by
  subst ho
  exact ⟨(Brow.new w1 t zs32).setRow, ((Below.refl _ _).alloc (Nat.le_refl _) _).setRow (Nat.le_refl _) _⟩
theorem eq_digT (t : Nat) (hu : Tryd.prog.underlying t = some (.array 32 5)) (W : World) (a : List Nat) (ha : D32 a) :
    (Op.equalIn 10000 t (.agg (cellsOf a).toArray) (.agg (cellsOf a).toArray)).run Tryd.prog W = .ok true W := by
  have := eq_dig t 32 hu W a a ha.1 ha.1 ha.2 ha.2
  simpa using this
theorem pfx_byte (d : List Nat) (hb : ∀ z ∈ d, z < 256) : ∀ z ∈ [115, 104, 97, 50, 53, 54, 58] ++ hex d, z < 256 := by
  intro z hz
  rcases List.mem_append.1 hz with h | h
  · simp only [List.mem_cons, List.not_mem_nil, or_false] at h; omega
  · exact hex_byte d hb z h
set_option maxRecDepth 100000 in
set_option maxHeartbeats 4000000 in
theorem texts_ok (s : ByteArray) (d X : List Nat) (w : World) (hs : s.size ≤ 140737488351232) (hd : D32 d) (ht : Tab w) (hz : pz s = some X) :
    Calls Tryd.prog 8 #[.string s, .agg (cellsOf d).toArray] w fun e w' => e = .returned (.bool true) ∧ Below w.heap.size w w' := by
  have HT := Lib.hid ht
  have hpos := ht.pos
  have HD := Lib.hid hd
  have HX32 := Lib.hid (show D32 X from ⟨(pz_len hz).1, (pz_len hz).2⟩)
  have HPA := Lib.hid (show ∀ W : World, Calls Tryd.prog 30 #[.string s] W (fun e w' => e = .returned (.tuple #[.agg (cellsOf X).toArray, .int .i64 0]) ∧ Below W.heap.size W w') from fun W => (parse_c s W hs).mono fun e w' h => by
    unfold ParRet at h
    rw [hz] at h
    
    exact h)
  have HPB := Lib.hid (show ∀ W : World, Calls Tryd.prog 31 #[.string s] W (fun e w' => e = .returned (.tuple #[.agg (cellsOf X).toArray, .bool true]) ∧ Below W.heap.size W w') from fun W => (refParse_c s W hs).mono fun e w' h => by
    unfold ParRetB at h
    rw [hz] at h
    
    exact h)
  obtain ⟨TD, hTD⟩ : ∃ t, t = str ([115, 104, 97, 50, 53, 54, 58] ++ hex d) := ⟨_, rfl⟩
  have HTX := Lib.hid (show ∀ W : World, Calls Tryd.prog 32 #[.agg (cellsOf d).toArray] W (fun e w' => e = .returned (.string TD) ∧ Below W.heap.size W w') from fun W => by rw [hTD]; exact text_c d W hd.1 hd.2)
  have HRT := Lib.hid (show ∀ W : World, Calls Tryd.prog 33 #[.agg (cellsOf d).toArray] W (fun e w' => e = .returned (.string TD) ∧ Below W.heap.size W w') from fun W => by rw [hTD]; exact reftext_c d W hd.1 hd.2)
  have HTY := Lib.hid (show ∀ W : World, Calls Tryd.prog 32 #[.agg (cellsOf X).toArray] W (fun e w' => e = .returned (.string s) ∧ Below W.heap.size W w') from fun W => by rw [← pz_back hz]; exact text_c X W (pz_len hz).1 (pz_len hz).2)
  have HPC := Lib.hid (show ∀ W : World, Calls Tryd.prog 30 #[.string TD] W (fun e w' => e = .returned (.tuple #[.agg (cellsOf d).toArray, .int .i64 0]) ∧ Below W.heap.size W w') from fun W => (parse_c TD W (by
      rw [hTD, ← chars_len, chars_str _ (pfx_byte d hd.2), List.length_append, hex_len, hd.1]; decide)).mono fun e w' h => by
    unfold ParRet at h
    rw [hTD, pz_text d hd.1 hd.2] at h
    exact h)
  have HEQX := Lib.hid (fun W => eq_digT 25 Tryd.underlying25 W X HX32.out)
  have HEQD := Lib.hid (fun W => eq_digT 25 Tryd.underlying25 W d HD.out)
  have HGT := Lib.hid (show Tryd.prog.eqGuardType Tryd.prog.depth 25 = false by kernel_rfl)
  have HID := Lib.hid (show (Tryd.prog.info? 24).map (·.size) = some (cellsOf d).length from by rw [cellsOf_length, HD.out.1]; exact info_a32)
  have HID25 := Lib.hid (show (Tryd.prog.info? 25).map (·.size) = some (cellsOf d).length from by rw [cellsOf_length, HD.out.1]; exact info_dig)
  have HIX := Lib.hid (show (Tryd.prog.info? 24).map (·.size) = some (cellsOf X).length from by rw [cellsOf_length, HX32.out.1]; exact info_a32)
  have HIX25 := Lib.hid (show (Tryd.prog.info? 25).map (·.size) = some (cellsOf X).length from by rw [cellsOf_length, HX32.out.1]; exact info_dig)
  have hzX := Lib.hid (show (cellsOf zs32).toArray.size = (cellsOf X).toArray.size from by rw [cellsOf_size, cellsOf_size, HX32.out.1, zs32_len])
  have hzD := Lib.hid (show (cellsOf zs32).toArray.size = (cellsOf d).toArray.size from by rw [cellsOf_size, cellsOf_size, HD.out.1, zs32_len])
  clear ht hd hs hz hTD
  go_enter Tryd.func8, Tryd.ntmps8
  go_wp2_with fail
  refine gen_calls (F := fun W => Brow W w.heap.size 24 d ∧ Below w.heap.size w W) ⟨heap_new _ _, (Below.refl _ _).alloc (Nat.le_refl _) _⟩ ?_
  rintro w0 ⟨h3, hb0⟩
  refine (HPA.out w0).mono ?_
  rintro e1 w1 ⟨rfl, hb1⟩
  have h3 := h3.below hb1 h3.lt
  have hw := hb0.trans (hb1.mono hb0.size)
  clear hb0 hb1
  have H3 := Lib.hid h3
  have HW := Lib.hid hw
  clear h3 hw
  go_wp2_with (first | (refine wpList_store_row (by rfl) 25 _ _ (by rfl) w1.heap.size (cellsOf X).toArray (by rfl) (by rfl) 25 (cellsOf zs32).toArray (by exact heap_new _ _) (by simpa using HIX25.out) hzX.out (cellsOf_all _) ?_; refine gen_world (F := fun W => Brow W w1.heap.size 25 X ∧ Below w1.heap.size w1 W) (add_row w1 25 X _ rfl) ?_; rintro wa ⟨hx5, hba⟩; have H3 := Lib.hid (H3.out.below hba H3.out.lt); have H5 := Lib.hid hx5; have hz1 := HW.out.size; have HW := Lib.hid (HW.out.trans (hba.mono hz1)); clear hx5 hba))
  refine (HPB.out wa).mono ?_
  rintro e2 w2 ⟨rfl, hb2⟩
  have H3 := Lib.hid (H3.out.below hb2 H3.out.lt)
  have H5 := Lib.hid (H5.out.below hb2 H5.out.lt)
  have HW := Lib.hid (HW.out.trans (hb2.mono HW.out.size))
  clear hb2
  obtain ⟨g5, hg5⟩ : ∃ z, z = w1.heap.size := ⟨_, rfl⟩
  rw [← hg5] at H5 ⊢
  clear hg5 hz1
  have HL3a := Lib.hid (run_loadAt_mid · w.heap.size 0 24 (cellsOf d) _ · Tryd.underlying24 rfl HID.out)
  go_wp2_with (first | (refine wpList_store_row (by rfl) 24 _ _ (by rfl) w2.heap.size (cellsOf X).toArray (by rfl) (by rfl) 24 (cellsOf zs32).toArray (by exact heap_new _ _) (by simpa using HIX.out) hzX.out (cellsOf_all _) ?_; refine gen_world (F := fun W => Brow W w2.heap.size 24 X ∧ Below w2.heap.size w2 W) (add_row w2 24 X _ rfl) ?_; rintro wb ⟨hx7, hbb⟩; have H3 := Lib.hid (H3.out.below hbb H3.out.lt); have H5 := Lib.hid (H5.out.below hbb H5.out.lt); have H7 := Lib.hid hx7; have hz1 := HW.out.size; have HW := Lib.hid (HW.out.trans (hbb.mono hz1)); clear hx7 hbb) | (refine wpList_loadg 24 _ (by rfl) (by rfl) (.pointer (some ⟨w.heap.size, 0, none⟩)) (by rfl) (.agg (cellsOf d).toArray) (HL3a.out _ H3.out.range) ?_))
  refine (HTX.out wb).mono ?_
  rintro e3 w3 ⟨rfl, hb3⟩
  have H3 := Lib.hid (H3.out.below hb3 H3.out.lt)
  have H5 := Lib.hid (H5.out.below hb3 H5.out.lt)
  have H7 := Lib.hid (H7.out.below hb3 H7.out.lt)
  have HW := Lib.hid (HW.out.trans (hb3.mono HW.out.size))
  clear hb3
  obtain ⟨g7, hg7⟩ : ∃ z, z = w2.heap.size := ⟨_, rfl⟩
  rw [← hg7] at H7 ⊢
  clear hg7 hz1
  go_wp2_with fail
  refine (HPC.out w3).mono ?_
  rintro e4 w4 ⟨rfl, hb4⟩
  have H3 := Lib.hid (H3.out.below hb4 H3.out.lt)
  have H5 := Lib.hid (H5.out.below hb4 H5.out.lt)
  have H7 := Lib.hid (H7.out.below hb4 H7.out.lt)
  have HW := Lib.hid (HW.out.trans (hb4.mono HW.out.size))
  clear hb4
  go_wp2_with (first | (refine wpList_store_row (by rfl) 25 _ _ (by rfl) w4.heap.size (cellsOf d).toArray (by rfl) (by rfl) 25 (cellsOf zs32).toArray (by exact heap_new _ _) (by simpa using HID25.out) hzD.out (cellsOf_all _) ?_; refine gen_world (F := fun W => Brow W w4.heap.size 25 d ∧ Below w4.heap.size w4 W) (add_row w4 25 d _ rfl) ?_; rintro wc ⟨hx9, hbc⟩; have H3 := Lib.hid (H3.out.below hbc H3.out.lt); have H5 := Lib.hid (H5.out.below hbc H5.out.lt); have H7 := Lib.hid (H7.out.below hbc H7.out.lt); have H9 := Lib.hid hx9; have hz1 := HW.out.size; have HW := Lib.hid (HW.out.trans (hbc.mono hz1)); clear hx9 hbc))
  obtain ⟨g9, hg9⟩ : ∃ z, z = w4.heap.size := ⟨_, rfl⟩
  rw [← hg9] at H9 ⊢
  clear hg9 hz1
  have HS := Lib.hid (show TS w g5 g7 g9 d X wc.drew from ⟨H3.out, H5.out, H7.out, H9.out, HW.out.drew⟩)
  have HL3 := Lib.hid (fun W (hW : TS w g5 g7 g9 d X W) => run_loadAt_mid W w.heap.size 0 24 (cellsOf d) _ hW.1.range Tryd.underlying24 rfl HID.out)
  have HL5 := Lib.hid (fun W (hW : TS w g5 g7 g9 d X W) => run_loadAt_mid W g5 0 25 (cellsOf X) _ hW.2.1.range Tryd.underlying25 rfl HIX25.out)
  have HL7 := Lib.hid (fun W (hW : TS w g5 g7 g9 d X W) => run_loadAt_mid W g7 0 24 (cellsOf X) _ hW.2.2.1.range Tryd.underlying24 rfl HIX.out)
  have HL9 := Lib.hid (fun W (hW : TS w g5 g7 g9 d X W) => run_loadAt_mid W g9 0 25 (cellsOf d) _ hW.2.2.2.1.range Tryd.underlying25 rfl HID25.out)
  clear H3 H5 H7 H9 HW HL3a HPA HPB HPC
  (try dsimp only [Act.put, List.setIfInBounds_toArray, List.set_cons_zero, List.set_cons_succ])
  refine anyH_begin (S := TS w g5 g7 g9 d X) (by kernel_rfl) ?_
  refine anyH_call 0 (d := some 27) (f := 11) (xs := #[]) (ts := #[]) (vs := #[]) (by kernel_rfl) (by rfl) (by go_simp) (by go_simp) (awake2_c _ (HT.out.below HS.out.2.2.2.2 hpos)) ?_
  rintro e9 w9 ⟨rfl, hb9⟩
  refine ⟨_, rfl, HS.out.step hb9, fun hS9 => ?_⟩
  have HS := Lib.hid hS9
  clear hS9 hb9
  simp only [Act.put, List.setIfInBounds_toArray, List.set_cons_zero, List.set_cons_succ]
  refine anyH_pure 1 (d := 28) (op := .move (.tmp 27)) (.bool true) (by rfl) (by kernel_rfl) (by kernel_rfl) (by kernel_rfl) (fun _ _ _ h => h) (fun o ho W hW => by unfold execOp; simp only [ho]; go_simp) HS.out ?_
  simp only [Act.put, List.setIfInBounds_toArray, List.set_cons_zero, List.set_cons_succ]
  refine anyH_loadG 2 (d := 29) (ty := 25) (x := .tmp 5) (gd := some (1, true)) (p := .pointer (some ⟨g5, 0, none⟩)) (.agg (cellsOf X).toArray) (by rfl) (fun o ho => by simp only [Region.wanted, ho]; rfl) (by kernel_rfl) (by kernel_rfl) (by kernel_rfl) (fun _ _ _ h => h) (by rfl) HL5.out HS.out ?_
  simp only [Act.put, List.setIfInBounds_toArray, List.set_cons_zero, List.set_cons_succ]
  refine anyH_loadG 3 (d := 30) (ty := 24) (x := .tmp 7) (gd := some (1, true)) (p := .pointer (some ⟨g7, 0, none⟩)) (.agg (cellsOf X).toArray) (by rfl) (fun o ho => by simp only [Region.wanted, ho]; rfl) (by kernel_rfl) (by kernel_rfl) (by kernel_rfl) (fun _ _ _ h => h) (by rfl) HL7.out HS.out ?_
  simp only [Act.put, List.setIfInBounds_toArray, List.set_cons_zero, List.set_cons_succ]
  refine anyH_eqG 4 (d := 31) (t := 25) (t' := 25) (x := .tmp 29) (y := .tmp 30) (gd := some (1, true)) ((cellsOf X).toArray) ((cellsOf X).toArray) true (by rfl) (fun o ho => by simp only [Region.wanted, ho]; rfl) (by kernel_rfl) (by kernel_rfl) (by kernel_rfl) (fun _ _ _ h => h) (by rfl) (by rfl) HGT.out HEQX.out HS.out ?_
  simp only [Act.put, List.setIfInBounds_toArray, List.set_cons_zero, List.set_cons_succ]
  refine anyH_pure 5 (d := 32) (op := .pick (.tmp 28) (.tmp 31) (.const (.bool false))) (.bool true) (by rfl) (by kernel_rfl) (by kernel_rfl) (by kernel_rfl) (fun _ _ _ h => h) (fun o ho W hW => by unfold execOp; simp only [ho]; go_simp) HS.out ?_
  simp only [Act.put, List.setIfInBounds_toArray, List.set_cons_zero, List.set_cons_succ]
  refine anyH_pure 6 (d := 33) (op := .move (.tmp 32)) (.bool true) (by rfl) (by kernel_rfl) (by kernel_rfl) (by kernel_rfl) (fun _ _ _ h => h) (fun o ho W hW => by unfold execOp; simp only [ho]; go_simp) HS.out ?_
  simp only [Act.put, List.setIfInBounds_toArray, List.set_cons_zero, List.set_cons_succ]
  refine anyH_pureG 7 (d := 34) (op := .move (.tmp 6)) (gd := some (6, true)) (.int .i64 0) (by rfl) (fun o ho => by simp only [Region.wanted, ho]; rfl) (by kernel_rfl) (by kernel_rfl) (by kernel_rfl) (fun _ _ _ h => h) (fun o ho W hW => by unfold execOp; simp only [ho]; go_simp) HS.out ?_
  simp only [Act.put, List.setIfInBounds_toArray, List.set_cons_zero, List.set_cons_succ]
  refine anyH_pureG 8 (d := 35) (op := .binOp .eql 44 (.tmp 34) (.const (.int .i64 0)) 44) (gd := some (6, true)) (.bool true) (by rfl) (fun o ho => by simp only [Region.wanted, ho]; rfl) (by kernel_rfl) (by kernel_rfl) (by kernel_rfl) (fun _ _ _ h => h) (fun o ho W hW => by unfold execOp; simp only [ho]; go_simp) HS.out ?_
  simp only [Act.put, List.setIfInBounds_toArray, List.set_cons_zero, List.set_cons_succ]
  refine anyH_pureG 9 (d := 36) (op := .move (.tmp 8)) (gd := some (6, true)) (.bool true) (by rfl) (fun o ho => by simp only [Region.wanted, ho]; rfl) (by kernel_rfl) (by kernel_rfl) (by kernel_rfl) (fun _ _ _ h => h) (fun o ho W hW => by unfold execOp; simp only [ho]; go_simp) HS.out ?_
  simp only [Act.put, List.setIfInBounds_toArray, List.set_cons_zero, List.set_cons_succ]
  refine anyH_pureG 10 (d := 37) (op := .binOp .eql 4 (.tmp 35) (.tmp 36) 4) (gd := some (6, true)) (.bool true) (by rfl) (fun o ho => by simp only [Region.wanted, ho]; rfl) (by kernel_rfl) (by kernel_rfl) (by kernel_rfl) (fun _ _ _ h => h) (fun o ho W hW => by unfold execOp; simp only [ho]; go_simp) HS.out ?_
  simp only [Act.put, List.setIfInBounds_toArray, List.set_cons_zero, List.set_cons_succ]
  refine anyH_pure 11 (d := 38) (op := .pick (.tmp 33) (.tmp 37) (.const (.bool false))) (.bool true) (by rfl) (by kernel_rfl) (by kernel_rfl) (by kernel_rfl) (fun _ _ _ h => h) (fun o ho W hW => by unfold execOp; simp only [ho]; go_simp) HS.out ?_
  simp only [Act.put, List.setIfInBounds_toArray, List.set_cons_zero, List.set_cons_succ]
  refine anyH_pure 12 (d := 39) (op := .move (.tmp 38)) (.bool true) (by rfl) (by kernel_rfl) (by kernel_rfl) (by kernel_rfl) (fun _ _ _ h => h) (fun o ho W hW => by unfold execOp; simp only [ho]; go_simp) HS.out ?_
  simp only [Act.put, List.setIfInBounds_toArray, List.set_cons_zero, List.set_cons_succ]
  refine anyH_pureG 13 (d := 40) (op := .move (.tmp 6)) (gd := some (12, true)) (.int .i64 0) (by rfl) (fun o ho => by simp only [Region.wanted, ho]; rfl) (by kernel_rfl) (by kernel_rfl) (by kernel_rfl) (fun _ _ _ h => h) (fun o ho W hW => by unfold execOp; simp only [ho]; go_simp) HS.out ?_
  simp only [Act.put, List.setIfInBounds_toArray, List.set_cons_zero, List.set_cons_succ]
  refine anyH_pureG 14 (d := 41) (op := .binOp .eql 44 (.tmp 40) (.const (.int .i64 0)) 44) (gd := some (12, true)) (.bool true) (by rfl) (fun o ho => by simp only [Region.wanted, ho]; rfl) (by kernel_rfl) (by kernel_rfl) (by kernel_rfl) (fun _ _ _ h => h) (fun o ho W hW => by unfold execOp; simp only [ho]; go_simp) HS.out ?_
  simp only [Act.put, List.setIfInBounds_toArray, List.set_cons_zero, List.set_cons_succ]
  refine anyH_pureG 15 (d := 42) (op := .move (.tmp 41)) (gd := some (12, true)) (.bool true) (by rfl) (fun o ho => by simp only [Region.wanted, ho]; rfl) (by kernel_rfl) (by kernel_rfl) (by kernel_rfl) (fun _ _ _ h => h) (fun o ho W hW => by unfold execOp; simp only [ho]; go_simp) HS.out ?_
  simp only [Act.put, List.setIfInBounds_toArray, List.set_cons_zero, List.set_cons_succ]
  refine anyH_skip 16 (d := 43) (op := .move (.tmp 6)) (gd := some (15, false)) (by rfl) (fun o ho => by simp only [Region.wanted, ho]; rfl) (by kernel_rfl) (by kernel_rfl) (by kernel_rfl) (fun _ _ _ h => h) HS.out ?_
  simp only [Act.put, List.setIfInBounds_toArray, List.set_cons_zero, List.set_cons_succ]
  refine anyH_skip 17 (d := 44) (op := .binOp .eql 44 (.tmp 43) (.const (.int .i64 10)) 44) (gd := some (15, false)) (by rfl) (fun o ho => by simp only [Region.wanted, ho]; rfl) (by kernel_rfl) (by kernel_rfl) (by kernel_rfl) (fun _ _ _ h => h) HS.out ?_
  simp only [Act.put, List.setIfInBounds_toArray, List.set_cons_zero, List.set_cons_succ]
  refine anyH_pureG 18 (d := 45) (op := .pick (.tmp 42) (.const (.bool true)) (.tmp 44)) (gd := some (12, true)) (.bool true) (by rfl) (fun o ho => by simp only [Region.wanted, ho]; rfl) (by kernel_rfl) (by kernel_rfl) (by kernel_rfl) (fun _ _ _ h => h) (fun o ho W hW => by unfold execOp; simp only [ho]; go_simp) HS.out ?_
  simp only [Act.put, List.setIfInBounds_toArray, List.set_cons_zero, List.set_cons_succ]
  refine anyH_pure 19 (d := 46) (op := .pick (.tmp 39) (.tmp 45) (.const (.bool false))) (.bool true) (by rfl) (by kernel_rfl) (by kernel_rfl) (by kernel_rfl) (fun _ _ _ h => h) (fun o ho W hW => by unfold execOp; simp only [ho]; go_simp) HS.out ?_
  simp only [Act.put, List.setIfInBounds_toArray, List.set_cons_zero, List.set_cons_succ]
  refine anyH_pure 20 (d := 47) (op := .move (.tmp 46)) (.bool true) (by rfl) (by kernel_rfl) (by kernel_rfl) (by kernel_rfl) (fun _ _ _ h => h) (fun o ho W hW => by unfold execOp; simp only [ho]; go_simp) HS.out ?_
  simp only [Act.put, List.setIfInBounds_toArray, List.set_cons_zero, List.set_cons_succ]
  refine anyH_pureG 21 (d := 48) (op := .move (.tmp 10)) (gd := some (20, true)) (.int .i64 0) (by rfl) (fun o ho => by simp only [Region.wanted, ho]; rfl) (by kernel_rfl) (by kernel_rfl) (by kernel_rfl) (fun _ _ _ h => h) (fun o ho W hW => by unfold execOp; simp only [ho]; go_simp) HS.out ?_
  simp only [Act.put, List.setIfInBounds_toArray, List.set_cons_zero, List.set_cons_succ]
  refine anyH_pureG 22 (d := 49) (op := .binOp .eql 44 (.tmp 48) (.const (.int .i64 0)) 44) (gd := some (20, true)) (.bool true) (by rfl) (fun o ho => by simp only [Region.wanted, ho]; rfl) (by kernel_rfl) (by kernel_rfl) (by kernel_rfl) (fun _ _ _ h => h) (fun o ho W hW => by unfold execOp; simp only [ho]; go_simp) HS.out ?_
  simp only [Act.put, List.setIfInBounds_toArray, List.set_cons_zero, List.set_cons_succ]
  refine anyH_pure 23 (d := 50) (op := .pick (.tmp 47) (.tmp 49) (.const (.bool false))) (.bool true) (by rfl) (by kernel_rfl) (by kernel_rfl) (by kernel_rfl) (fun _ _ _ h => h) (fun o ho W hW => by unfold execOp; simp only [ho]; go_simp) HS.out ?_
  simp only [Act.put, List.setIfInBounds_toArray, List.set_cons_zero, List.set_cons_succ]
  refine anyH_pure 24 (d := 51) (op := .move (.tmp 50)) (.bool true) (by rfl) (by kernel_rfl) (by kernel_rfl) (by kernel_rfl) (fun _ _ _ h => h) (fun o ho W hW => by unfold execOp; simp only [ho]; go_simp) HS.out ?_
  simp only [Act.put, List.setIfInBounds_toArray, List.set_cons_zero, List.set_cons_succ]
  refine anyH_loadG 25 (d := 52) (ty := 25) (x := .tmp 9) (gd := some (24, true)) (p := .pointer (some ⟨g9, 0, none⟩)) (.agg (cellsOf d).toArray) (by rfl) (fun o ho => by simp only [Region.wanted, ho]; rfl) (by kernel_rfl) (by kernel_rfl) (by kernel_rfl) (fun _ _ _ h => h) (by rfl) HL9.out HS.out ?_
  simp only [Act.put, List.setIfInBounds_toArray, List.set_cons_zero, List.set_cons_succ]
  refine anyH_loadG 26 (d := 53) (ty := 24) (x := .tmp 3) (gd := some (24, true)) (p := .pointer (some ⟨w.heap.size, 0, none⟩)) (.agg (cellsOf d).toArray) (by rfl) (fun o ho => by simp only [Region.wanted, ho]; rfl) (by kernel_rfl) (by kernel_rfl) (by kernel_rfl) (fun _ _ _ h => h) (by rfl) HL3.out HS.out ?_
  simp only [Act.put, List.setIfInBounds_toArray, List.set_cons_zero, List.set_cons_succ]
  refine anyH_eqG 27 (d := 54) (t := 25) (t' := 25) (x := .tmp 52) (y := .tmp 53) (gd := some (24, true)) ((cellsOf d).toArray) ((cellsOf d).toArray) true (by rfl) (fun o ho => by simp only [Region.wanted, ho]; rfl) (by kernel_rfl) (by kernel_rfl) (by kernel_rfl) (fun _ _ _ h => h) (by rfl) (by rfl) HGT.out HEQD.out HS.out ?_
  simp only [Act.put, List.setIfInBounds_toArray, List.set_cons_zero, List.set_cons_succ]
  refine anyH_pure 28 (d := 55) (op := .pick (.tmp 51) (.tmp 54) (.const (.bool false))) (.bool true) (by rfl) (by kernel_rfl) (by kernel_rfl) (by kernel_rfl) (fun _ _ _ h => h) (fun o ho W hW => by unfold execOp; simp only [ho]; go_simp) HS.out ?_
  simp only [Act.put, List.setIfInBounds_toArray, List.set_cons_zero, List.set_cons_succ]
  refine anyH_pure 29 (d := 56) (op := .move (.tmp 55)) (.bool true) (by rfl) (by kernel_rfl) (by kernel_rfl) (by kernel_rfl) (fun _ _ _ h => h) (fun o ho W hW => by unfold execOp; simp only [ho]; go_simp) HS.out ?_
  simp only [Act.put, List.setIfInBounds_toArray, List.set_cons_zero, List.set_cons_succ]
  refine anyH_loadG 30 (d := 57) (ty := 24) (x := .tmp 3) (gd := some (29, true)) (p := .pointer (some ⟨w.heap.size, 0, none⟩)) (.agg (cellsOf d).toArray) (by rfl) (fun o ho => by simp only [Region.wanted, ho]; rfl) (by kernel_rfl) (by kernel_rfl) (by kernel_rfl) (fun _ _ _ h => h) (by rfl) HL3.out HS.out ?_
  simp only [Act.put, List.setIfInBounds_toArray, List.set_cons_zero, List.set_cons_succ]
  refine anyH_loadG 32 (d := 59) (ty := 24) (x := .tmp 3) (gd := some (29, true)) (p := .pointer (some ⟨w.heap.size, 0, none⟩)) (.agg (cellsOf d).toArray) (by rfl) (fun o ho => by simp only [Region.wanted, ho]; rfl) (by kernel_rfl) (by kernel_rfl) (by kernel_rfl) (fun _ _ _ h => h) (by rfl) HL3.out HS.out ?_
  simp only [Act.put, List.setIfInBounds_toArray, List.set_cons_zero, List.set_cons_succ]
  refine anyH_callG 31 (d := some 58) (f := 32) (xs := #[.tmp 57]) (ts := #[25]) (gd := some (29, true)) (vs := #[.agg (cellsOf d).toArray]) (by kernel_rfl) (by rfl) (fun o ho => by simp only [Region.wanted, ho]; rfl) (by go_simp) (by go_simp) (HTX.out _) ?_
  rintro e9 w9 ⟨rfl, hb9⟩
  refine ⟨_, rfl, HS.out.step hb9, fun hS9 => ?_⟩
  have HS := Lib.hid hS9
  clear hS9 hb9
  simp only [Act.put, List.setIfInBounds_toArray, List.set_cons_zero, List.set_cons_succ]
  refine anyH_callG 33 (d := some 60) (f := 33) (xs := #[.tmp 59]) (ts := #[24]) (gd := some (29, true)) (vs := #[.agg (cellsOf d).toArray]) (by kernel_rfl) (by rfl) (fun o ho => by simp only [Region.wanted, ho]; rfl) (by go_simp) (by go_simp) (HRT.out _) ?_
  rintro e9 w9 ⟨rfl, hb9⟩
  refine ⟨_, rfl, HS.out.step hb9, fun hS9 => ?_⟩
  have HS := Lib.hid hS9
  clear hS9 hb9
  simp only [Act.put, List.setIfInBounds_toArray, List.set_cons_zero, List.set_cons_succ]
  refine anyH_pureG 34 (d := 61) (op := .binOp .eql 9 (.tmp 58) (.tmp 60) 9) (gd := some (29, true)) (.bool true) (by rfl) (fun o ho => by simp only [Region.wanted, ho]; rfl) (by kernel_rfl) (by kernel_rfl) (by kernel_rfl) (fun _ _ _ h => h) (fun o ho W hW => by unfold execOp; simp only [ho]; go_simp) HS.out ?_
  simp only [Act.put, List.setIfInBounds_toArray, List.set_cons_zero, List.set_cons_succ]
  refine anyH_pure 35 (d := 62) (op := .pick (.tmp 56) (.tmp 61) (.const (.bool false))) (.bool true) (by rfl) (by kernel_rfl) (by kernel_rfl) (by kernel_rfl) (fun _ _ _ h => h) (fun o ho W hW => by unfold execOp; simp only [ho]; go_simp) HS.out ?_
  simp only [Act.put, List.setIfInBounds_toArray, List.set_cons_zero, List.set_cons_succ]
  refine anyH_pure 36 (d := 63) (op := .move (.tmp 62)) (.bool true) (by rfl) (by kernel_rfl) (by kernel_rfl) (by kernel_rfl) (fun _ _ _ h => h) (fun o ho W hW => by unfold execOp; simp only [ho]; go_simp) HS.out ?_
  simp only [Act.put, List.setIfInBounds_toArray, List.set_cons_zero, List.set_cons_succ]
  refine anyH_pureG 37 (d := 64) (op := .move (.tmp 8)) (gd := some (36, true)) (.bool true) (by rfl) (fun o ho => by simp only [Region.wanted, ho]; rfl) (by kernel_rfl) (by kernel_rfl) (by kernel_rfl) (fun _ _ _ h => h) (fun o ho W hW => by unfold execOp; simp only [ho]; go_simp) HS.out ?_
  simp only [Act.put, List.setIfInBounds_toArray, List.set_cons_zero, List.set_cons_succ]
  refine anyH_pureG 38 (d := 65) (op := .unOp .not 4 (.tmp 64)) (gd := some (36, true)) (.bool false) (by rfl) (fun o ho => by simp only [Region.wanted, ho]; rfl) (by kernel_rfl) (by kernel_rfl) (by kernel_rfl) (fun _ _ _ h => h) (fun o ho W hW => by unfold execOp; simp only [ho]; go_simp) HS.out ?_
  simp only [Act.put, List.setIfInBounds_toArray, List.set_cons_zero, List.set_cons_succ]
  refine anyH_pureG 39 (d := 66) (op := .move (.tmp 65)) (gd := some (36, true)) (.bool false) (by rfl) (fun o ho => by simp only [Region.wanted, ho]; rfl) (by kernel_rfl) (by kernel_rfl) (by kernel_rfl) (fun _ _ _ h => h) (fun o ho W hW => by unfold execOp; simp only [ho]; go_simp) HS.out ?_
  simp only [Act.put, List.setIfInBounds_toArray, List.set_cons_zero, List.set_cons_succ]
  refine anyH_loadG 40 (d := 67) (ty := 25) (x := .tmp 5) (gd := some (39, false)) (p := .pointer (some ⟨g5, 0, none⟩)) (.agg (cellsOf X).toArray) (by rfl) (fun o ho => by simp only [Region.wanted, ho]; rfl) (by kernel_rfl) (by kernel_rfl) (by kernel_rfl) (fun _ _ _ h => h) (by rfl) HL5.out HS.out ?_
  simp only [Act.put, List.setIfInBounds_toArray, List.set_cons_zero, List.set_cons_succ]
  refine anyH_pureG 42 (d := 69) (op := .move (.tmp 0)) (gd := some (39, false)) (.string s) (by rfl) (fun o ho => by simp only [Region.wanted, ho]; rfl) (by kernel_rfl) (by kernel_rfl) (by kernel_rfl) (fun _ _ _ h => h) (fun o ho W hW => by unfold execOp; simp only [ho]; go_simp) HS.out ?_
  simp only [Act.put, List.setIfInBounds_toArray, List.set_cons_zero, List.set_cons_succ]
  refine anyH_callG 41 (d := some 68) (f := 32) (xs := #[.tmp 67]) (ts := #[25]) (gd := some (39, false)) (vs := #[.agg (cellsOf X).toArray]) (by kernel_rfl) (by rfl) (fun o ho => by simp only [Region.wanted, ho]; rfl) (by go_simp) (by go_simp) (HTY.out _) ?_
  rintro e9 w9 ⟨rfl, hb9⟩
  refine ⟨_, rfl, HS.out.step hb9, fun hS9 => ?_⟩
  have HS := Lib.hid hS9
  clear hS9 hb9
  simp only [Act.put, List.setIfInBounds_toArray, List.set_cons_zero, List.set_cons_succ]
  refine anyH_pureG 43 (d := 70) (op := .binOp .eql 9 (.tmp 68) (.tmp 69) 9) (gd := some (39, false)) (.bool true) (by rfl) (fun o ho => by simp only [Region.wanted, ho]; rfl) (by kernel_rfl) (by kernel_rfl) (by kernel_rfl) (fun _ _ _ h => h) (fun o ho W hW => by unfold execOp; simp only [ho]; go_simp) HS.out ?_
  simp only [Act.put, List.setIfInBounds_toArray, List.set_cons_zero, List.set_cons_succ]
  refine anyH_pureG 44 (d := 71) (op := .pick (.tmp 66) (.const (.bool true)) (.tmp 70)) (gd := some (36, true)) (.bool true) (by rfl) (fun o ho => by simp only [Region.wanted, ho]; rfl) (by kernel_rfl) (by kernel_rfl) (by kernel_rfl) (fun _ _ _ h => h) (fun o ho W hW => by unfold execOp; simp only [ho]; go_simp) HS.out ?_
  simp only [Act.put, List.setIfInBounds_toArray, List.set_cons_zero, List.set_cons_succ]
  refine anyH_pure 45 (d := 72) (op := .pick (.tmp 63) (.tmp 71) (.const (.bool false))) (.bool true) (by rfl) (by kernel_rfl) (by kernel_rfl) (by kernel_rfl) (fun _ _ _ h => h) (fun o ho W hW => by unfold execOp; simp only [ho]; go_simp) HS.out ?_
  simp only [Act.put, List.setIfInBounds_toArray, List.set_cons_zero, List.set_cons_succ]
  refine anyH_pure 46 (d := 4) (op := .assign (.tmp 72)) (.bool true) (by rfl) (by kernel_rfl) (by kernel_rfl) (by kernel_rfl) (fun _ _ _ h => h) (fun o ho W hW => by unfold execOp; simp only [ho]; go_simp) HS.out ?_
  simp only [Act.put, List.setIfInBounds_toArray, List.set_cons_zero, List.set_cons_succ]
  refine wpAnyH_done (by kernel_rfl) ?_ _
  go_wp2
  go_ret
  exact ⟨rfl, HS.out.2.2.2.2⟩
set_option maxRecDepth 100000 in
set_option maxHeartbeats 4000000 in
theorem texts_no (s : ByteArray) (d X : List Nat) (w : World) (hs : s.size ≤ 140737488351232) (hd : D32 d) (ht : Tab w) (hz : pz s = none) (hX : X = zs32) :
    Calls Tryd.prog 8 #[.string s, .agg (cellsOf d).toArray] w fun e w' => e = .returned (.bool true) ∧ Below w.heap.size w w' := by
  have HT := Lib.hid ht
  have hpos := ht.pos
  have HD := Lib.hid hd
  have HX32 := Lib.hid (show D32 X from by rw [hX]; exact ⟨zs32_len, by decide⟩)
  have HPA := Lib.hid (show ∀ W : World, Calls Tryd.prog 30 #[.string s] W (fun e w' => e = .returned (.tuple #[.agg (cellsOf X).toArray, .int .i64 10]) ∧ Below W.heap.size W w') from fun W => (parse_c s W hs).mono fun e w' h => by
    unfold ParRet at h
    rw [hz] at h
    rw [hX]
    exact h)
  have HPB := Lib.hid (show ∀ W : World, Calls Tryd.prog 31 #[.string s] W (fun e w' => e = .returned (.tuple #[.agg (cellsOf X).toArray, .bool false]) ∧ Below W.heap.size W w') from fun W => (refParse_c s W hs).mono fun e w' h => by
    unfold ParRetB at h
    rw [hz] at h
    rw [hX]
    exact h)
  obtain ⟨TD, hTD⟩ : ∃ t, t = str ([115, 104, 97, 50, 53, 54, 58] ++ hex d) := ⟨_, rfl⟩
  have HTX := Lib.hid (show ∀ W : World, Calls Tryd.prog 32 #[.agg (cellsOf d).toArray] W (fun e w' => e = .returned (.string TD) ∧ Below W.heap.size W w') from fun W => by rw [hTD]; exact text_c d W hd.1 hd.2)
  have HRT := Lib.hid (show ∀ W : World, Calls Tryd.prog 33 #[.agg (cellsOf d).toArray] W (fun e w' => e = .returned (.string TD) ∧ Below W.heap.size W w') from fun W => by rw [hTD]; exact reftext_c d W hd.1 hd.2)

  have HPC := Lib.hid (show ∀ W : World, Calls Tryd.prog 30 #[.string TD] W (fun e w' => e = .returned (.tuple #[.agg (cellsOf d).toArray, .int .i64 0]) ∧ Below W.heap.size W w') from fun W => (parse_c TD W (by
      rw [hTD, ← chars_len, chars_str _ (pfx_byte d hd.2), List.length_append, hex_len, hd.1]; decide)).mono fun e w' h => by
    unfold ParRet at h
    rw [hTD, pz_text d hd.1 hd.2] at h
    exact h)
  have HEQX := Lib.hid (fun W => eq_digT 25 Tryd.underlying25 W X HX32.out)
  have HEQD := Lib.hid (fun W => eq_digT 25 Tryd.underlying25 W d HD.out)
  have HGT := Lib.hid (show Tryd.prog.eqGuardType Tryd.prog.depth 25 = false by kernel_rfl)
  have HID := Lib.hid (show (Tryd.prog.info? 24).map (·.size) = some (cellsOf d).length from by rw [cellsOf_length, HD.out.1]; exact info_a32)
  have HID25 := Lib.hid (show (Tryd.prog.info? 25).map (·.size) = some (cellsOf d).length from by rw [cellsOf_length, HD.out.1]; exact info_dig)
  have HIX := Lib.hid (show (Tryd.prog.info? 24).map (·.size) = some (cellsOf X).length from by rw [cellsOf_length, HX32.out.1]; exact info_a32)
  have HIX25 := Lib.hid (show (Tryd.prog.info? 25).map (·.size) = some (cellsOf X).length from by rw [cellsOf_length, HX32.out.1]; exact info_dig)
  have hzX := Lib.hid (show (cellsOf zs32).toArray.size = (cellsOf X).toArray.size from by rw [cellsOf_size, cellsOf_size, HX32.out.1, zs32_len])
  have hzD := Lib.hid (show (cellsOf zs32).toArray.size = (cellsOf d).toArray.size from by rw [cellsOf_size, cellsOf_size, HD.out.1, zs32_len])
  clear ht hd hs hz hX hTD
  go_enter Tryd.func8, Tryd.ntmps8
  go_wp2_with fail
  refine gen_calls (F := fun W => Brow W w.heap.size 24 d ∧ Below w.heap.size w W) ⟨heap_new _ _, (Below.refl _ _).alloc (Nat.le_refl _) _⟩ ?_
  rintro w0 ⟨h3, hb0⟩
  refine (HPA.out w0).mono ?_
  rintro e1 w1 ⟨rfl, hb1⟩
  have h3 := h3.below hb1 h3.lt
  have hw := hb0.trans (hb1.mono hb0.size)
  clear hb0 hb1
  have H3 := Lib.hid h3
  have HW := Lib.hid hw
  clear h3 hw
  go_wp2_with (first | (refine wpList_store_row (by rfl) 25 _ _ (by rfl) w1.heap.size (cellsOf X).toArray (by rfl) (by rfl) 25 (cellsOf zs32).toArray (by exact heap_new _ _) (by simpa using HIX25.out) hzX.out (cellsOf_all _) ?_; refine gen_world (F := fun W => Brow W w1.heap.size 25 X ∧ Below w1.heap.size w1 W) (add_row w1 25 X _ rfl) ?_; rintro wa ⟨hx5, hba⟩; have H3 := Lib.hid (H3.out.below hba H3.out.lt); have H5 := Lib.hid hx5; have hz1 := HW.out.size; have HW := Lib.hid (HW.out.trans (hba.mono hz1)); clear hx5 hba))
  refine (HPB.out wa).mono ?_
  rintro e2 w2 ⟨rfl, hb2⟩
  have H3 := Lib.hid (H3.out.below hb2 H3.out.lt)
  have H5 := Lib.hid (H5.out.below hb2 H5.out.lt)
  have HW := Lib.hid (HW.out.trans (hb2.mono HW.out.size))
  clear hb2
  obtain ⟨g5, hg5⟩ : ∃ z, z = w1.heap.size := ⟨_, rfl⟩
  rw [← hg5] at H5 ⊢
  clear hg5 hz1
  have HL3a := Lib.hid (run_loadAt_mid · w.heap.size 0 24 (cellsOf d) _ · Tryd.underlying24 rfl HID.out)
  go_wp2_with (first | (refine wpList_store_row (by rfl) 24 _ _ (by rfl) w2.heap.size (cellsOf X).toArray (by rfl) (by rfl) 24 (cellsOf zs32).toArray (by exact heap_new _ _) (by simpa using HIX.out) hzX.out (cellsOf_all _) ?_; refine gen_world (F := fun W => Brow W w2.heap.size 24 X ∧ Below w2.heap.size w2 W) (add_row w2 24 X _ rfl) ?_; rintro wb ⟨hx7, hbb⟩; have H3 := Lib.hid (H3.out.below hbb H3.out.lt); have H5 := Lib.hid (H5.out.below hbb H5.out.lt); have H7 := Lib.hid hx7; have hz1 := HW.out.size; have HW := Lib.hid (HW.out.trans (hbb.mono hz1)); clear hx7 hbb) | (refine wpList_loadg 24 _ (by rfl) (by rfl) (.pointer (some ⟨w.heap.size, 0, none⟩)) (by rfl) (.agg (cellsOf d).toArray) (HL3a.out _ H3.out.range) ?_))
  refine (HTX.out wb).mono ?_
  rintro e3 w3 ⟨rfl, hb3⟩
  have H3 := Lib.hid (H3.out.below hb3 H3.out.lt)
  have H5 := Lib.hid (H5.out.below hb3 H5.out.lt)
  have H7 := Lib.hid (H7.out.below hb3 H7.out.lt)
  have HW := Lib.hid (HW.out.trans (hb3.mono HW.out.size))
  clear hb3
  obtain ⟨g7, hg7⟩ : ∃ z, z = w2.heap.size := ⟨_, rfl⟩
  rw [← hg7] at H7 ⊢
  clear hg7 hz1
  go_wp2_with fail
  refine (HPC.out w3).mono ?_
  rintro e4 w4 ⟨rfl, hb4⟩
  have H3 := Lib.hid (H3.out.below hb4 H3.out.lt)
  have H5 := Lib.hid (H5.out.below hb4 H5.out.lt)
  have H7 := Lib.hid (H7.out.below hb4 H7.out.lt)
  have HW := Lib.hid (HW.out.trans (hb4.mono HW.out.size))
  clear hb4
  go_wp2_with (first | (refine wpList_store_row (by rfl) 25 _ _ (by rfl) w4.heap.size (cellsOf d).toArray (by rfl) (by rfl) 25 (cellsOf zs32).toArray (by exact heap_new _ _) (by simpa using HID25.out) hzD.out (cellsOf_all _) ?_; refine gen_world (F := fun W => Brow W w4.heap.size 25 d ∧ Below w4.heap.size w4 W) (add_row w4 25 d _ rfl) ?_; rintro wc ⟨hx9, hbc⟩; have H3 := Lib.hid (H3.out.below hbc H3.out.lt); have H5 := Lib.hid (H5.out.below hbc H5.out.lt); have H7 := Lib.hid (H7.out.below hbc H7.out.lt); have H9 := Lib.hid hx9; have hz1 := HW.out.size; have HW := Lib.hid (HW.out.trans (hbc.mono hz1)); clear hx9 hbc))
  obtain ⟨g9, hg9⟩ : ∃ z, z = w4.heap.size := ⟨_, rfl⟩
  rw [← hg9] at H9 ⊢
  clear hg9 hz1
  have HS := Lib.hid (show TS w g5 g7 g9 d X wc.drew from ⟨H3.out, H5.out, H7.out, H9.out, HW.out.drew⟩)
  have HL3 := Lib.hid (fun W (hW : TS w g5 g7 g9 d X W) => run_loadAt_mid W w.heap.size 0 24 (cellsOf d) _ hW.1.range Tryd.underlying24 rfl HID.out)
  have HL5 := Lib.hid (fun W (hW : TS w g5 g7 g9 d X W) => run_loadAt_mid W g5 0 25 (cellsOf X) _ hW.2.1.range Tryd.underlying25 rfl HIX25.out)
  have HL7 := Lib.hid (fun W (hW : TS w g5 g7 g9 d X W) => run_loadAt_mid W g7 0 24 (cellsOf X) _ hW.2.2.1.range Tryd.underlying24 rfl HIX.out)
  have HL9 := Lib.hid (fun W (hW : TS w g5 g7 g9 d X W) => run_loadAt_mid W g9 0 25 (cellsOf d) _ hW.2.2.2.1.range Tryd.underlying25 rfl HID25.out)
  clear H3 H5 H7 H9 HW HL3a HPA HPB HPC
  (try dsimp only [Act.put, List.setIfInBounds_toArray, List.set_cons_zero, List.set_cons_succ])
  refine anyH_begin (S := TS w g5 g7 g9 d X) (by kernel_rfl) ?_
  refine anyH_call 0 (d := some 27) (f := 11) (xs := #[]) (ts := #[]) (vs := #[]) (by kernel_rfl) (by rfl) (by go_simp) (by go_simp) (awake2_c _ (HT.out.below HS.out.2.2.2.2 hpos)) ?_
  rintro e9 w9 ⟨rfl, hb9⟩
  refine ⟨_, rfl, HS.out.step hb9, fun hS9 => ?_⟩
  have HS := Lib.hid hS9
  clear hS9 hb9
  simp only [Act.put, List.setIfInBounds_toArray, List.set_cons_zero, List.set_cons_succ]
  refine anyH_pure 1 (d := 28) (op := .move (.tmp 27)) (.bool true) (by rfl) (by kernel_rfl) (by kernel_rfl) (by kernel_rfl) (fun _ _ _ h => h) (fun o ho W hW => by unfold execOp; simp only [ho]; go_simp) HS.out ?_
  simp only [Act.put, List.setIfInBounds_toArray, List.set_cons_zero, List.set_cons_succ]
  refine anyH_loadG 2 (d := 29) (ty := 25) (x := .tmp 5) (gd := some (1, true)) (p := .pointer (some ⟨g5, 0, none⟩)) (.agg (cellsOf X).toArray) (by rfl) (fun o ho => by simp only [Region.wanted, ho]; rfl) (by kernel_rfl) (by kernel_rfl) (by kernel_rfl) (fun _ _ _ h => h) (by rfl) HL5.out HS.out ?_
  simp only [Act.put, List.setIfInBounds_toArray, List.set_cons_zero, List.set_cons_succ]
  refine anyH_loadG 3 (d := 30) (ty := 24) (x := .tmp 7) (gd := some (1, true)) (p := .pointer (some ⟨g7, 0, none⟩)) (.agg (cellsOf X).toArray) (by rfl) (fun o ho => by simp only [Region.wanted, ho]; rfl) (by kernel_rfl) (by kernel_rfl) (by kernel_rfl) (fun _ _ _ h => h) (by rfl) HL7.out HS.out ?_
  simp only [Act.put, List.setIfInBounds_toArray, List.set_cons_zero, List.set_cons_succ]
  refine anyH_eqG 4 (d := 31) (t := 25) (t' := 25) (x := .tmp 29) (y := .tmp 30) (gd := some (1, true)) ((cellsOf X).toArray) ((cellsOf X).toArray) true (by rfl) (fun o ho => by simp only [Region.wanted, ho]; rfl) (by kernel_rfl) (by kernel_rfl) (by kernel_rfl) (fun _ _ _ h => h) (by rfl) (by rfl) HGT.out HEQX.out HS.out ?_
  simp only [Act.put, List.setIfInBounds_toArray, List.set_cons_zero, List.set_cons_succ]
  refine anyH_pure 5 (d := 32) (op := .pick (.tmp 28) (.tmp 31) (.const (.bool false))) (.bool true) (by rfl) (by kernel_rfl) (by kernel_rfl) (by kernel_rfl) (fun _ _ _ h => h) (fun o ho W hW => by unfold execOp; simp only [ho]; go_simp) HS.out ?_
  simp only [Act.put, List.setIfInBounds_toArray, List.set_cons_zero, List.set_cons_succ]
  refine anyH_pure 6 (d := 33) (op := .move (.tmp 32)) (.bool true) (by rfl) (by kernel_rfl) (by kernel_rfl) (by kernel_rfl) (fun _ _ _ h => h) (fun o ho W hW => by unfold execOp; simp only [ho]; go_simp) HS.out ?_
  simp only [Act.put, List.setIfInBounds_toArray, List.set_cons_zero, List.set_cons_succ]
  refine anyH_pureG 7 (d := 34) (op := .move (.tmp 6)) (gd := some (6, true)) (.int .i64 10) (by rfl) (fun o ho => by simp only [Region.wanted, ho]; rfl) (by kernel_rfl) (by kernel_rfl) (by kernel_rfl) (fun _ _ _ h => h) (fun o ho W hW => by unfold execOp; simp only [ho]; go_simp) HS.out ?_
  simp only [Act.put, List.setIfInBounds_toArray, List.set_cons_zero, List.set_cons_succ]
  refine anyH_pureG 8 (d := 35) (op := .binOp .eql 44 (.tmp 34) (.const (.int .i64 0)) 44) (gd := some (6, true)) (.bool false) (by rfl) (fun o ho => by simp only [Region.wanted, ho]; rfl) (by kernel_rfl) (by kernel_rfl) (by kernel_rfl) (fun _ _ _ h => h) (fun o ho W hW => by unfold execOp; simp only [ho]; go_simp) HS.out ?_
  simp only [Act.put, List.setIfInBounds_toArray, List.set_cons_zero, List.set_cons_succ]
  refine anyH_pureG 9 (d := 36) (op := .move (.tmp 8)) (gd := some (6, true)) (.bool false) (by rfl) (fun o ho => by simp only [Region.wanted, ho]; rfl) (by kernel_rfl) (by kernel_rfl) (by kernel_rfl) (fun _ _ _ h => h) (fun o ho W hW => by unfold execOp; simp only [ho]; go_simp) HS.out ?_
  simp only [Act.put, List.setIfInBounds_toArray, List.set_cons_zero, List.set_cons_succ]
  refine anyH_pureG 10 (d := 37) (op := .binOp .eql 4 (.tmp 35) (.tmp 36) 4) (gd := some (6, true)) (.bool true) (by rfl) (fun o ho => by simp only [Region.wanted, ho]; rfl) (by kernel_rfl) (by kernel_rfl) (by kernel_rfl) (fun _ _ _ h => h) (fun o ho W hW => by unfold execOp; simp only [ho]; go_simp) HS.out ?_
  simp only [Act.put, List.setIfInBounds_toArray, List.set_cons_zero, List.set_cons_succ]
  refine anyH_pure 11 (d := 38) (op := .pick (.tmp 33) (.tmp 37) (.const (.bool false))) (.bool true) (by rfl) (by kernel_rfl) (by kernel_rfl) (by kernel_rfl) (fun _ _ _ h => h) (fun o ho W hW => by unfold execOp; simp only [ho]; go_simp) HS.out ?_
  simp only [Act.put, List.setIfInBounds_toArray, List.set_cons_zero, List.set_cons_succ]
  refine anyH_pure 12 (d := 39) (op := .move (.tmp 38)) (.bool true) (by rfl) (by kernel_rfl) (by kernel_rfl) (by kernel_rfl) (fun _ _ _ h => h) (fun o ho W hW => by unfold execOp; simp only [ho]; go_simp) HS.out ?_
  simp only [Act.put, List.setIfInBounds_toArray, List.set_cons_zero, List.set_cons_succ]
  refine anyH_pureG 13 (d := 40) (op := .move (.tmp 6)) (gd := some (12, true)) (.int .i64 10) (by rfl) (fun o ho => by simp only [Region.wanted, ho]; rfl) (by kernel_rfl) (by kernel_rfl) (by kernel_rfl) (fun _ _ _ h => h) (fun o ho W hW => by unfold execOp; simp only [ho]; go_simp) HS.out ?_
  simp only [Act.put, List.setIfInBounds_toArray, List.set_cons_zero, List.set_cons_succ]
  refine anyH_pureG 14 (d := 41) (op := .binOp .eql 44 (.tmp 40) (.const (.int .i64 0)) 44) (gd := some (12, true)) (.bool false) (by rfl) (fun o ho => by simp only [Region.wanted, ho]; rfl) (by kernel_rfl) (by kernel_rfl) (by kernel_rfl) (fun _ _ _ h => h) (fun o ho W hW => by unfold execOp; simp only [ho]; go_simp) HS.out ?_
  simp only [Act.put, List.setIfInBounds_toArray, List.set_cons_zero, List.set_cons_succ]
  refine anyH_pureG 15 (d := 42) (op := .move (.tmp 41)) (gd := some (12, true)) (.bool false) (by rfl) (fun o ho => by simp only [Region.wanted, ho]; rfl) (by kernel_rfl) (by kernel_rfl) (by kernel_rfl) (fun _ _ _ h => h) (fun o ho W hW => by unfold execOp; simp only [ho]; go_simp) HS.out ?_
  simp only [Act.put, List.setIfInBounds_toArray, List.set_cons_zero, List.set_cons_succ]
  refine anyH_pureG 16 (d := 43) (op := .move (.tmp 6)) (gd := some (15, false)) (.int .i64 10) (by rfl) (fun o ho => by simp only [Region.wanted, ho]; rfl) (by kernel_rfl) (by kernel_rfl) (by kernel_rfl) (fun _ _ _ h => h) (fun o ho W hW => by unfold execOp; simp only [ho]; go_simp) HS.out ?_
  simp only [Act.put, List.setIfInBounds_toArray, List.set_cons_zero, List.set_cons_succ]
  refine anyH_pureG 17 (d := 44) (op := .binOp .eql 44 (.tmp 43) (.const (.int .i64 10)) 44) (gd := some (15, false)) (.bool true) (by rfl) (fun o ho => by simp only [Region.wanted, ho]; rfl) (by kernel_rfl) (by kernel_rfl) (by kernel_rfl) (fun _ _ _ h => h) (fun o ho W hW => by unfold execOp; simp only [ho]; go_simp) HS.out ?_
  simp only [Act.put, List.setIfInBounds_toArray, List.set_cons_zero, List.set_cons_succ]
  refine anyH_pureG 18 (d := 45) (op := .pick (.tmp 42) (.const (.bool true)) (.tmp 44)) (gd := some (12, true)) (.bool true) (by rfl) (fun o ho => by simp only [Region.wanted, ho]; rfl) (by kernel_rfl) (by kernel_rfl) (by kernel_rfl) (fun _ _ _ h => h) (fun o ho W hW => by unfold execOp; simp only [ho]; go_simp) HS.out ?_
  simp only [Act.put, List.setIfInBounds_toArray, List.set_cons_zero, List.set_cons_succ]
  refine anyH_pure 19 (d := 46) (op := .pick (.tmp 39) (.tmp 45) (.const (.bool false))) (.bool true) (by rfl) (by kernel_rfl) (by kernel_rfl) (by kernel_rfl) (fun _ _ _ h => h) (fun o ho W hW => by unfold execOp; simp only [ho]; go_simp) HS.out ?_
  simp only [Act.put, List.setIfInBounds_toArray, List.set_cons_zero, List.set_cons_succ]
  refine anyH_pure 20 (d := 47) (op := .move (.tmp 46)) (.bool true) (by rfl) (by kernel_rfl) (by kernel_rfl) (by kernel_rfl) (fun _ _ _ h => h) (fun o ho W hW => by unfold execOp; simp only [ho]; go_simp) HS.out ?_
  simp only [Act.put, List.setIfInBounds_toArray, List.set_cons_zero, List.set_cons_succ]
  refine anyH_pureG 21 (d := 48) (op := .move (.tmp 10)) (gd := some (20, true)) (.int .i64 0) (by rfl) (fun o ho => by simp only [Region.wanted, ho]; rfl) (by kernel_rfl) (by kernel_rfl) (by kernel_rfl) (fun _ _ _ h => h) (fun o ho W hW => by unfold execOp; simp only [ho]; go_simp) HS.out ?_
  simp only [Act.put, List.setIfInBounds_toArray, List.set_cons_zero, List.set_cons_succ]
  refine anyH_pureG 22 (d := 49) (op := .binOp .eql 44 (.tmp 48) (.const (.int .i64 0)) 44) (gd := some (20, true)) (.bool true) (by rfl) (fun o ho => by simp only [Region.wanted, ho]; rfl) (by kernel_rfl) (by kernel_rfl) (by kernel_rfl) (fun _ _ _ h => h) (fun o ho W hW => by unfold execOp; simp only [ho]; go_simp) HS.out ?_
  simp only [Act.put, List.setIfInBounds_toArray, List.set_cons_zero, List.set_cons_succ]
  refine anyH_pure 23 (d := 50) (op := .pick (.tmp 47) (.tmp 49) (.const (.bool false))) (.bool true) (by rfl) (by kernel_rfl) (by kernel_rfl) (by kernel_rfl) (fun _ _ _ h => h) (fun o ho W hW => by unfold execOp; simp only [ho]; go_simp) HS.out ?_
  simp only [Act.put, List.setIfInBounds_toArray, List.set_cons_zero, List.set_cons_succ]
  refine anyH_pure 24 (d := 51) (op := .move (.tmp 50)) (.bool true) (by rfl) (by kernel_rfl) (by kernel_rfl) (by kernel_rfl) (fun _ _ _ h => h) (fun o ho W hW => by unfold execOp; simp only [ho]; go_simp) HS.out ?_
  simp only [Act.put, List.setIfInBounds_toArray, List.set_cons_zero, List.set_cons_succ]
  refine anyH_loadG 25 (d := 52) (ty := 25) (x := .tmp 9) (gd := some (24, true)) (p := .pointer (some ⟨g9, 0, none⟩)) (.agg (cellsOf d).toArray) (by rfl) (fun o ho => by simp only [Region.wanted, ho]; rfl) (by kernel_rfl) (by kernel_rfl) (by kernel_rfl) (fun _ _ _ h => h) (by rfl) HL9.out HS.out ?_
  simp only [Act.put, List.setIfInBounds_toArray, List.set_cons_zero, List.set_cons_succ]
  refine anyH_loadG 26 (d := 53) (ty := 24) (x := .tmp 3) (gd := some (24, true)) (p := .pointer (some ⟨w.heap.size, 0, none⟩)) (.agg (cellsOf d).toArray) (by rfl) (fun o ho => by simp only [Region.wanted, ho]; rfl) (by kernel_rfl) (by kernel_rfl) (by kernel_rfl) (fun _ _ _ h => h) (by rfl) HL3.out HS.out ?_
  simp only [Act.put, List.setIfInBounds_toArray, List.set_cons_zero, List.set_cons_succ]
  refine anyH_eqG 27 (d := 54) (t := 25) (t' := 25) (x := .tmp 52) (y := .tmp 53) (gd := some (24, true)) ((cellsOf d).toArray) ((cellsOf d).toArray) true (by rfl) (fun o ho => by simp only [Region.wanted, ho]; rfl) (by kernel_rfl) (by kernel_rfl) (by kernel_rfl) (fun _ _ _ h => h) (by rfl) (by rfl) HGT.out HEQD.out HS.out ?_
  simp only [Act.put, List.setIfInBounds_toArray, List.set_cons_zero, List.set_cons_succ]
  refine anyH_pure 28 (d := 55) (op := .pick (.tmp 51) (.tmp 54) (.const (.bool false))) (.bool true) (by rfl) (by kernel_rfl) (by kernel_rfl) (by kernel_rfl) (fun _ _ _ h => h) (fun o ho W hW => by unfold execOp; simp only [ho]; go_simp) HS.out ?_
  simp only [Act.put, List.setIfInBounds_toArray, List.set_cons_zero, List.set_cons_succ]
  refine anyH_pure 29 (d := 56) (op := .move (.tmp 55)) (.bool true) (by rfl) (by kernel_rfl) (by kernel_rfl) (by kernel_rfl) (fun _ _ _ h => h) (fun o ho W hW => by unfold execOp; simp only [ho]; go_simp) HS.out ?_
  simp only [Act.put, List.setIfInBounds_toArray, List.set_cons_zero, List.set_cons_succ]
  refine anyH_loadG 30 (d := 57) (ty := 24) (x := .tmp 3) (gd := some (29, true)) (p := .pointer (some ⟨w.heap.size, 0, none⟩)) (.agg (cellsOf d).toArray) (by rfl) (fun o ho => by simp only [Region.wanted, ho]; rfl) (by kernel_rfl) (by kernel_rfl) (by kernel_rfl) (fun _ _ _ h => h) (by rfl) HL3.out HS.out ?_
  simp only [Act.put, List.setIfInBounds_toArray, List.set_cons_zero, List.set_cons_succ]
  refine anyH_loadG 32 (d := 59) (ty := 24) (x := .tmp 3) (gd := some (29, true)) (p := .pointer (some ⟨w.heap.size, 0, none⟩)) (.agg (cellsOf d).toArray) (by rfl) (fun o ho => by simp only [Region.wanted, ho]; rfl) (by kernel_rfl) (by kernel_rfl) (by kernel_rfl) (fun _ _ _ h => h) (by rfl) HL3.out HS.out ?_
  simp only [Act.put, List.setIfInBounds_toArray, List.set_cons_zero, List.set_cons_succ]
  refine anyH_callG 31 (d := some 58) (f := 32) (xs := #[.tmp 57]) (ts := #[25]) (gd := some (29, true)) (vs := #[.agg (cellsOf d).toArray]) (by kernel_rfl) (by rfl) (fun o ho => by simp only [Region.wanted, ho]; rfl) (by go_simp) (by go_simp) (HTX.out _) ?_
  rintro e9 w9 ⟨rfl, hb9⟩
  refine ⟨_, rfl, HS.out.step hb9, fun hS9 => ?_⟩
  have HS := Lib.hid hS9
  clear hS9 hb9
  simp only [Act.put, List.setIfInBounds_toArray, List.set_cons_zero, List.set_cons_succ]
  refine anyH_callG 33 (d := some 60) (f := 33) (xs := #[.tmp 59]) (ts := #[24]) (gd := some (29, true)) (vs := #[.agg (cellsOf d).toArray]) (by kernel_rfl) (by rfl) (fun o ho => by simp only [Region.wanted, ho]; rfl) (by go_simp) (by go_simp) (HRT.out _) ?_
  rintro e9 w9 ⟨rfl, hb9⟩
  refine ⟨_, rfl, HS.out.step hb9, fun hS9 => ?_⟩
  have HS := Lib.hid hS9
  clear hS9 hb9
  simp only [Act.put, List.setIfInBounds_toArray, List.set_cons_zero, List.set_cons_succ]
  refine anyH_pureG 34 (d := 61) (op := .binOp .eql 9 (.tmp 58) (.tmp 60) 9) (gd := some (29, true)) (.bool true) (by rfl) (fun o ho => by simp only [Region.wanted, ho]; rfl) (by kernel_rfl) (by kernel_rfl) (by kernel_rfl) (fun _ _ _ h => h) (fun o ho W hW => by unfold execOp; simp only [ho]; go_simp) HS.out ?_
  simp only [Act.put, List.setIfInBounds_toArray, List.set_cons_zero, List.set_cons_succ]
  refine anyH_pure 35 (d := 62) (op := .pick (.tmp 56) (.tmp 61) (.const (.bool false))) (.bool true) (by rfl) (by kernel_rfl) (by kernel_rfl) (by kernel_rfl) (fun _ _ _ h => h) (fun o ho W hW => by unfold execOp; simp only [ho]; go_simp) HS.out ?_
  simp only [Act.put, List.setIfInBounds_toArray, List.set_cons_zero, List.set_cons_succ]
  refine anyH_pure 36 (d := 63) (op := .move (.tmp 62)) (.bool true) (by rfl) (by kernel_rfl) (by kernel_rfl) (by kernel_rfl) (fun _ _ _ h => h) (fun o ho W hW => by unfold execOp; simp only [ho]; go_simp) HS.out ?_
  simp only [Act.put, List.setIfInBounds_toArray, List.set_cons_zero, List.set_cons_succ]
  refine anyH_pureG 37 (d := 64) (op := .move (.tmp 8)) (gd := some (36, true)) (.bool false) (by rfl) (fun o ho => by simp only [Region.wanted, ho]; rfl) (by kernel_rfl) (by kernel_rfl) (by kernel_rfl) (fun _ _ _ h => h) (fun o ho W hW => by unfold execOp; simp only [ho]; go_simp) HS.out ?_
  simp only [Act.put, List.setIfInBounds_toArray, List.set_cons_zero, List.set_cons_succ]
  refine anyH_pureG 38 (d := 65) (op := .unOp .not 4 (.tmp 64)) (gd := some (36, true)) (.bool true) (by rfl) (fun o ho => by simp only [Region.wanted, ho]; rfl) (by kernel_rfl) (by kernel_rfl) (by kernel_rfl) (fun _ _ _ h => h) (fun o ho W hW => by unfold execOp; simp only [ho]; go_simp) HS.out ?_
  simp only [Act.put, List.setIfInBounds_toArray, List.set_cons_zero, List.set_cons_succ]
  refine anyH_pureG 39 (d := 66) (op := .move (.tmp 65)) (gd := some (36, true)) (.bool true) (by rfl) (fun o ho => by simp only [Region.wanted, ho]; rfl) (by kernel_rfl) (by kernel_rfl) (by kernel_rfl) (fun _ _ _ h => h) (fun o ho W hW => by unfold execOp; simp only [ho]; go_simp) HS.out ?_
  simp only [Act.put, List.setIfInBounds_toArray, List.set_cons_zero, List.set_cons_succ]
  refine anyH_skip 40 (d := 67) (op := .load 25 (.tmp 5)) (gd := some (39, false)) (by rfl) (fun o ho => by simp only [Region.wanted, ho]; rfl) (by kernel_rfl) (by kernel_rfl) (by kernel_rfl) (fun _ _ _ h => h) HS.out ?_
  simp only [Act.put, List.setIfInBounds_toArray, List.set_cons_zero, List.set_cons_succ]
  refine anyH_skip 42 (d := 69) (op := .move (.tmp 0)) (gd := some (39, false)) (by rfl) (fun o ho => by simp only [Region.wanted, ho]; rfl) (by kernel_rfl) (by kernel_rfl) (by kernel_rfl) (fun _ _ _ h => h) HS.out ?_
  simp only [Act.put, List.setIfInBounds_toArray, List.set_cons_zero, List.set_cons_succ]
  refine anyH_skip 41 (d := 68) (op := .call { callee := .value (.func 32), args := #[.tmp 67], argTypes := #[25] }) (gd := some (39, false)) (by rfl) (fun o ho => by simp only [Region.wanted, ho]; rfl) (by kernel_rfl) (by kernel_rfl) (by kernel_rfl) (fun _ _ _ h => h) HS.out ?_
  simp only [Act.put, List.setIfInBounds_toArray, List.set_cons_zero, List.set_cons_succ]
  refine anyH_skip 43 (d := 70) (op := .binOp .eql 9 (.tmp 68) (.tmp 69) 9) (gd := some (39, false)) (by rfl) (fun o ho => by simp only [Region.wanted, ho]; rfl) (by kernel_rfl) (by kernel_rfl) (by kernel_rfl) (fun _ _ _ h => h) HS.out ?_
  simp only [Act.put, List.setIfInBounds_toArray, List.set_cons_zero, List.set_cons_succ]
  refine anyH_pureG 44 (d := 71) (op := .pick (.tmp 66) (.const (.bool true)) (.tmp 70)) (gd := some (36, true)) (.bool true) (by rfl) (fun o ho => by simp only [Region.wanted, ho]; rfl) (by kernel_rfl) (by kernel_rfl) (by kernel_rfl) (fun _ _ _ h => h) (fun o ho W hW => by unfold execOp; simp only [ho]; go_simp) HS.out ?_
  simp only [Act.put, List.setIfInBounds_toArray, List.set_cons_zero, List.set_cons_succ]
  refine anyH_pure 45 (d := 72) (op := .pick (.tmp 63) (.tmp 71) (.const (.bool false))) (.bool true) (by rfl) (by kernel_rfl) (by kernel_rfl) (by kernel_rfl) (fun _ _ _ h => h) (fun o ho W hW => by unfold execOp; simp only [ho]; go_simp) HS.out ?_
  simp only [Act.put, List.setIfInBounds_toArray, List.set_cons_zero, List.set_cons_succ]
  refine anyH_pure 46 (d := 4) (op := .assign (.tmp 72)) (.bool true) (by rfl) (by kernel_rfl) (by kernel_rfl) (by kernel_rfl) (fun _ _ _ h => h) (fun o ho W hW => by unfold execOp; simp only [ho]; go_simp) HS.out ?_
  simp only [Act.put, List.setIfInBounds_toArray, List.set_cons_zero, List.set_cons_succ]
  refine wpAnyH_done (by kernel_rfl) ?_ _
  go_wp2
  go_ret
  exact ⟨rfl, HS.out.2.2.2.2⟩
theorem texts_c (s : ByteArray) (d : List Nat) (w : World) (hs : s.size ≤ 140737488351232) (hd : D32 d) (ht : Tab w) :
    Calls Tryd.prog 8 #[.string s, .agg (cellsOf d).toArray] w fun e w' => e = .returned (.bool true) ∧ Below w.heap.size w w' := by
  cases hz : pz s with
  | some X => exact texts_ok s d X w hs hd ht hz
  | none => exact texts_no s d zs32 w hs hd ht hz rfl
end Go.Proofs.YtnnofcfagdbafabDoor
