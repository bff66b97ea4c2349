/-
  The walk over BlobNil.
-/
import Derived.Test.YtcjlbonflecbkaaDoorBiv
namespace Go.Proofs.YtcjlbonflecbkaaDoor
open Go.RowKit
set_option linter.unusedVariables false
theorem exec_loadE {X : Nat} {ds : List Nat} {W : World} (hb : Brow W X 36 ds) (hd : D32 ds) {A : Act} {x : Operand} (hx : A.eval x = .pointer (some ⟨X, 0, none⟩)) (o : Oper) (ho : o.op = .load 36 x) : (execOp A.eval o).run Tryd.prog W = .ok (.value (.agg (cellsOf ds).toArray)) W := by
  unfold execOp
  simp only [ho, hx, run_loadAt_mid W X 0 36 (cellsOf ds) _ hb.range Tryd.underlying36 rfl (by rw [cellsOf_length, hd.1]; exact info_a32), Sem.run_bind, Result.andThen_ok, Sem.run_pure]
set_option maxRecDepth 100000 in
set_option maxHeartbeats 8000000 in
theorem bnil_c (ds : List Nat) (a1 : Option Addr) (len1 cap1 : Nat) (z1 : List Nat) (w : World) (hd : D32 ds) (r1 : BytesIn w a1 len1 cap1 z1) (ht : Tab w) :
    Calls Tryd.prog 6 #[.agg (cellsOf ds).toArray, .slice a1 len1 cap1] w fun e w' => e = .returned (.bool true) ∧ Below w.heap.size w w' := by
  have HT := Lib.hid ht
  have HD32 := Lib.hid hd
  have HI32 := Lib.hid (show (Tryd.prog.info? 37).map (·.size) = some (cellsOf zs32).toArray.size from by rw [cellsOf_size, zs32_len]; exact info_dig)
  have HI32D := Lib.hid (show (Tryd.prog.info? 36).map (·.size) = some (cellsOf ds).toArray.size from by rw [cellsOf_size, hd.1]; exact info_a32)
  obtain ⟨i0, hi, hz0, hz1, hz2⟩ := info_parts byteInfo
  clear hd r1 ht
  go_enter Tryd.func6, Tryd.ntmps6
  go_wp2_with fail
  refine gen_calls (F := fun W => Brow W w.heap.size 36 ds ∧ Below w.heap.size w W) ⟨heap_new _ _, (Below.refl _ _).alloc (Nat.le_refl _) _⟩ ?_
  rintro w0 ⟨hx0, hb0⟩
  refine (nput_c a1 len1 cap1 w0).mono ?_
  rintro e1 w1 ⟨rfl, hb1⟩
  have HX1 := Lib.hid (hx0.below hb1 hx0.lt)
  have HB1 := Lib.hid (hb0.trans (hb1.mono hb0.size))
  have HN1 := Lib.hid (show ∀ O : Obj, (w1.alloc O).heap[w1.heap.size]? = some O from fun O => heap_new w1 O)
  clear hx0 hb0 hb1
  go_wp2_with (first | (refine wpList_store_row (by rfl) 37 _ _ (by rfl) w1.heap.size (cellsOf zs32).toArray (by rfl) (by rfl) 37 (cellsOf zs32).toArray (by exact HN1.out _) HI32.out rfl (cellsOf_all _) ?_; refine gen_wpl (F := fun W => Below w1.heap.size w1 W) (((Below.refl _ _).alloc (Nat.le_refl _) _).setRow (Nat.le_refl _) _) ?_; rintro w2 hb2; have HX2 := Lib.hid (HX1.out.below hb2 HX1.out.lt); have HB2 := Lib.hid (HB1.out.trans (hb2.mono HB1.out.size)); clear hb2) | (refine wpList_load_row (by rfl) 36 _ (by rfl) w.heap.size (by rfl) _ (cellsOf ds).toArray (0, 0) _ HX2.out Tryd.underlying36 (by rfl) HI32D.out ?_))
  clear HN1 HX1 HB1
  refine (nsize_c ds w2).mono ?_
  rintro e3 w3 ⟨rfl, hb3⟩
  have HX3 := Lib.hid (HX2.out.below hb3 HX2.out.lt)
  have HB3 := Lib.hid (HB2.out.trans (hb3.mono HB2.out.size))
  clear hb3 HX2 HB2
  go_wp2_with (refine wpList_load_row (by rfl) 36 _ (by rfl) w.heap.size (by rfl) _ (cellsOf ds).toArray (0, 0) _ HX3.out Tryd.underlying36 (by rfl) HI32D.out ?_)
  refine (nread_c ds 0 1 w3).mono ?_
  rintro e4 w4 ⟨rfl, hb4⟩
  have HX4 := Lib.hid (HX3.out.below hb4 HX3.out.lt)
  have HB4 := Lib.hid (HB3.out.trans (hb4.mono HB3.out.size))
  clear hb4 HX3 HB3
  go_wp2_with fail
  refine (nlist_c w4).mono ?_
  rintro e5 w5 ⟨rfl, hb5⟩
  have HX5 := Lib.hid (HX4.out.below hb5 HX4.out.lt)
  have HB5 := Lib.hid (HB4.out.trans (hb5.mono HB4.out.size))
  clear hb5 HX4 HB4
  go_wp2_with fail
  refine (nnew_c w5).mono ?_
  rintro e6 w6 ⟨rfl, hb6⟩
  have HX6 := Lib.hid (HX5.out.below hb6 HX5.out.lt)
  have HB6 := Lib.hid (HB5.out.trans (hb6.mono HB5.out.size))
  clear hb6 HX5 HB5
  go_wp2_with fail
  refine (dnew_c 4194304 w6 (by omega) (by omega)).mono ?_
  rintro e7 w7 ⟨rfl, hk7, hb7⟩
  have hdx : Dx (fun _ => False) w6.heap.size w6.heap.size 0 (fresh 4194304 []) w7 := ⟨⟨newS 4194304, hk7, anewS 4194304 (by omega) (by omega), fun j hj => hj.elim⟩, fun j hj => hj.elim⟩
  have HX7 := Lib.hid (HX6.out.below hb7 HX6.out.lt)
  have HB7 := Lib.hid (HB6.out.trans (hb7.mono HB6.out.size))
  have HNW := Lib.hid (bnew_ok hdx (by omega) hb7.size rfl rfl)
  clear hk7 hb7 hdx
  go_wp2_with fail
  refine HNW.out.mono ?_
  rintro e8 w8 ⟨rfl, -, hb8, -⟩
  have HX8 := Lib.hid (HX7.out.below hb8 HX6.out.lt)
  have HB8 := Lib.hid (HB7.out.trans (hb8.mono HB6.out.size))
  clear hb8 HX7 HB7 HX6 HB6 HNW
  go_wp2_with (at_make; refine wpList_make_full _ rfl _ _ 33 rfl w8.heap.size 5 i0 (.int .u8 0) 1 Tryd.underlying33 hi hz0 hz1 .i64 .i64 _ _ 1048577 rfl rfl rfl rfl (by rw [hz2]; omega) (by unfold maxLen; omega) (Nat.le_refl _) ?_)
  intro w9 hown hg
  have hb9 : Below w8.heap.size w8 w9 := (Below.refl _ _).grown hg (Nat.le_refl _) (by simp)
  have HX9 := Lib.hid (HX8.out.below hb9 HX8.out.lt)
  have HB9 := Lib.hid (HB8.out.trans (hb9.mono HB8.out.size))
  clear hown hg hb9 hi hz0 hz1 hz2
  go_wp2_with fail
  refine (lput_c (some ⟨w8.heap.size, 0, none⟩) 1048577 1048577 (by decide) w9).mono ?_
  rintro e10 w10 ⟨rfl, hb10⟩
  have HX10 := Lib.hid (HX9.out.below hb10 HX9.out.lt)
  have HB10 := Lib.hid (HB9.out.trans (hb10.mono HB9.out.size))
  have HN10 := Lib.hid (show ∀ O : Obj, (w10.alloc O).heap[w10.heap.size]? = some O from fun O => heap_new w10 O)
  clear hb10 HX9 HB9 HX8 HB8
  go_wp2_with (first | (refine wpList_store_row (by rfl) 37 _ _ (by rfl) w10.heap.size (cellsOf zs32).toArray (by rfl) (by rfl) 37 (cellsOf zs32).toArray (by exact HN10.out _) HI32.out rfl (cellsOf_all _) ?_; refine gen_wpl (F := fun W => Below w10.heap.size w10 W) (((Below.refl _ _).alloc (Nat.le_refl _) _).setRow (Nat.le_refl _) _) ?_; rintro w11 hb11; have HX11 := Lib.hid (HX10.out.below hb11 HX10.out.lt); have HB11 := Lib.hid (HB10.out.trans (hb11.mono HB10.out.size)); clear hb11))
  clear HN10 HX10 HB10
  have HS := Lib.hid (show Brow (World.drew w11) w.heap.size 36 ds from HX11.out.below (below_drewN' _ w11 1) HX11.out.lt)
  have HBB := Lib.hid (HB11.out.trans (below_drewN' _ w11 1))
  have HLD := Lib.hid (show ∀ W, Brow W w.heap.size 36 ds → (Instr.loadAt 36 (.pointer (some ⟨w.heap.size, 0, none⟩))).run Tryd.prog W = .ok (.agg (cellsOf ds).toArray) W from fun W hW => run_loadAt_mid W w.heap.size 0 36 (cellsOf ds) _ hW.range Tryd.underlying36 rfl (by rw [cellsOf_length, HD32.out.1]; exact info_a32))
  clear HX11 HB11
  refine anyH_begin (S := fun W => Brow W w.heap.size 36 ds) (by kernel_rfl) ?_
  refine anyH_callG 0 (d := some 66) (f := 9) (xs := #[]) (ts := #[]) (gd := none) (vs := #[]) (by kernel_rfl) (by rfl) (fun o ho => wanted_plain ho _) (by go_simp) (by go_simp) (awake12_c _ (Tab.below HT.out HBB.out HT.out.pos)) ?_
  rintro e12 w12 ⟨rfl, hb12⟩
  have HS := Lib.hid (show Brow w12 w.heap.size 36 ds from HS.out.below hb12 HS.out.lt)
  have HBB := Lib.hid (HBB.out.trans (hb12.mono HBB.out.size))
  clear hb12
  refine ⟨_, rfl, HS.out, fun hS => ?_⟩
  clear hS
  simp only [Act.put, List.setIfInBounds_toArray, List.set_cons_zero, List.set_cons_succ]
  refine anyH_pureG 1 (d := 67) (op := .move (.tmp 66)) (gd := none) (.bool true) (by rfl) (fun o ho => wanted_plain ho _) (by kernel_rfl) (by kernel_rfl) (by kernel_rfl) (fun _ _ _ h => h) (fun o ho W hW => by unfold execOp; simp only [ho]; go_simp) HS.out ?_
  simp only [Act.put, List.setIfInBounds_toArray, List.set_cons_zero, List.set_cons_succ]
  refine anyH_pureG 2 (d := 68) (op := .move (.tmp 7)) (gd := some (1, true)) (.int .i64 2) (by rfl) (fun o ho => by simp only [Region.wanted, ho]; rfl) (by kernel_rfl) (by kernel_rfl) (by kernel_rfl) (fun _ _ _ h => h) (fun o ho W hW => by unfold execOp; simp only [ho]; go_simp) HS.out ?_
  simp only [Act.put, List.setIfInBounds_toArray, List.set_cons_zero, List.set_cons_succ]
  refine anyH_pureG 3 (d := 69) (op := .binOp .eql 25 (.tmp 68) (.const (.int .i64 2)) 25) (gd := some (1, true)) (.bool true) (by rfl) (fun o ho => by simp only [Region.wanted, ho]; rfl) (by kernel_rfl) (by kernel_rfl) (by kernel_rfl) (fun _ _ _ h => h) (fun o1 ho W hW => by unfold execOp; simp only [ho]; go_simp; try simp) HS.out ?_
  simp only [Act.put, List.setIfInBounds_toArray, List.set_cons_zero, List.set_cons_succ]
  refine anyH_pureG 4 (d := 70) (op := .pick (.tmp 67) (.tmp 69) (.const (.bool false))) (gd := none) (.bool true) (by rfl) (fun o ho => wanted_plain ho _) (by kernel_rfl) (by kernel_rfl) (by kernel_rfl) (fun _ _ _ h => h) (fun o ho W hW => by unfold execOp; simp only [ho]; go_simp) HS.out ?_
  simp only [Act.put, List.setIfInBounds_toArray, List.set_cons_zero, List.set_cons_succ]
  refine anyH_pureG 5 (d := 71) (op := .move (.tmp 70)) (gd := none) (.bool true) (by rfl) (fun o ho => wanted_plain ho _) (by kernel_rfl) (by kernel_rfl) (by kernel_rfl) (fun _ _ _ h => h) (fun o ho W hW => by unfold execOp; simp only [ho]; go_simp) HS.out ?_
  simp only [Act.put, List.setIfInBounds_toArray, List.set_cons_zero, List.set_cons_succ]
  refine anyH_pureG 6 (d := 72) (op := .move (.tmp 9)) (gd := some (5, true)) (.int .i64 2) (by rfl) (fun o ho => by simp only [Region.wanted, ho]; rfl) (by kernel_rfl) (by kernel_rfl) (by kernel_rfl) (fun _ _ _ h => h) (fun o ho W hW => by unfold execOp; simp only [ho]; go_simp) HS.out ?_
  simp only [Act.put, List.setIfInBounds_toArray, List.set_cons_zero, List.set_cons_succ]
  refine anyH_pureG 7 (d := 73) (op := .binOp .eql 25 (.tmp 72) (.const (.int .i64 2)) 25) (gd := some (5, true)) (.bool true) (by rfl) (fun o ho => by simp only [Region.wanted, ho]; rfl) (by kernel_rfl) (by kernel_rfl) (by kernel_rfl) (fun _ _ _ h => h) (fun o1 ho W hW => by unfold execOp; simp only [ho]; go_simp; try simp) HS.out ?_
  simp only [Act.put, List.setIfInBounds_toArray, List.set_cons_zero, List.set_cons_succ]
  refine anyH_pureG 8 (d := 74) (op := .pick (.tmp 71) (.tmp 73) (.const (.bool false))) (gd := none) (.bool true) (by rfl) (fun o ho => wanted_plain ho _) (by kernel_rfl) (by kernel_rfl) (by kernel_rfl) (fun _ _ _ h => h) (fun o ho W hW => by unfold execOp; simp only [ho]; go_simp) HS.out ?_
  simp only [Act.put, List.setIfInBounds_toArray, List.set_cons_zero, List.set_cons_succ]
  refine anyH_pureG 9 (d := 75) (op := .move (.tmp 74)) (gd := none) (.bool true) (by rfl) (fun o ho => wanted_plain ho _) (by kernel_rfl) (by kernel_rfl) (by kernel_rfl) (fun _ _ _ h => h) (fun o ho W hW => by unfold execOp; simp only [ho]; go_simp) HS.out ?_
  simp only [Act.put, List.setIfInBounds_toArray, List.set_cons_zero, List.set_cons_succ]
  refine anyH_pureG 10 (d := 76) (op := .move (.tmp 11)) (gd := some (9, true)) (.int .i64 2) (by rfl) (fun o ho => by simp only [Region.wanted, ho]; rfl) (by kernel_rfl) (by kernel_rfl) (by kernel_rfl) (fun _ _ _ h => h) (fun o ho W hW => by unfold execOp; simp only [ho]; go_simp) HS.out ?_
  simp only [Act.put, List.setIfInBounds_toArray, List.set_cons_zero, List.set_cons_succ]
  refine anyH_pureG 11 (d := 77) (op := .binOp .eql 25 (.tmp 76) (.const (.int .i64 2)) 25) (gd := some (9, true)) (.bool true) (by rfl) (fun o ho => by simp only [Region.wanted, ho]; rfl) (by kernel_rfl) (by kernel_rfl) (by kernel_rfl) (fun _ _ _ h => h) (fun o1 ho W hW => by unfold execOp; simp only [ho]; go_simp; try simp) HS.out ?_
  simp only [Act.put, List.setIfInBounds_toArray, List.set_cons_zero, List.set_cons_succ]
  refine anyH_pureG 12 (d := 78) (op := .pick (.tmp 75) (.tmp 77) (.const (.bool false))) (gd := none) (.bool true) (by rfl) (fun o ho => wanted_plain ho _) (by kernel_rfl) (by kernel_rfl) (by kernel_rfl) (fun _ _ _ h => h) (fun o ho W hW => by unfold execOp; simp only [ho]; go_simp) HS.out ?_
  simp only [Act.put, List.setIfInBounds_toArray, List.set_cons_zero, List.set_cons_succ]
  refine anyH_pureG 13 (d := 79) (op := .move (.tmp 78)) (gd := none) (.bool true) (by rfl) (fun o ho => wanted_plain ho _) (by kernel_rfl) (by kernel_rfl) (by kernel_rfl) (fun _ _ _ h => h) (fun o ho W hW => by unfold execOp; simp only [ho]; go_simp) HS.out ?_
  simp only [Act.put, List.setIfInBounds_toArray, List.set_cons_zero, List.set_cons_succ]
  refine anyH_pureG 14 (d := 80) (op := .move (.tmp 13)) (gd := some (13, true)) (.int .i64 2) (by rfl) (fun o ho => by simp only [Region.wanted, ho]; rfl) (by kernel_rfl) (by kernel_rfl) (by kernel_rfl) (fun _ _ _ h => h) (fun o ho W hW => by unfold execOp; simp only [ho]; go_simp) HS.out ?_
  simp only [Act.put, List.setIfInBounds_toArray, List.set_cons_zero, List.set_cons_succ]
  refine anyH_pureG 15 (d := 81) (op := .binOp .eql 25 (.tmp 80) (.const (.int .i64 2)) 25) (gd := some (13, true)) (.bool true) (by rfl) (fun o ho => by simp only [Region.wanted, ho]; rfl) (by kernel_rfl) (by kernel_rfl) (by kernel_rfl) (fun _ _ _ h => h) (fun o1 ho W hW => by unfold execOp; simp only [ho]; go_simp; try simp) HS.out ?_
  simp only [Act.put, List.setIfInBounds_toArray, List.set_cons_zero, List.set_cons_succ]
  refine anyH_pureG 16 (d := 82) (op := .pick (.tmp 79) (.tmp 81) (.const (.bool false))) (gd := none) (.bool true) (by rfl) (fun o ho => wanted_plain ho _) (by kernel_rfl) (by kernel_rfl) (by kernel_rfl) (fun _ _ _ h => h) (fun o ho W hW => by unfold execOp; simp only [ho]; go_simp) HS.out ?_
  simp only [Act.put, List.setIfInBounds_toArray, List.set_cons_zero, List.set_cons_succ]
  refine anyH_pureG 17 (d := 83) (op := .move (.tmp 82)) (gd := none) (.bool true) (by rfl) (fun o ho => wanted_plain ho _) (by kernel_rfl) (by kernel_rfl) (by kernel_rfl) (fun _ _ _ h => h) (fun o ho W hW => by unfold execOp; simp only [ho]; go_simp) HS.out ?_
  simp only [Act.put, List.setIfInBounds_toArray, List.set_cons_zero, List.set_cons_succ]
  refine anyH_pureG 18 (d := 84) (op := .move (.tmp 15)) (gd := some (17, true)) (.int .i64 2) (by rfl) (fun o ho => by simp only [Region.wanted, ho]; rfl) (by kernel_rfl) (by kernel_rfl) (by kernel_rfl) (fun _ _ _ h => h) (fun o ho W hW => by unfold execOp; simp only [ho]; go_simp) HS.out ?_
  simp only [Act.put, List.setIfInBounds_toArray, List.set_cons_zero, List.set_cons_succ]
  refine anyH_pureG 19 (d := 85) (op := .binOp .eql 25 (.tmp 84) (.const (.int .i64 2)) 25) (gd := some (17, true)) (.bool true) (by rfl) (fun o ho => by simp only [Region.wanted, ho]; rfl) (by kernel_rfl) (by kernel_rfl) (by kernel_rfl) (fun _ _ _ h => h) (fun o1 ho W hW => by unfold execOp; simp only [ho]; go_simp; try simp) HS.out ?_
  simp only [Act.put, List.setIfInBounds_toArray, List.set_cons_zero, List.set_cons_succ]
  refine anyH_pureG 20 (d := 86) (op := .pick (.tmp 83) (.tmp 85) (.const (.bool false))) (gd := none) (.bool true) (by rfl) (fun o ho => wanted_plain ho _) (by kernel_rfl) (by kernel_rfl) (by kernel_rfl) (fun _ _ _ h => h) (fun o ho W hW => by unfold execOp; simp only [ho]; go_simp) HS.out ?_
  simp only [Act.put, List.setIfInBounds_toArray, List.set_cons_zero, List.set_cons_succ]
  refine anyH_pureG 21 (d := 87) (op := .move (.tmp 86)) (gd := none) (.bool true) (by rfl) (fun o ho => wanted_plain ho _) (by kernel_rfl) (by kernel_rfl) (by kernel_rfl) (fun _ _ _ h => h) (fun o ho W hW => by unfold execOp; simp only [ho]; go_simp) HS.out ?_
  simp only [Act.put, List.setIfInBounds_toArray, List.set_cons_zero, List.set_cons_succ]
  refine anyH_pureG 22 (d := 88) (op := .move (.tmp 14)) (gd := some (21, true)) (.pointer none) (by rfl) (fun o ho => by simp only [Region.wanted, ho]; rfl) (by kernel_rfl) (by kernel_rfl) (by kernel_rfl) (fun _ _ _ h => h) (fun o ho W hW => by unfold execOp; simp only [ho]; go_simp) HS.out ?_
  simp only [Act.put, List.setIfInBounds_toArray, List.set_cons_zero, List.set_cons_succ]
  refine anyH_pureG 23 (d := 89) (op := .binOp .eql 28 (.tmp 88) (.const (.pointer none)) 28) (gd := some (21, true)) (.bool true) (by rfl) (fun o ho => by simp only [Region.wanted, ho]; rfl) (by kernel_rfl) (by kernel_rfl) (by kernel_rfl) (fun _ _ _ h => h) (fun o1 ho W hW => by unfold execOp; simp only [ho]; go_simp; try simp) HS.out ?_
  simp only [Act.put, List.setIfInBounds_toArray, List.set_cons_zero, List.set_cons_succ]
  refine anyH_pureG 24 (d := 90) (op := .pick (.tmp 87) (.tmp 89) (.const (.bool false))) (gd := none) (.bool true) (by rfl) (fun o ho => wanted_plain ho _) (by kernel_rfl) (by kernel_rfl) (by kernel_rfl) (fun _ _ _ h => h) (fun o ho W hW => by unfold execOp; simp only [ho]; go_simp) HS.out ?_
  simp only [Act.put, List.setIfInBounds_toArray, List.set_cons_zero, List.set_cons_succ]
  refine anyH_pureG 25 (d := 91) (op := .move (.tmp 90)) (gd := none) (.bool true) (by rfl) (fun o ho => wanted_plain ho _) (by kernel_rfl) (by kernel_rfl) (by kernel_rfl) (fun _ _ _ h => h) (fun o ho W hW => by unfold execOp; simp only [ho]; go_simp) HS.out ?_
  simp only [Act.put, List.setIfInBounds_toArray, List.set_cons_zero, List.set_cons_succ]
  refine anyH_pureG 26 (d := 92) (op := .move (.tmp 5)) (gd := some (25, true)) (.pointer none) (by rfl) (fun o ho => by simp only [Region.wanted, ho]; rfl) (by kernel_rfl) (by kernel_rfl) (by kernel_rfl) (fun _ _ _ h => h) (fun o ho W hW => by unfold execOp; simp only [ho]; go_simp) HS.out ?_
  simp only [Act.put, List.setIfInBounds_toArray, List.set_cons_zero, List.set_cons_succ]
  refine anyH_loadG 27 (d := 93) (ty := 36) (x := (.tmp 2)) (gd := some (25, true)) (p := .pointer (some ⟨w.heap.size, 0, none⟩)) (.agg (cellsOf ds).toArray) (by rfl) (fun o ho => by simp only [Region.wanted, ho]; rfl) (by kernel_rfl) (by kernel_rfl) (by kernel_rfl) (fun _ _ _ h => h) (by rfl) HLD.out HS.out ?_
  simp only [Act.put, List.setIfInBounds_toArray, List.set_cons_zero, List.set_cons_succ]
  refine anyH_callG 28 (d := some 94) (f := 13) (xs := #[(.tmp 92), (.tmp 93)]) (ts := #[28, 37]) (gd := some (25, true)) (vs := #[.pointer none, .agg (cellsOf ds).toArray]) (by kernel_rfl) (by rfl) (fun o ho => by simp only [Region.wanted, ho]; rfl) (by go_simp) (by go_simp) (ndelete_c ds _) ?_
  rintro e13 w13 ⟨rfl, hb13⟩
  have HS := Lib.hid (show Brow w13 w.heap.size 36 ds from HS.out.below hb13 HS.out.lt)
  have HBB := Lib.hid (HBB.out.trans (hb13.mono HBB.out.size))
  clear hb13
  refine ⟨_, rfl, HS.out, fun hS => ?_⟩
  clear hS
  simp only [Act.put, List.setIfInBounds_toArray, List.set_cons_zero, List.set_cons_succ]
  refine anyH_pureG 29 (d := 95) (op := .binOp .eql 25 (.tmp 94) (.const (.int .i64 2)) 25) (gd := some (25, true)) (.bool true) (by rfl) (fun o ho => by simp only [Region.wanted, ho]; rfl) (by kernel_rfl) (by kernel_rfl) (by kernel_rfl) (fun _ _ _ h => h) (fun o1 ho W hW => by unfold execOp; simp only [ho]; go_simp; try simp) HS.out ?_
  simp only [Act.put, List.setIfInBounds_toArray, List.set_cons_zero, List.set_cons_succ]
  refine anyH_pureG 30 (d := 96) (op := .pick (.tmp 91) (.tmp 95) (.const (.bool false))) (gd := none) (.bool true) (by rfl) (fun o ho => wanted_plain ho _) (by kernel_rfl) (by kernel_rfl) (by kernel_rfl) (fun _ _ _ h => h) (fun o ho W hW => by unfold execOp; simp only [ho]; go_simp) HS.out ?_
  simp only [Act.put, List.setIfInBounds_toArray, List.set_cons_zero, List.set_cons_succ]
  refine anyH_pureG 31 (d := 97) (op := .move (.tmp 96)) (gd := none) (.bool true) (by rfl) (fun o ho => wanted_plain ho _) (by kernel_rfl) (by kernel_rfl) (by kernel_rfl) (fun _ _ _ h => h) (fun o ho W hW => by unfold execOp; simp only [ho]; go_simp) HS.out ?_
  simp only [Act.put, List.setIfInBounds_toArray, List.set_cons_zero, List.set_cons_succ]
  refine anyH_pureG 32 (d := 98) (op := .move (.tmp 5)) (gd := some (31, true)) (.pointer none) (by rfl) (fun o ho => by simp only [Region.wanted, ho]; rfl) (by kernel_rfl) (by kernel_rfl) (by kernel_rfl) (fun _ _ _ h => h) (fun o ho W hW => by unfold execOp; simp only [ho]; go_simp) HS.out ?_
  simp only [Act.put, List.setIfInBounds_toArray, List.set_cons_zero, List.set_cons_succ]
  refine anyH_loadG 33 (d := 99) (ty := 36) (x := (.tmp 2)) (gd := some (31, true)) (p := .pointer (some ⟨w.heap.size, 0, none⟩)) (.agg (cellsOf ds).toArray) (by rfl) (fun o ho => by simp only [Region.wanted, ho]; rfl) (by kernel_rfl) (by kernel_rfl) (by kernel_rfl) (fun _ _ _ h => h) (by rfl) HLD.out HS.out ?_
  simp only [Act.put, List.setIfInBounds_toArray, List.set_cons_zero, List.set_cons_succ]
  refine anyH_callG 34 (d := some 100) (f := 25) (xs := #[(.tmp 98), (.const (.string { data := #[102] })), (.tmp 99)]) (ts := #[28, 9, 37]) (gd := some (31, true)) (vs := #[.pointer none, (.string { data := #[102] }), .agg (cellsOf ds).toArray]) (by kernel_rfl) (by rfl) (fun o ho => by simp only [Region.wanted, ho]; rfl) (by go_simp) (by go_simp) (nadopt_c _ ds _) ?_
  rintro e14 w14 ⟨rfl, hb14⟩
  have HS := Lib.hid (show Brow w14 w.heap.size 36 ds from HS.out.below hb14 HS.out.lt)
  have HBB := Lib.hid (HBB.out.trans (hb14.mono HBB.out.size))
  clear hb14
  refine ⟨_, rfl, HS.out, fun hS => ?_⟩
  clear hS
  simp only [Act.put, List.setIfInBounds_toArray, List.set_cons_zero, List.set_cons_succ]
  refine anyH_pureG 35 (d := 101) (op := .binOp .eql 25 (.tmp 100) (.const (.int .i64 2)) 25) (gd := some (31, true)) (.bool true) (by rfl) (fun o ho => by simp only [Region.wanted, ho]; rfl) (by kernel_rfl) (by kernel_rfl) (by kernel_rfl) (fun _ _ _ h => h) (fun o1 ho W hW => by unfold execOp; simp only [ho]; go_simp; try simp) HS.out ?_
  simp only [Act.put, List.setIfInBounds_toArray, List.set_cons_zero, List.set_cons_succ]
  refine anyH_pureG 36 (d := 102) (op := .pick (.tmp 97) (.tmp 101) (.const (.bool false))) (gd := none) (.bool true) (by rfl) (fun o ho => wanted_plain ho _) (by kernel_rfl) (by kernel_rfl) (by kernel_rfl) (fun _ _ _ h => h) (fun o ho W hW => by unfold execOp; simp only [ho]; go_simp) HS.out ?_
  simp only [Act.put, List.setIfInBounds_toArray, List.set_cons_zero, List.set_cons_succ]
  refine anyH_pureG 37 (d := 103) (op := .move (.tmp 102)) (gd := none) (.bool true) (by rfl) (fun o ho => wanted_plain ho _) (by kernel_rfl) (by kernel_rfl) (by kernel_rfl) (fun _ _ _ h => h) (fun o ho W hW => by unfold execOp; simp only [ho]; go_simp) HS.out ?_
  simp only [Act.put, List.setIfInBounds_toArray, List.set_cons_zero, List.set_cons_succ]
  refine anyH_pureG 38 (d := 104) (op := .move (.tmp 5)) (gd := some (37, true)) (.pointer none) (by rfl) (fun o ho => by simp only [Region.wanted, ho]; rfl) (by kernel_rfl) (by kernel_rfl) (by kernel_rfl) (fun _ _ _ h => h) (fun o ho W hW => by unfold execOp; simp only [ho]; go_simp) HS.out ?_
  simp only [Act.put, List.setIfInBounds_toArray, List.set_cons_zero, List.set_cons_succ]
  refine anyH_loadG 39 (d := 105) (ty := 36) (x := (.tmp 2)) (gd := some (37, true)) (p := .pointer (some ⟨w.heap.size, 0, none⟩)) (.agg (cellsOf ds).toArray) (by rfl) (fun o ho => by simp only [Region.wanted, ho]; rfl) (by kernel_rfl) (by kernel_rfl) (by kernel_rfl) (fun _ _ _ h => h) (by rfl) HLD.out HS.out ?_
  simp only [Act.put, List.setIfInBounds_toArray, List.set_cons_zero, List.set_cons_succ]
  refine anyH_callG 40 (d := some 106) (f := 19) (xs := #[(.tmp 104), (.tmp 105)]) (ts := #[28, 37]) (gd := some (37, true)) (vs := #[.pointer none, .agg (cellsOf ds).toArray]) (by kernel_rfl) (by rfl) (fun o ho => by simp only [Region.wanted, ho]; rfl) (by go_simp) (by go_simp) (nwhole_c ds _) ?_
  rintro e15 w15 ⟨rfl, hb15⟩
  have HS := Lib.hid (show Brow w15 w.heap.size 36 ds from HS.out.below hb15 HS.out.lt)
  have HBB := Lib.hid (HBB.out.trans (hb15.mono HBB.out.size))
  clear hb15
  refine ⟨_, rfl, HS.out, fun hS => ?_⟩
  clear hS
  simp only [Act.put, List.setIfInBounds_toArray, List.set_cons_zero, List.set_cons_succ]
  refine anyH_pureG 41 (d := 107) (op := .unOp .not 4 (.tmp 106)) (gd := some (37, true)) (.bool true) (by rfl) (fun o ho => by simp only [Region.wanted, ho]; rfl) (by kernel_rfl) (by kernel_rfl) (by kernel_rfl) (fun _ _ _ h => h) (fun o ho W hW => by unfold execOp; simp only [ho]; go_simp) HS.out ?_
  simp only [Act.put, List.setIfInBounds_toArray, List.set_cons_zero, List.set_cons_succ]
  refine anyH_pureG 42 (d := 108) (op := .pick (.tmp 103) (.tmp 107) (.const (.bool false))) (gd := none) (.bool true) (by rfl) (fun o ho => wanted_plain ho _) (by kernel_rfl) (by kernel_rfl) (by kernel_rfl) (fun _ _ _ h => h) (fun o ho W hW => by unfold execOp; simp only [ho]; go_simp) HS.out ?_
  simp only [Act.put, List.setIfInBounds_toArray, List.set_cons_zero, List.set_cons_succ]
  refine anyH_pureG 43 (d := 109) (op := .move (.tmp 108)) (gd := none) (.bool true) (by rfl) (fun o ho => wanted_plain ho _) (by kernel_rfl) (by kernel_rfl) (by kernel_rfl) (fun _ _ _ h => h) (fun o ho W hW => by unfold execOp; simp only [ho]; go_simp) HS.out ?_
  simp only [Act.put, List.setIfInBounds_toArray, List.set_cons_zero, List.set_cons_succ]
  refine anyH_pureG 44 (d := 110) (op := .move (.tmp 21)) (gd := some (43, true)) (.int .i64 8) (by rfl) (fun o ho => by simp only [Region.wanted, ho]; rfl) (by kernel_rfl) (by kernel_rfl) (by kernel_rfl) (fun _ _ _ h => h) (fun o ho W hW => by unfold execOp; simp only [ho]; go_simp) HS.out ?_
  simp only [Act.put, List.setIfInBounds_toArray, List.set_cons_zero, List.set_cons_succ]
  refine anyH_pureG 45 (d := 111) (op := .binOp .eql 25 (.tmp 110) (.const (.int .i64 8)) 25) (gd := some (43, true)) (.bool true) (by rfl) (fun o ho => by simp only [Region.wanted, ho]; rfl) (by kernel_rfl) (by kernel_rfl) (by kernel_rfl) (fun _ _ _ h => h) (fun o1 ho W hW => by unfold execOp; simp only [ho]; go_simp; try simp) HS.out ?_
  simp only [Act.put, List.setIfInBounds_toArray, List.set_cons_zero, List.set_cons_succ]
  refine anyH_pureG 46 (d := 112) (op := .pick (.tmp 109) (.tmp 111) (.const (.bool false))) (gd := none) (.bool true) (by rfl) (fun o ho => wanted_plain ho _) (by kernel_rfl) (by kernel_rfl) (by kernel_rfl) (fun _ _ _ h => h) (fun o ho W hW => by unfold execOp; simp only [ho]; go_simp) HS.out ?_
  simp only [Act.put, List.setIfInBounds_toArray, List.set_cons_zero, List.set_cons_succ]
  refine anyH_pureG 47 (d := 113) (op := .move (.tmp 112)) (gd := none) (.bool true) (by rfl) (fun o ho => wanted_plain ho _) (by kernel_rfl) (by kernel_rfl) (by kernel_rfl) (fun _ _ _ h => h) (fun o ho W hW => by unfold execOp; simp only [ho]; go_simp) HS.out ?_
  simp only [Act.put, List.setIfInBounds_toArray, List.set_cons_zero, List.set_cons_succ]
  refine anyH_loadG 48 (d := 114) (ty := 36) (x := (.tmp 2)) (gd := some (47, true)) (p := .pointer (some ⟨w.heap.size, 0, none⟩)) (.agg (cellsOf ds).toArray) (by rfl) (fun o ho => by simp only [Region.wanted, ho]; rfl) (by kernel_rfl) (by kernel_rfl) (by kernel_rfl) (fun _ _ _ h => h) (by rfl) HLD.out HS.out ?_
  simp only [Act.put, List.setIfInBounds_toArray, List.set_cons_zero, List.set_cons_succ]
  refine anyH_loadG 50 (d := 116) (ty := 36) (x := (.tmp 2)) (gd := some (47, true)) (p := .pointer (some ⟨w.heap.size, 0, none⟩)) (.agg (cellsOf ds).toArray) (by rfl) (fun o ho => by simp only [Region.wanted, ho]; rfl) (by kernel_rfl) (by kernel_rfl) (by kernel_rfl) (fun _ _ _ h => h) (by rfl) HLD.out HS.out ?_
  simp only [Act.put, List.setIfInBounds_toArray, List.set_cons_zero, List.set_cons_succ]
  refine anyH_callG 49 (d := some 115) (f := 28) (xs := #[(.tmp 114)]) (ts := #[37]) (gd := some (47, true)) (vs := #[.agg (cellsOf ds).toArray]) (by kernel_rfl) (by rfl) (fun o ho => by simp only [Region.wanted, ho]; rfl) (by go_simp) (by go_simp) (file_c ds _ HD32.out) ?_
  rintro e16 w16 ⟨rfl, hb16⟩
  have HS := Lib.hid (show Brow w16 w.heap.size 36 ds from HS.out.below hb16 HS.out.lt)
  have HBB := Lib.hid (HBB.out.trans (hb16.mono HBB.out.size))
  clear hb16
  refine ⟨_, rfl, HS.out, fun hS => ?_⟩
  clear hS
  simp only [Act.put, List.setIfInBounds_toArray, List.set_cons_zero, List.set_cons_succ]
  refine anyH_callG 51 (d := some 117) (f := 29) (xs := #[(.tmp 116)]) (ts := #[36]) (gd := some (47, true)) (vs := #[.agg (cellsOf ds).toArray]) (by kernel_rfl) (by rfl) (fun o ho => by simp only [Region.wanted, ho]; rfl) (by go_simp) (by go_simp) (rfile_c ds _ HD32.out) ?_
  rintro e17 w17 ⟨rfl, hb17⟩
  have HS := Lib.hid (show Brow w17 w.heap.size 36 ds from HS.out.below hb17 HS.out.lt)
  have HBB := Lib.hid (HBB.out.trans (hb17.mono HBB.out.size))
  clear hb17
  refine ⟨_, rfl, HS.out, fun hS => ?_⟩
  clear hS
  simp only [Act.put, List.setIfInBounds_toArray, List.set_cons_zero, List.set_cons_succ]
  refine anyH_pureG 52 (d := 118) (op := .binOp .eql 9 (.tmp 115) (.tmp 117) 9) (gd := some (47, true)) (.bool true) (by rfl) (fun o ho => by simp only [Region.wanted, ho]; rfl) (by kernel_rfl) (by kernel_rfl) (by kernel_rfl) (fun _ _ _ h => h) (fun o1 ho W hW => by unfold execOp; simp only [ho]; go_simp; try simp) HS.out ?_
  simp only [Act.put, List.setIfInBounds_toArray, List.set_cons_zero, List.set_cons_succ]
  refine anyH_pureG 53 (d := 119) (op := .pick (.tmp 113) (.tmp 118) (.const (.bool false))) (gd := none) (.bool true) (by rfl) (fun o ho => wanted_plain ho _) (by kernel_rfl) (by kernel_rfl) (by kernel_rfl) (fun _ _ _ h => h) (fun o ho W hW => by unfold execOp; simp only [ho]; go_simp) HS.out ?_
  simp only [Act.put, List.setIfInBounds_toArray, List.set_cons_zero, List.set_cons_succ]
  refine anyH_pureG 54 (d := 4) (op := .assign (.tmp 119)) (gd := none) (.bool true) (by rfl) (fun o ho => wanted_plain ho _) (by kernel_rfl) (by kernel_rfl) (by kernel_rfl) (fun _ _ _ h => h) (fun o ho W hW => by unfold execOp; simp only [ho]; go_simp) HS.out ?_
  simp only [Act.put, List.setIfInBounds_toArray, List.set_cons_zero, List.set_cons_succ]
  refine wpAnyH_done (by kernel_rfl) ?_ _
  clear HS HLD
  go_wp2_with fail
  go_ret
  exact ⟨rfl, HBB.out⟩
end Go.Proofs.YtcjlbonflecbkaaDoor
