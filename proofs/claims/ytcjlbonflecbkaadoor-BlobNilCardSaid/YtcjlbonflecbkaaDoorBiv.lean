/-
  Calls of a nil store; New on a nil disk; Put of bytes that are too long; the document's File.
-/
import Derived.Test.YtcjlbonflecbkaaDoorBim
import Derived.Test.YtcjlbonflecbkaaDoorHxr
namespace Go.Proofs.YtcjlbonflecbkaaDoor
open Go.RowKit
set_option linter.unusedVariables false
theorem len_a32v : Tryd.prog.arrayLen 36 = 32 := by kernel_rfl
theorem elem_a32v : Tryd.prog.elem 36 = 5 := by kernel_rfl
theorem und_a32v : Tryd.prog.underlying 36 = some (.array (Tryd.prog.arrayLen 36) (Tryd.prog.elem 36)) := by rw [elem_a32v, len_a32v]; exact Tryd.underlying36
theorem run_a32All (W : World) (g o : Nat) : (Instr.sliceAt 36 (.pointer (some ⟨g, o, none⟩)) none none none).run Tryd.prog W = .ok (.slice (some ⟨g, o, none⟩) 32 32) W := by
  rw [run_sliceAt_array_all W _ _ und_a32v, elem_a32v, sizeOf_u8, len_a32v]
  simp [Result.andThen, slicedAt, Addr.add]
set_option maxRecDepth 100000 in
set_option maxHeartbeats 8000000 in
theorem rfile_c (ds : List Nat) (w : World) (hd : D32 ds) : Calls Tryd.prog 29 #[.agg (cellsOf ds).toArray] w fun e w' => e = .returned (.string (fileB ds)) ∧ Below w.heap.size w w' := by
  have HDA := fun W => run_a32All W w.heap.size 0
  have hl := hd.1
  have hb := hd.2
  go_enter Tryd.func29, Tryd.ntmps29
  go_wp2_with fail
  refine gen_calls (F := fun W => Brow W w.heap.size 36 ds ∧ Below w.heap.size w W) ⟨heap_new _ _, (Below.refl _ _).alloc (Nat.le_refl _) _⟩ ?_
  rintro w0 ⟨hd0, hb0⟩
  have hrd := hd0.rd hb
  rw [hl] at hrd
  refine (refHex_c (some ⟨w.heap.size, 0, none⟩) 32 32 ds w0 hrd (by omega)).mono ?_
  rintro e1 w1 ⟨rfl, hb1⟩
  have HB := Lib.hid (hb0.trans (hb1.mono hb0.size))
  clear HDA hd0 hb0 hrd hb1
  have hs : ¬ 9223372036854775807 < 2 + (str (hex ds)).size := by
    have : (str (hex ds)).size = 64 := by
      show ((hex ds).map UInt8.ofNat).toArray.size = 64
      rw [List.size_toArray, List.length_map, hex_len, hl]
    omega
  go_wp2
  go_ret
  exact ⟨rfl, HB.out⟩
set_option maxRecDepth 100000 in
set_option maxHeartbeats 8000000 in
theorem nsize_c (ds : List Nat) (w : World) : Calls Tryd.prog 27 #[.pointer none, .agg (cellsOf ds).toArray] w fun e w' => e = .returned (.tuple #[.int .i64 0, .int .i64 2]) ∧ Below w.heap.size w w' := by
  go_enter Tryd.func27, Tryd.ntmps27
  go_wp2_with fail
  go_ret2
  exact ⟨rfl, by repeat (first | exact Below.refl _ _ | refine Below.alloc ?_ (by first | (simp; done) | (simp; omega)) _)⟩
set_option maxRecDepth 100000 in
set_option maxHeartbeats 8000000 in
theorem nread_c (ds : List Nat) (a b : Int) (w : World) : Calls Tryd.prog 21 #[.pointer none, .agg (cellsOf ds).toArray, .int .i64 a, .int .i64 b] w fun e w' => e = .returned (.tuple #[.slice none 0 0, .int .i64 2]) ∧ Below w.heap.size w w' := by
  go_enter Tryd.func21, Tryd.ntmps21
  go_wp2_with fail
  go_ret2
  exact ⟨rfl, by repeat (first | exact Below.refl _ _ | refine Below.alloc ?_ (by first | (simp; done) | (simp; omega)) _)⟩
set_option maxRecDepth 100000 in
set_option maxHeartbeats 8000000 in
theorem nlist_c (w : World) : Calls Tryd.prog 18 #[.pointer none] w fun e w' => e = .returned (.tuple #[.slice none 0 0, .int .i64 2]) ∧ Below w.heap.size w w' := by
  go_enter Tryd.func18, Tryd.ntmps18
  go_wp2_with fail
  go_ret2
  exact ⟨rfl, by repeat (first | exact Below.refl _ _ | refine Below.alloc ?_ (by first | (simp; done) | (simp; omega)) _)⟩
set_option maxRecDepth 100000 in
set_option maxHeartbeats 8000000 in
theorem ndelete_c (ds : List Nat) (w : World) : Calls Tryd.prog 13 #[.pointer none, .agg (cellsOf ds).toArray] w fun e w' => e = .returned (.int .i64 2) ∧ Below w.heap.size w w' := by
  go_enter Tryd.func13, Tryd.ntmps13
  go_wp2_with fail
  go_ret
  exact ⟨rfl, by repeat (first | exact Below.refl _ _ | refine Below.alloc ?_ (by first | (simp; done) | (simp; omega)) _)⟩
set_option maxRecDepth 100000 in
set_option maxHeartbeats 8000000 in
theorem nadopt_c (nm : ByteArray) (ds : List Nat) (w : World) : Calls Tryd.prog 25 #[.pointer none, .string nm, .agg (cellsOf ds).toArray] w fun e w' => e = .returned (.int .i64 2) ∧ Below w.heap.size w w' := by
  go_enter Tryd.func25, Tryd.ntmps25
  go_wp2_with fail
  go_ret
  exact ⟨rfl, by repeat (first | exact Below.refl _ _ | refine Below.alloc ?_ (by first | (simp; done) | (simp; omega)) _)⟩
set_option maxRecDepth 100000 in
set_option maxHeartbeats 8000000 in
theorem nwhole_c (ds : List Nat) (w : World) : Calls Tryd.prog 19 #[.pointer none, .agg (cellsOf ds).toArray] w fun e w' => e = .returned (.bool false) ∧ Below w.heap.size w w' := by
  go_enter Tryd.func19, Tryd.ntmps19
  go_upto_region 1 with fail
  have HS := Lib.hid trivial
  refine anyH_begin (S := fun _ => True) (by kernel_rfl) ?_
  refine anyH_pureG 0 (d := 5) (op := .move (.tmp 0)) (gd := none) (.pointer none) (by rfl) (fun o ho => wanted_plain ho _) (by kernel_rfl) (by kernel_rfl) (by kernel_rfl) (fun _ _ _ h => h) (fun o ho W hW => by unfold execOp; simp only [ho]; go_simp) HS.out ?_
  simp only [Act.put, List.setIfInBounds_toArray, List.set_cons_zero, List.set_cons_succ]
  refine anyH_pureG 1 (d := 6) (op := .binOp .neq 28 (.tmp 5) (.const (.pointer none)) 28) (gd := none) (.bool false) (by rfl) (fun o ho => wanted_plain ho _) (by kernel_rfl) (by kernel_rfl) (by kernel_rfl) (fun _ _ _ h => h) (fun o ho W hW => by unfold execOp; simp only [ho]; go_simp) HS.out ?_
  simp only [Act.put, List.setIfInBounds_toArray, List.set_cons_zero, List.set_cons_succ]
  refine anyH_pureG 2 (d := 7) (op := .move (.tmp 6)) (gd := none) (.bool false) (by rfl) (fun o ho => wanted_plain ho _) (by kernel_rfl) (by kernel_rfl) (by kernel_rfl) (fun _ _ _ h => h) (fun o ho W hW => by unfold execOp; simp only [ho]; go_simp) HS.out ?_
  simp only [Act.put, List.setIfInBounds_toArray, List.set_cons_zero, List.set_cons_succ]
  refine anyH_skip 3 (d := 8) (op := .move (.tmp 0)) (gd := some (2, true)) (by rfl) (fun o ho => by simp only [Region.wanted, ho]; rfl) (by kernel_rfl) (by kernel_rfl) (by kernel_rfl) (fun _ _ _ h => h) HS.out ?_
  simp only [Act.put, List.setIfInBounds_toArray, List.set_cons_zero, List.set_cons_succ]
  refine anyH_skip 4 (d := 9) (op := .load 37 (.tmp 3)) (gd := some (2, true)) (by rfl) (fun o ho => by simp only [Region.wanted, ho]; rfl) (by kernel_rfl) (by kernel_rfl) (by kernel_rfl) (fun _ _ _ h => h) HS.out ?_
  simp only [Act.put, List.setIfInBounds_toArray, List.set_cons_zero, List.set_cons_succ]
  refine anyH_skip 5 (d := 10) (op := .call { callee := .value (.func 28), args := #[(.tmp 9)], argTypes := #[37] }) (gd := some (2, true)) (by rfl) (fun o ho => by simp only [Region.wanted, ho]; rfl) (by kernel_rfl) (by kernel_rfl) (by kernel_rfl) (fun _ _ _ h => h) HS.out ?_
  simp only [Act.put, List.setIfInBounds_toArray, List.set_cons_zero, List.set_cons_succ]
  refine anyH_skip 6 (d := 11) (op := .load 37 (.tmp 3)) (gd := some (2, true)) (by rfl) (fun o ho => by simp only [Region.wanted, ho]; rfl) (by kernel_rfl) (by kernel_rfl) (by kernel_rfl) (fun _ _ _ h => h) HS.out ?_
  simp only [Act.put, List.setIfInBounds_toArray, List.set_cons_zero, List.set_cons_succ]
  refine anyH_skip 7 (d := 12) (op := .call { callee := .value (.func 45), args := #[(.tmp 8), (.tmp 10), (.tmp 11)], argTypes := #[28, 9, 37] }) (gd := some (2, true)) (by rfl) (fun o ho => by simp only [Region.wanted, ho]; rfl) (by kernel_rfl) (by kernel_rfl) (by kernel_rfl) (fun _ _ _ h => h) HS.out ?_
  simp only [Act.put, List.setIfInBounds_toArray, List.set_cons_zero, List.set_cons_succ]
  refine anyH_skip 8 (d := 13) (op := .binOp .eql 25 (.tmp 12) (.const (.int .i64 0)) 25) (gd := some (2, true)) (by rfl) (fun o ho => by simp only [Region.wanted, ho]; rfl) (by kernel_rfl) (by kernel_rfl) (by kernel_rfl) (fun _ _ _ h => h) HS.out ?_
  simp only [Act.put, List.setIfInBounds_toArray, List.set_cons_zero, List.set_cons_succ]
  refine anyH_pureG 9 (d := 14) (op := .pick (.tmp 7) (.tmp 13) (.const (.bool false))) (gd := none) (.bool false) (by rfl) (fun o ho => wanted_plain ho _) (by kernel_rfl) (by kernel_rfl) (by kernel_rfl) (fun _ _ _ h => h) (fun o ho W hW => by unfold execOp; simp only [ho]; go_simp) HS.out ?_
  simp only [Act.put, List.setIfInBounds_toArray, List.set_cons_zero, List.set_cons_succ]
  refine anyH_pureG 10 (d := 4) (op := .assign (.tmp 14)) (gd := none) (.bool false) (by rfl) (fun o ho => wanted_plain ho _) (by kernel_rfl) (by kernel_rfl) (by kernel_rfl) (fun _ _ _ h => h) (fun o ho W hW => by unfold execOp; simp only [ho]; go_simp) HS.out ?_
  simp only [Act.put, List.setIfInBounds_toArray, List.set_cons_zero, List.set_cons_succ]
  refine wpAnyH_done (by kernel_rfl) ?_ _
  clear HS
  go_wp2_with fail
  go_ret
  exact ⟨rfl, ((Below.refl _ _).alloc (Nat.le_refl _) _).trans (below_drewN' _ _ 1)⟩
set_option maxRecDepth 100000 in
set_option maxHeartbeats 8000000 in
theorem nput_c (pa : Option Addr) (pn pc : Nat) (w : World) : Calls Tryd.prog 11 #[.pointer none, .slice pa pn pc] w fun e w' => e = .returned (.tuple #[.agg (cellsOf zs32).toArray, .int .i64 2]) ∧ Below w.heap.size w w' := by
  have HN := Lib.hid (show ∀ O : Obj, (w.alloc O).heap[w.heap.size]? = some O from fun O => heap_new w O)
  have HI32 := Lib.hid (show (Tryd.prog.info? 37).map (·.size) = some (cellsOf zs32).toArray.size from by rw [cellsOf_size, zs32_len]; exact info_dig)
  go_enter Tryd.func11, Tryd.ntmps11
  go_wp2_with (first | (refine wpList_store_row (by rfl) 37 _ _ (by rfl) w.heap.size (cellsOf zs32).toArray (by rfl) (by rfl) 37 (cellsOf zs32).toArray (by exact HN.out _) HI32.out rfl (cellsOf_all _) ?_))
  refine bodyPost_ret (results_row_tmpB (by rfl) _ _ w.heap.size _ (cellsOf zs32).toArray (0, 0) _ (by rfl) (setRow_heap _ _ _ _ _ _ (HN.out _)) Tryd.underlying37 (by rfl) HI32.out) ?_ ?_
  · rfl
  · exact ⟨rfl, ((Below.refl _ _).alloc (Nat.le_refl _) _).setRow (Nat.le_refl _) _⟩
set_option maxRecDepth 100000 in
set_option maxHeartbeats 8000000 in
theorem lput_c (pa : Option Addr) (pn pc : Nat) {sb : Nat} (hl : 1048576 < (pn : Int)) (w : World) : Calls Tryd.prog 11 #[.pointer (some ⟨sb, 0, none⟩), .slice pa pn pc] w fun e w' => e = .returned (.tuple #[.agg (cellsOf zs32).toArray, .int .i64 8]) ∧ Below w.heap.size w w' := by
  have HN := Lib.hid (show ∀ O : Obj, (w.alloc O).heap[w.heap.size]? = some O from fun O => heap_new w O)
  have HI32 := Lib.hid (show (Tryd.prog.info? 37).map (·.size) = some (cellsOf zs32).toArray.size from by rw [cellsOf_size, zs32_len]; exact info_dig)
  go_enter Tryd.func11, Tryd.ntmps11
  go_wp2_with (first | (refine wpList_store_row (by rfl) 37 _ _ (by rfl) w.heap.size (cellsOf zs32).toArray (by rfl) (by rfl) 37 (cellsOf zs32).toArray (by exact HN.out _) HI32.out rfl (cellsOf_all _) ?_))
  refine bodyPost_ret (results_row_tmpB (by rfl) _ _ w.heap.size _ (cellsOf zs32).toArray (0, 0) _ (by rfl) (setRow_heap _ _ _ _ _ _ (HN.out _)) Tryd.underlying37 (by rfl) HI32.out) ?_ ?_
  · rfl
  · exact ⟨rfl, ((Below.refl _ _).alloc (Nat.le_refl _) _).setRow (Nat.le_refl _) _⟩
set_option maxRecDepth 100000 in
set_option maxHeartbeats 8000000 in
theorem nready_c (w : World) : Calls Tryd.prog 40 #[.pointer none] w fun e w' => e = .returned (.int .i64 2) ∧ w' = w := by
  go_enter Tryd.func40, Tryd.ntmps40
  go_wp2_with fail
  go_ret
  exact ⟨rfl, rfl⟩
set_option maxRecDepth 100000 in
set_option maxHeartbeats 8000000 in
theorem nfind_c (s : ByteArray) (w : World) : Calls Tryd.prog 51 #[.pointer none, .string s] w fun e w' => e = .returned (.tuple #[.pointer none, .int .i64 2]) ∧ w' = w := by
  go_enter Tryd.func51, Tryd.ntmps51
  go_wp2_with fail
  refine (nready_c _).mono ?_
  rintro e1 w1 ⟨rfl, hw1⟩
  subst hw1
  go_wp2_with fail
  go_ret2
  exact ⟨rfl, rfl⟩
set_option maxRecDepth 100000 in
set_option maxHeartbeats 8000000 in
theorem nremove_c (s : ByteArray) (w : World) : Calls Tryd.prog 39 #[.pointer none, .string s] w fun e w' => e = .returned (.int .i64 2) ∧ w' = w := by
  go_enter Tryd.func39, Tryd.ntmps39
  go_wp2_with fail
  refine (nfind_c _ _).mono ?_
  rintro e1 w1 ⟨rfl, hw1⟩
  subst hw1
  go_wp2_with fail
  go_ret
  exact ⟨rfl, rfl⟩
set_option maxRecDepth 100000 in
set_option maxHeartbeats 8000000 in
theorem nspare_c {sb : Nat} (w : World) (hc : w.cell? ⟨sb, 0, none⟩ = some (.pointer none)) : Calls Tryd.prog 31 #[.pointer (some ⟨sb, 0, none⟩)] w fun e w' => e = .returned (.int .i64 2) ∧ w' = w := by
  go_enter Tryd.func31, Tryd.ntmps31
  go_wp2_with fail
  refine (nremove_c _ _).mono ?_
  rintro e1 w1 ⟨rfl, hw1⟩
  subst hw1
  go_wp2_with fail
  go_ret
  exact ⟨rfl, rfl⟩
set_option maxRecDepth 100000 in
set_option maxHeartbeats 8000000 in
theorem nnew_c (w : World) : Calls Tryd.prog 8 #[.pointer none] w fun e w' => e = .returned (.tuple #[.pointer none, .int .i64 2]) ∧ Below w.heap.size w w' := by
  obtain ⟨sb, hsb⟩ : ∃ sb, sb = w.heap.size := ⟨_, rfl⟩
  obtain ⟨w1, hw1⟩ : ∃ w1, w1 = w.alloc (.cells #[.pointer none] 69) := ⟨_, rfl⟩
  obtain ⟨b7, hb7⟩ : ∃ b7, b7 = w1.heap.size := ⟨_, rfl⟩
  obtain ⟨w2, hw2⟩ : ∃ w2, w2 = w1.alloc (.cells #[.func (.func 31) #[.pointer (some ⟨sb, 0, none⟩)] #[], .func (.func 32) #[.pointer none] #[]] 101) := ⟨_, rfl⟩
  have z1 : w1.heap.size = sb + 1 := by rw [hw1, hsb]; simp
  have q1 : Below w.heap.size w w1 := by rw [hw1]; exact (Below.refl _ _).alloc (Nat.le_refl _) _
  have q2 : Below w1.heap.size w1 w2 := by rw [hw2]; exact (Below.refl _ _).alloc (Nat.le_refl _) _
  have r12 : Below w.heap.size w w2 := q1.trans (q2.mono q1.size)
  have ks : w2.cell? ⟨sb, 0, none⟩ = some (.pointer none) := (q2.cell (p := ⟨sb, 0, none⟩) (by show sb < _; omega)).trans (by rw [hw1, hsb]; exact cell_of_row _ _ 0 _ _ _ (heap_alloc_new w _))
  have k7 : w2.heap[b7]? = some (.cells #[.func (.func 31) #[.pointer (some ⟨sb, 0, none⟩)] #[], .func (.func 32) #[.pointer none] #[]] 101 (0, 0)) := by rw [hw2, hb7]; exact heap_alloc_new _ _
  have hIN := inorder_c b7 2 (fun i => match i with | 0 => ⟨31, #[.pointer (some ⟨sb, 0, none⟩)], #[]⟩ | _ => ⟨32, #[.pointer none], #[]⟩) (fun i W => i = 0 ∧ W = w2) (fun x W => x = 2 ∧ W = w2) w2 (by omega) ⟨rfl, rfl⟩ (fun i hi => by
      match i, hi with
      | 0, _ => exact enters_of Tryd.func31 (by kernel_rfl) rfl
      | 1, _ => exact enters_of Tryd.func32 (by kernel_rfl) rfl) (fun i hi W hW => by
      obtain ⟨rfl, rfl⟩ := hW
      rw [cell_of_row W b7 0 _ _ _ k7]
      rfl) (fun i hi W hW => by
      obtain ⟨rfl, rfl⟩ := hW
      refine (nspare_c W ks).mono ?_
      rintro e w' ⟨rfl, hw'⟩
      exact ⟨2, rfl, .inr ⟨by decide, rfl, hw'⟩⟩)
  have HIN := Lib.hid hIN
  have HW := Lib.hid r12
  have e7 : sb + 1 = b7 := by omega
  have hmf : ∀ (fn : Fn) (first cap : Array Value) (w : World), (Instr.makeFunc fn first cap).run Tryd.prog w = .ok (.func fn first cap) w := fun _ _ _ _ => rfl
  clear hIN hb7 z1 q1 q2 r12 ks k7
  go_enter Tryd.func8, Tryd.ntmps8
  go_wp2_with fail
  rw [← hsb, ← hw1, e7, ← hw2]
  clear hw1 hw2 hsb e7 hmf
  refine HIN.out.mono ?_
  rintro e w' ⟨x, rfl, hx⟩
  have hx2 : x = 2 ∧ w' = w2 := by
    rcases hx with ⟨_, h, _⟩ | ⟨_, h⟩
    · cases h
    · exact h
  obtain ⟨rfl, rfl⟩ := hx2
  clear HIN hx
  go_wp2_with fail
  go_ret2
  exact ⟨rfl, HW.out⟩
end Go.Proofs.YtcjlbonflecbkaaDoor
