/-
  A store checks a file: where there is none, or no power. A store checks a file that is there. A store checks a file; Whole.
-/
import Derived.Test.YtmomdfmilelilaaDoorBie
import Derived.BigQuiet
namespace Go.Proofs.YtmomdfmilelilaaDoor
open Go.RowKit
set_option linter.unusedVariables false
set_option maxRecDepth 100000 in
set_option maxHeartbeats 8000000 in
theorem check_down {X : Nat → Prop} {B d N sb : Nat} {A : Ad} {w : World} (h : Bs X B d sb N A w) (ht : Tab w) (ds : List Nat) (hd : D32 ds) (nm : ByteArray) (hnm : nm.size ≤ maxLen) (hdn : A.down = true) :
    Calls Tryd.prog 34 #[.pointer (some ⟨sb, 0, none⟩), .string nm, .agg (cellsOf ds).toArray] w fun e w' => e = .returned (.int .i64 5) ∧ Below w.heap.size w w' := by
  obtain ⟨X0, hX0⟩ : ∃ X0, X0 = w.heap.size := ⟨_, rfl⟩
  obtain ⟨w1, hw1⟩ : ∃ w1, w1 = w.alloc (.cells (cellsOf ds).toArray 37) := ⟨_, rfl⟩
  have q1 : Below w.heap.size w w1 := by rw [hw1]; exact (Below.refl _ _).alloc (Nat.le_refl _) _
  have hbr : Brow w1 X0 37 ds := by rw [hw1, hX0]; exact heap_new _ _
  have hsb := h.dx.lt sb h.sx
  have hcs := (q1.cell (p := ⟨sb, 0, none⟩) hsb).trans h.st
  have HSS := Lib.hid (show S1 sb d X0 ds w1 from ⟨hcs, hbr, Nat.lt_of_lt_of_le hsb q1.size⟩)
  have HQ := Lib.hid q1
  obtain ⟨S, k1, k2, _⟩ := (h.dx.below q1).ex
  have hrd := aread k1 k2 nm hnm 0 67108864
  unfold RdA at hrd
  rw [hdn] at hrd
  simp only [if_true] at hrd
  have HRD := Lib.hid hrd
  clear h hd hbr q1 hsb k1 k2 hrd
  go_enter Tryd.func34, Tryd.ntmps34
  go_upto_region 1 with fail
  rw [← hX0]
  rw [← hw1]
  clear hX0 hw1
  go_wp2_with fail
  refine HRD.out.mono ?_
  rintro e2 w2 ⟨rfl, rfl⟩
  clear HRD HSS
  go_wp2_with fail
  go_quiet (fail)
  go_wp2_with fail
  go_ret
  exact ⟨rfl, HQ.out.trans (below_drewN' _ _ _)⟩
set_option maxRecDepth 100000 in
set_option maxHeartbeats 8000000 in
theorem check_none {X : Nat → Prop} {B d N sb : Nat} {A : Ad} {w : World} (h : Bs X B d sb N A w) (ht : Tab w) (ds : List Nat) (hd : D32 ds) (nm : ByteArray) (hnm : nm.size ≤ maxLen) (hdn : A.down = false) (hlk : lookF A.now nm = none) :
    Calls Tryd.prog 34 #[.pointer (some ⟨sb, 0, none⟩), .string nm, .agg (cellsOf ds).toArray] w fun e w' => e = .returned (.int .i64 6) ∧ Below w.heap.size w w' := by
  obtain ⟨X0, hX0⟩ : ∃ X0, X0 = w.heap.size := ⟨_, rfl⟩
  obtain ⟨w1, hw1⟩ : ∃ w1, w1 = w.alloc (.cells (cellsOf ds).toArray 37) := ⟨_, rfl⟩
  have q1 : Below w.heap.size w w1 := by rw [hw1]; exact (Below.refl _ _).alloc (Nat.le_refl _) _
  have hbr : Brow w1 X0 37 ds := by rw [hw1, hX0]; exact heap_new _ _
  have hsb := h.dx.lt sb h.sx
  have hcs := (q1.cell (p := ⟨sb, 0, none⟩) hsb).trans h.st
  have HSS := Lib.hid (show S1 sb d X0 ds w1 from ⟨hcs, hbr, Nat.lt_of_lt_of_le hsb q1.size⟩)
  have HQ := Lib.hid q1
  obtain ⟨S, k1, k2, _⟩ := (h.dx.below q1).ex
  have hrd := aread k1 k2 nm hnm 0 67108864
  unfold RdA at hrd
  rw [hdn, hlk] at hrd
  simp only [Bool.false_eq_true, if_false] at hrd
  have HRD := Lib.hid hrd
  clear h hd hbr q1 hsb k1 k2 hrd
  go_enter Tryd.func34, Tryd.ntmps34
  go_upto_region 1 with fail
  rw [← hX0]
  rw [← hw1]
  clear hX0 hw1
  go_wp2_with fail
  refine HRD.out.mono ?_
  rintro e2 w2 ⟨rfl, rfl⟩
  clear HRD HSS
  go_wp2_with fail
  go_quiet (fail)
  go_wp2_with fail
  go_ret
  exact ⟨rfl, HQ.out.trans (below_drewN' _ _ _)⟩
end Go.Proofs.YtmomdfmilelilaaDoor
namespace Go.Proofs.YtmomdfmilelilaaDoor
open Go.RowKit
set_option linter.unusedVariables false
set_option maxRecDepth 100000 in
set_option maxHeartbeats 8000000 in
theorem check_some {X : Nat → Prop} {B d N sb : Nat} {A : Ad} {w : World} (h : Bs X B d sb N A w) (ht : Tab w) (ds : List Nat) (hd : D32 ds) (nm : ByteArray) (hnm : nm.size ≤ maxLen) (hdn : A.down = false) {z : List Nat} (hlk : lookF A.now nm = some z) :
    Calls Tryd.prog 34 #[.pointer (some ⟨sb, 0, none⟩), .string nm, .agg (cellsOf ds).toArray] w fun e w' => e = .returned (.int .i64 (if Sha.sum z = ds then 0 else 20)) ∧ Below w.heap.size w w' := by
  obtain ⟨X0, hX0⟩ : ∃ X0, X0 = w.heap.size := ⟨_, rfl⟩
  obtain ⟨w1, hw1⟩ : ∃ w1, w1 = w.alloc (.cells (cellsOf ds).toArray 37) := ⟨_, rfl⟩
  have q1 : Below w.heap.size w w1 := by rw [hw1]; exact (Below.refl _ _).alloc (Nat.le_refl _) _
  have hbr : Brow w1 X0 37 ds := by rw [hw1, hX0]; exact heap_new _ _
  have hsb := h.dx.lt sb h.sx
  have hcs := (q1.cell (p := ⟨sb, 0, none⟩) hsb).trans h.st
  have HSS := Lib.hid (show S1 sb d X0 ds w1 from ⟨hcs, hbr, Nat.lt_of_lt_of_le hsb q1.size⟩)
  have HQ := Lib.hid q1
  obtain ⟨S, k1, k2, _⟩ := (h.dx.below q1).ex
  have hrd := aread k1 k2 nm hnm 0 67108864
  unfold RdA at hrd
  rw [hdn, hlk] at hrd
  simp only [Bool.false_eq_true, if_false] at hrd
  obtain ⟨rz, hrz⟩ : ∃ rz : Int, (if Sha.sum z = ds then (0 : Int) else 20) = rz := ⟨_, rfl⟩
  rw [hrz]
  have HRZ := Lib.hid hrz
  clear hrz
  have hzl : z.length ≤ 67108864 := k2.flen hlk
  simp only [if_neg (show ¬ ((0 : Int) < 0 ∨ (67108864 : Int) < 0) by omega)] at hrd
  rw [show (List.drop (Int.toNat 0) z).take (Int.toNat 67108864) = z from List.take_of_length_le hzl] at hrd
  have HRD := Lib.hid hrd
  have HLD := Lib.hid (show ∀ W, S1 sb d X0 ds W → (Instr.loadAt 37 (.pointer (some ⟨X0, 0, none⟩))).run Tryd.prog W = .ok (.agg (cellsOf ds).toArray) W from fun W hW => run_loadAt_mid W X0 0 37 (cellsOf ds) _ hW.row.range Tryd.underlying37 rfl (by rw [cellsOf_length, hd.1]; exact info_dig))
  have hsl : (Sha.sum z).length = 32 := sum_len z
  have HEQ := Lib.hid (fun W => eq_dig 37 32 Tryd.underlying37 W (Sha.sum z) ds hsl hd.1 (sum_byte z) hd.2)
  obtain ⟨q, hq⟩ : ∃ q, decide (Sha.sum z = ds) = q := ⟨_, rfl⟩
  rw [hq] at HEQ
  have HQQ := Lib.hid hq
  clear hq
  have HGT := Lib.hid (show Tryd.prog.eqGuardType Tryd.prog.depth 37 = false from by kernel_rfl)
  have HT := Lib.hid ht
  have HZL := Lib.hid hzl
  clear h hd hbr q1 hsb k1 k2 hrd hsl ht hzl
  go_enter Tryd.func34, Tryd.ntmps34
  go_upto_region 1 with fail
  rw [← hX0]
  rw [← hw1]
  clear hX0 hw1
  go_wp2_with fail
  refine HRD.out.mono ?_
  rintro e2 w2 ⟨va, vn, vc, rfl, hown, hvn, hz, hb2⟩
  obtain ⟨a', c', hv, hlc, hcm, hr2⟩ := hown.rd hz
  obtain ⟨e1, e2, e3⟩ := Value.slice.inj hv
  subst e1
  subst e2
  subst e3
  have HB2 := Lib.hid (HQ.out.trans (hb2.mono HQ.out.size))
  have HDS := Lib.hid (dsum_c va z.length vc z (World.drew w2) (hr2.drew) hlc hcm (by have := HZL.out; omega) (Tab.below HT.out (HB2.out.trans (below_drewN' _ w2 1)) HT.out.pos))
  have HS2 := Lib.hid (HSS.out.below hb2)
  clear HRD hown hv hr2 hb2 hz hlc hcm HSS hvn
  go_wp2_with fail
  have HS := Lib.hid (show S1 sb d X0 ds (World.drew w2) from HS2.out.drew)
  refine anyH_begin (S := S1 sb d X0 ds) (by kernel_rfl) ?_
  refine anyH_pureG 0 (d := 18) (op := .move (.tmp 8)) (gd := none) (.int .i64 0) (by rfl) (fun o ho => wanted_plain ho _) (by kernel_rfl) (by kernel_rfl) (by kernel_rfl) (fun _ _ _ h => h) (fun o ho W hW => by unfold execOp; simp only [ho]; go_simp) HS.out ?_
  simp only [Act.put, List.setIfInBounds_toArray, List.set_cons_zero, List.set_cons_succ]
  refine anyH_pureG 1 (d := 19) (op := .binOp .eql 25 (.tmp 18) (.const (.int .i64 0)) 25) (gd := none) (.bool true) (by rfl) (fun o ho => wanted_plain ho _) (by kernel_rfl) (by kernel_rfl) (by kernel_rfl) (fun _ _ _ h => h) (fun o1 ho W hW => by unfold execOp; simp only [ho]; go_simp; try simp) HS.out ?_
  simp only [Act.put, List.setIfInBounds_toArray, List.set_cons_zero, List.set_cons_succ]
  refine anyH_pureG 2 (d := 20) (op := .move (.tmp 19)) (gd := none) (.bool true) (by rfl) (fun o ho => wanted_plain ho _) (by kernel_rfl) (by kernel_rfl) (by kernel_rfl) (fun _ _ _ h => h) (fun o ho W hW => by unfold execOp; simp only [ho]; go_simp) HS.out ?_
  simp only [Act.put, List.setIfInBounds_toArray, List.set_cons_zero, List.set_cons_succ]
  refine anyH_pureG 3 (d := 21) (op := .move (.tmp 7)) (gd := some (2, true)) (.slice va z.length vc) (by rfl) (fun o ho => by simp only [Region.wanted, ho]; rfl) (by kernel_rfl) (by kernel_rfl) (by kernel_rfl) (fun _ _ _ h => h) (fun o ho W hW => by unfold execOp; simp only [ho]; go_simp) HS.out ?_
  simp only [Act.put, List.setIfInBounds_toArray, List.set_cons_zero, List.set_cons_succ]
  refine anyH_loadG 5 (d := 23) (ty := 37) (x := (.tmp 5)) (gd := some (2, true)) (p := .pointer (some ⟨X0, 0, none⟩)) (.agg (cellsOf ds).toArray) (by rfl) (fun o ho => by simp only [Region.wanted, ho]; rfl) (by kernel_rfl) (by kernel_rfl) (by kernel_rfl) (fun _ _ _ h => h) (by rfl) HLD.out HS.out ?_
  simp only [Act.put, List.setIfInBounds_toArray, List.set_cons_zero, List.set_cons_succ]
  refine anyH_callG 4 (d := some 22) (f := 7) (xs := #[(.tmp 21)]) (ts := #[33]) (gd := some (2, true)) (vs := #[.slice va z.length vc]) (by kernel_rfl) (by rfl) (fun o ho => by simp only [Region.wanted, ho]; rfl) (by go_simp) (by go_simp) (HDS.out) ?_
  rintro e3 w3 ⟨rfl, hb3⟩
  have HS3 := Lib.hid (HS.out.below hb3)
  have HB3 := Lib.hid hb3
  clear hb3
  refine ⟨_, rfl, HS3.out, fun hS => ?_⟩
  clear hS
  simp only [Act.put, List.setIfInBounds_toArray, List.set_cons_zero, List.set_cons_succ]
  refine anyH_neqB 6 (d := 24) (t := 37) (t' := 37) (x := (.tmp 22)) (y := (.tmp 23)) (gd := some (2, true)) ((cellsOf (Sha.sum z)).toArray) ((cellsOf ds).toArray) q (by rfl) (fun o ho => by simp only [Region.wanted, ho]; rfl) (by kernel_rfl) (by kernel_rfl) (by kernel_rfl) (fun _ _ _ h => h) (by rfl) (by rfl) HGT.out (fun W => HEQ.out W) HS3.out ?_
  simp only [Act.put, List.setIfInBounds_toArray, List.set_cons_zero, List.set_cons_succ]
  refine anyH_pureG 7 (d := 25) (op := .pick (.tmp 20) (.tmp 24) (.const (.bool false))) (gd := none) (.bool (!q)) (by rfl) (fun o ho => wanted_plain ho _) (by kernel_rfl) (by kernel_rfl) (by kernel_rfl) (fun _ _ _ h => h) (fun o ho W hW => by unfold execOp; simp only [ho]; go_simp) HS3.out ?_
  simp only [Act.put, List.setIfInBounds_toArray, List.set_cons_zero, List.set_cons_succ]
  refine wpAnyH_done (by kernel_rfl) ?_ _
  have HE := Lib.hid (show Below w.heap.size w w3 from HB2.out.trans ((below_drewN' _ w2 1).trans (HB3.out.mono (Nat.le_trans HB2.out.size (Nat.le_refl _)))))
  clear HS HS2 HS3 HLD HEQ HGT HDS
  cases q with
  | true =>
    go_wp2_with fail
    go_ret
    refine ⟨?_, HE.out⟩
    rw [← HRZ.out, if_pos (of_decide_eq_true HQQ.out)]
    rfl
  | false =>
    go_wp2_with fail
    go_ret
    refine ⟨?_, HE.out⟩
    rw [← HRZ.out, if_neg (of_decide_eq_false HQQ.out)]
    rfl
end Go.Proofs.YtmomdfmilelilaaDoor
namespace Go.Proofs.YtmomdfmilelilaaDoor
open Go.RowKit
set_option linter.unusedVariables false
theorem check_c {X : Nat → Prop} {B d N sb : Nat} {A : Ad} {w : World} (h : Bs X B d sb N A w) (ht : Tab w) (ds : List Nat) (hd : D32 ds) (nm : ByteArray) (hnm : nm.size ≤ maxLen) :
    Calls Tryd.prog 34 #[.pointer (some ⟨sb, 0, none⟩), .string nm, .agg (cellsOf ds).toArray] w fun e w' => e = .returned (.int .i64 (ckA A nm ds)) ∧ Below w.heap.size w w' := by
  unfold ckA
  cases hdn : A.down with
  | true => exact check_down h ht ds hd nm hnm hdn
  | false =>
    simp only [Bool.false_eq_true, if_false]
    cases hlk : lookF A.now nm with
    | none => exact check_none h ht ds hd nm hnm hdn hlk
    | some z => exact check_some h ht ds hd nm hnm hdn hlk
set_option maxRecDepth 100000 in
set_option maxHeartbeats 8000000 in
theorem bwhole_c {X : Nat → Prop} {B d N sb : Nat} {A : Ad} {w : World} (h : Bs X B d sb N A w) (ds : List Nat) (hd : D32 ds) (ht : Tab w) :
    Calls Tryd.prog 16 #[.pointer (some ⟨sb, 0, none⟩), .agg (cellsOf ds).toArray] w fun e w' => e = .returned (.bool (ckA A (fileB ds) ds == 0)) ∧ Below w.heap.size w w' := by
  obtain ⟨X0, hX0⟩ : ∃ X0, X0 = w.heap.size := ⟨_, rfl⟩
  obtain ⟨w1, hw1⟩ : ∃ w1, w1 = w.alloc (.cells (cellsOf ds).toArray 37) := ⟨_, rfl⟩
  have q1 : Below w.heap.size w w1 := by rw [hw1]; exact (Below.refl _ _).alloc (Nat.le_refl _) _
  have hbr : Brow w1 X0 37 ds := by rw [hw1, hX0]; exact heap_new _ _
  have hsb := h.dx.lt sb h.sx
  have hcs := (q1.cell (p := ⟨sb, 0, none⟩) hsb).trans h.st
  have HLD := Lib.hid (show ∀ W, S1 sb d X0 ds W → (Instr.loadAt 37 (.pointer (some ⟨X0, 0, none⟩))).run Tryd.prog W = .ok (.agg (cellsOf ds).toArray) W from fun W hW => run_loadAt_mid W X0 0 37 (cellsOf ds) _ hW.row.range Tryd.underlying37 rfl (by rw [cellsOf_length, hd.1]; exact info_dig))
  have HL2 := Lib.hid (fun W (hW : S1 sb d X0 ds W) => run_cell_disk W ⟨sb, 0, none⟩ _ hW.cs)
  have HSS := Lib.hid (show S1 sb d X0 ds w1 from ⟨hcs, hbr, Nat.lt_of_lt_of_le hsb q1.size⟩)
  have HH := Lib.hid h
  have HQ := Lib.hid q1
  have HF := Lib.hid (fun W => file_c ds W hd)
  have hfs := fileB_small ds hd
  have HCK := Lib.hid (show ∀ W, Below (World.drew w1).heap.size (World.drew w1) W → Calls Tryd.prog 34 #[.pointer (some ⟨sb, 0, none⟩), .string (fileB ds), .agg (cellsOf ds).toArray] W fun e w' => e = .returned (.int .i64 (ckA A (fileB ds) ds)) ∧ Below W.heap.size W w' from fun W hW => by
    have hbw := (below_drewN' _ w1 1).trans hW
    exact check_c ((h.below q1).below hbw) (Tab.below (Tab.below ht q1 ht.pos) hbw (Nat.lt_of_lt_of_le ht.pos q1.size)) ds hd (fileB ds) hfs)
  clear h hd hcs hbr q1 hsb
  go_enter Tryd.func16, Tryd.ntmps16
  go_upto_region 1 with fail
  rw [← hX0]
  rw [← hw1]
  clear hX0 hw1
  have HS := Lib.hid (show S1 sb d X0 ds (World.drew w1) from HSS.out.drew)
  refine anyH_begin (S := S1 sb d X0 ds) (by kernel_rfl) ?_
  refine anyH_pureG 0 (d := 5) (op := .move (.tmp 0)) (gd := none) (.pointer (some ⟨sb, 0, none⟩)) (by rfl) (fun o ho => wanted_plain ho _) (by kernel_rfl) (by kernel_rfl) (by kernel_rfl) (fun _ _ _ h => h) (fun o ho W hW => by unfold execOp; simp only [ho]; go_simp) HS.out ?_
  simp only [Act.put, List.setIfInBounds_toArray, List.set_cons_zero, List.set_cons_succ]
  refine anyH_pureG 1 (d := 6) (op := .binOp .neq 28 (.tmp 5) (.const (.pointer none)) 28) (gd := none) (.bool true) (by rfl) (fun o ho => wanted_plain ho _) (by kernel_rfl) (by kernel_rfl) (by kernel_rfl) (fun _ _ _ h => h) (fun o1 ho W hW => by unfold execOp; simp only [ho]; go_simp; try simp) HS.out ?_
  simp only [Act.put, List.setIfInBounds_toArray, List.set_cons_zero, List.set_cons_succ]
  refine anyH_pureG 2 (d := 7) (op := .move (.tmp 6)) (gd := none) (.bool true) (by rfl) (fun o ho => wanted_plain ho _) (by kernel_rfl) (by kernel_rfl) (by kernel_rfl) (fun _ _ _ h => h) (fun o ho W hW => by unfold execOp; simp only [ho]; go_simp) HS.out ?_
  simp only [Act.put, List.setIfInBounds_toArray, List.set_cons_zero, List.set_cons_succ]
  refine anyH_pureG 3 (d := 8) (op := .move (.tmp 0)) (gd := some (2, true)) (.pointer (some ⟨sb, 0, none⟩)) (by rfl) (fun o ho => by simp only [Region.wanted, ho]; rfl) (by kernel_rfl) (by kernel_rfl) (by kernel_rfl) (fun _ _ _ h => h) (fun o ho W hW => by unfold execOp; simp only [ho]; go_simp) HS.out ?_
  simp only [Act.put, List.setIfInBounds_toArray, List.set_cons_zero, List.set_cons_succ]
  refine anyH_loadG 4 (d := 9) (ty := 37) (x := (.tmp 3)) (gd := some (2, true)) (p := .pointer (some ⟨X0, 0, none⟩)) (.agg (cellsOf ds).toArray) (by rfl) (fun o ho => by simp only [Region.wanted, ho]; rfl) (by kernel_rfl) (by kernel_rfl) (by kernel_rfl) (fun _ _ _ h => h) (by rfl) HLD.out HS.out ?_
  simp only [Act.put, List.setIfInBounds_toArray, List.set_cons_zero, List.set_cons_succ]
  refine anyH_loadG 6 (d := 11) (ty := 37) (x := (.tmp 3)) (gd := some (2, true)) (p := .pointer (some ⟨X0, 0, none⟩)) (.agg (cellsOf ds).toArray) (by rfl) (fun o ho => by simp only [Region.wanted, ho]; rfl) (by kernel_rfl) (by kernel_rfl) (by kernel_rfl) (fun _ _ _ h => h) (by rfl) HLD.out HS.out ?_
  simp only [Act.put, List.setIfInBounds_toArray, List.set_cons_zero, List.set_cons_succ]
  refine anyH_callG 5 (d := some 10) (f := 25) (xs := #[(.tmp 9)]) (ts := #[37]) (gd := some (2, true)) (vs := #[.agg (cellsOf ds).toArray]) (by kernel_rfl) (by rfl) (fun o ho => by simp only [Region.wanted, ho]; rfl) (by go_simp) (by go_simp) (HF.out _) ?_
  rintro e2 w2 ⟨rfl, hb2⟩
  have HS2 := Lib.hid (HS.out.below hb2)
  have HB2 := Lib.hid hb2
  clear hb2
  refine ⟨_, rfl, HS2.out, fun hS => ?_⟩
  clear hS
  simp only [Act.put, List.setIfInBounds_toArray, List.set_cons_zero, List.set_cons_succ]
  refine anyH_callG 7 (d := some 12) (f := 34) (xs := #[(.tmp 8), (.tmp 10), (.tmp 11)]) (ts := #[28, 9, 37]) (gd := some (2, true)) (vs := #[.pointer (some ⟨sb, 0, none⟩), .string (fileB ds), .agg (cellsOf ds).toArray]) (by kernel_rfl) (by rfl) (fun o ho => by simp only [Region.wanted, ho]; rfl) (by go_simp) (by go_simp) (HCK.out _ HB2.out) ?_
  rintro e3 w3 ⟨rfl, hb3⟩
  have HS3 := Lib.hid (HS2.out.below hb3)
  have HB3 := Lib.hid hb3
  clear hb3
  refine ⟨_, rfl, HS3.out, fun hS => ?_⟩
  clear hS
  simp only [Act.put, List.setIfInBounds_toArray, List.set_cons_zero, List.set_cons_succ]
  refine anyH_pureG 8 (d := 13) (op := .binOp .eql 25 (.tmp 12) (.const (.int .i64 0)) 25) (gd := some (2, true)) (.bool (ckA A (fileB ds) ds == 0)) (by rfl) (fun o ho => by simp only [Region.wanted, ho]; rfl) (by kernel_rfl) (by kernel_rfl) (by kernel_rfl) (fun _ _ _ h => h) (fun o ho W hW => by unfold execOp; simp only [ho]; go_simp) HS3.out ?_
  simp only [Act.put, List.setIfInBounds_toArray, List.set_cons_zero, List.set_cons_succ]
  refine anyH_pureG 9 (d := 14) (op := .pick (.tmp 7) (.tmp 13) (.const (.bool false))) (gd := none) (.bool (ckA A (fileB ds) ds == 0)) (by rfl) (fun o ho => wanted_plain ho _) (by kernel_rfl) (by kernel_rfl) (by kernel_rfl) (fun _ _ _ h => h) (fun o ho W hW => by unfold execOp; simp only [ho]; go_simp) HS3.out ?_
  simp only [Act.put, List.setIfInBounds_toArray, List.set_cons_zero, List.set_cons_succ]
  refine anyH_pureG 10 (d := 4) (op := .assign (.tmp 14)) (gd := none) (.bool (ckA A (fileB ds) ds == 0)) (by rfl) (fun o ho => wanted_plain ho _) (by kernel_rfl) (by kernel_rfl) (by kernel_rfl) (fun _ _ _ h => h) (fun o ho W hW => by unfold execOp; simp only [ho]; go_simp) HS3.out ?_
  simp only [Act.put, List.setIfInBounds_toArray, List.set_cons_zero, List.set_cons_succ]
  refine wpAnyH_done (by kernel_rfl) ?_ _
  have HE := Lib.hid (show Below w.heap.size w w3 from (HQ.out.trans ((below_drewN' _ w1 1).trans (HB2.out.mono HQ.out.size))).trans (HB3.out.mono (Nat.le_trans HQ.out.size (show w1.heap.size ≤ _ from HB2.out.size))))
  clear HS HS2 HS3 HLD HL2 HF HCK HSS
  go_wp2_with fail
  go_ret
  exact ⟨rfl, HE.out⟩
end Go.Proofs.YtmomdfmilelilaaDoor
