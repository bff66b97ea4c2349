/-
  A store: Adopt.
-/
import Derived.Test.YtcjlbonflecbkaaDoorBih
namespace Go.Proofs.YtcjlbonflecbkaaDoor
open Go.RowKit
set_option linter.unusedVariables false
/-- what Adopt's steps read -/
structure E4 (b3 sb d b4 b8 : Nat) (nm fl : ByteArray) (W : World) : Prop where
  c3 : W.cell? ⟨b3, 0, none⟩ = some (.pointer (some ⟨sb, 0, none⟩))
  cs : W.cell? ⟨sb, 0, none⟩ = some (.pointer (some ⟨d, 0, none⟩))
  c4 : W.cell? ⟨b4, 0, none⟩ = some (.string nm)
  c8 : W.cell? ⟨b8, 0, none⟩ = some (.string fl)
theorem E4.kp {X : Nat → Prop} {b3 sb d b4 b8 : Nat} {nm fl : ByteArray} {W W' : World} (h : E4 b3 sb d b4 b8 nm fl W) (hk : KpD X W W') (h3 : X b3) (hs : X sb) (h4 : X b4) (h8 : X b8) : E4 b3 sb d b4 b8 nm fl W' :=
  ⟨(World.cell?_of_block (hk b3 h3)).trans h.c3, (World.cell?_of_block (hk sb hs)).trans h.cs, (World.cell?_of_block (hk b4 h4)).trans h.c4, (World.cell?_of_block (hk b8 h8)).trans h.c8⟩
theorem E4.below {b3 sb d b4 b8 B : Nat} {nm fl : ByteArray} {W W' : World} (h : E4 b3 sb d b4 b8 nm fl W) (hb : Below B W W') (hl : b3 < B ∧ sb < B ∧ b4 < B ∧ b8 < B) : E4 b3 sb d b4 b8 nm fl W' :=
  ⟨(hb.cell (p := ⟨b3, 0, none⟩) hl.1).trans h.c3, (hb.cell (p := ⟨sb, 0, none⟩) hl.2.1).trans h.cs, (hb.cell (p := ⟨b4, 0, none⟩) hl.2.2.1).trans h.c4, (hb.cell (p := ⟨b8, 0, none⟩) hl.2.2.2).trans h.c8⟩
/-- a file is adopted -/
def Ad.adopt (A : Ad) (nm : ByteArray) (ds : List Nat) : Ad × Int :=
  if ckA A nm ds ≠ 0 then (A, ckA A nm ds) else if (szA A (fileB ds)).2 = 0 ∧ nm ≠ fileB ds then runA [fun A => A.step ⟨2, nm, ⟨#[]⟩, []⟩, Ad.sync] A else runA [fun A => A.step ⟨3, nm, fileB ds, []⟩, Ad.sync] A
set_option maxRecDepth 100000 in
set_option maxHeartbeats 8000000 in
theorem wadopt1_c {X : Nat → Prop} {B d N sb b3 b4 b8 : Nat} {A : Ad} {W : World} (h : Dx X B d N A W) (hN : N < 1000000000) (nm : ByteArray) (hnm : nm.size ≤ maxLen) (fl : ByteArray) (hfl : fl.size ≤ maxLen) (he : E4 b3 sb d b4 b8 nm fl W) (hx3 : X b3) (hxs : X sb) (hx4 : X b4) (hx8 : X b8) :
    Calls Tryd.prog 52 #[.pointer (some ⟨b3, 0, none⟩), .pointer (some ⟨b4, 0, none⟩), .pointer (some ⟨b8, 0, none⟩)] W (DxR X B d (N + 3) W (A.step ⟨3, nm, fl, []⟩)) := by
  have h3d : Below B W (World.drew W) := below_drewN' _ W 1
  have hd := h.below (w' := World.drew W) (below_drewN' _ W 1)
  have HC := Lib.hid (hd.rename nm fl hnm hfl hN)
  have HEN := Lib.hid he
  unfold DxR at HC
  obtain ⟨x, hx⟩ : ∃ x, (A.step ⟨3, nm, fl, []⟩).2 = x := ⟨_, rfl⟩
  rw [hx] at HC
  have HX := Lib.hid hx
  have HBD := Lib.hid h3d
  clear h hd hnm hfl he hx h3d
  go_enter Tryd.func52, Tryd.ntmps52
  go_upto_region 1 with fail
  have HS := Lib.hid (show E4 b3 sb d b4 b8 nm fl (World.drew W) from ⟨HEN.out.c3, HEN.out.cs, HEN.out.c4, HEN.out.c8⟩)
  have HL1 := Lib.hid (fun W (hW : E4 b3 sb d b4 b8 nm fl W) => run_cell_st W ⟨b3, 0, none⟩ _ hW.c3)
  have HL2 := Lib.hid (fun W (hW : E4 b3 sb d b4 b8 nm fl W) => run_cell_disk W ⟨sb, 0, none⟩ _ hW.cs)
  have HL3 := Lib.hid (fun W (hW : E4 b3 sb d b4 b8 nm fl W) => run_cell_s W ⟨b4, 0, none⟩ nm hW.c4)
  have HL4 := Lib.hid (fun W (hW : E4 b3 sb d b4 b8 nm fl W) => run_cell_s W ⟨b8, 0, none⟩ fl hW.c8)
  have h3d := HBD.out
  refine anyH_begin (S := E4 b3 sb d b4 b8 nm fl) (by kernel_rfl) ?_
  refine anyH_loadG 0 (d := 4) (ty := 28) (x := (.tmp 0)) (gd := none) (p := .pointer (some ⟨b3, 0, none⟩)) (.pointer (some ⟨sb, 0, none⟩)) (by rfl) (fun o ho => wanted_plain ho _) (by kernel_rfl) (by kernel_rfl) (by kernel_rfl) (fun _ _ _ h => h) (by rfl) HL1.out HS.out ?_
  simp only [Act.put, List.setIfInBounds_toArray, List.set_cons_zero, List.set_cons_succ]
  refine anyH_pureG 1 (d := 5) (op := .nilCheck (.tmp 4)) (gd := none) (.pointer (some ⟨sb, 0, none⟩)) (by rfl) (fun o ho => wanted_plain ho _) (by kernel_rfl) (by kernel_rfl) (by kernel_rfl) (fun _ _ _ h => h) (fun o ho W hW => by unfold execOp; simp only [ho]; go_simp) HS.out ?_
  simp only [Act.put, List.setIfInBounds_toArray, List.set_cons_zero, List.set_cons_succ]
  refine anyH_pureG 2 (d := 6) (op := .fieldAddr 69 (.tmp 5) 0) (gd := none) (.pointer (some ⟨sb, 0, none⟩)) (by rfl) (fun o ho => wanted_plain ho _) (by kernel_rfl) (by kernel_rfl) (by kernel_rfl) (fun _ _ _ h => h) (fun o ho W hW => by unfold execOp; simp only [ho]; go_simp) HS.out ?_
  simp only [Act.put, List.setIfInBounds_toArray, List.set_cons_zero, List.set_cons_succ]
  refine anyH_loadG 3 (d := 7) (ty := 24) (x := (.tmp 6)) (gd := none) (p := .pointer (some ⟨sb, 0, none⟩)) (.pointer (some ⟨d, 0, none⟩)) (by rfl) (fun o ho => wanted_plain ho _) (by kernel_rfl) (by kernel_rfl) (by kernel_rfl) (fun _ _ _ h => h) (by rfl) HL2.out HS.out ?_
  simp only [Act.put, List.setIfInBounds_toArray, List.set_cons_zero, List.set_cons_succ]
  refine anyH_loadG 4 (d := 8) (ty := 9) (x := (.tmp 1)) (gd := none) (p := .pointer (some ⟨b4, 0, none⟩)) (.string nm) (by rfl) (fun o ho => wanted_plain ho _) (by kernel_rfl) (by kernel_rfl) (by kernel_rfl) (fun _ _ _ h => h) (by rfl) HL3.out HS.out ?_
  simp only [Act.put, List.setIfInBounds_toArray, List.set_cons_zero, List.set_cons_succ]
  refine anyH_loadG 5 (d := 9) (ty := 9) (x := (.tmp 2)) (gd := none) (p := .pointer (some ⟨b8, 0, none⟩)) (.string fl) (by rfl) (fun o ho => wanted_plain ho _) (by kernel_rfl) (by kernel_rfl) (by kernel_rfl) (fun _ _ _ h => h) (by rfl) HL4.out HS.out ?_
  simp only [Act.put, List.setIfInBounds_toArray, List.set_cons_zero, List.set_cons_succ]
  refine anyH_callG 6 (d := some 10) (f := 53) (xs := #[(.tmp 7), (.tmp 8), (.tmp 9)]) (ts := #[24, 9, 9]) (gd := none) (vs := #[.pointer (some ⟨d, 0, none⟩), .string nm, .string fl]) (by kernel_rfl) (by rfl) (fun o ho => wanted_plain ho _) (by go_simp) (by go_simp) (HC.out) ?_
  rintro e2 w2 ⟨rfl, h2, h3, h4⟩
  have HE := Lib.hid (show DxR X B d (N + 3) W (A.step ⟨3, nm, fl, []⟩) (.returned (.int .i64 x)) w2 from ⟨by rw [HX.out], h2, h3d.trans h3, fun j hj => (h4 j hj).trans rfl⟩)
  have HS2 := Lib.hid (show E4 b3 sb d b4 b8 nm fl w2 from HS.out.kp h4 hx3 hxs hx4 hx8)
  clear h2 h3 h4
  refine ⟨_, rfl, HS2.out, fun hS => ?_⟩
  clear hS
  simp only [Act.put, List.setIfInBounds_toArray, List.set_cons_zero, List.set_cons_succ]
  refine anyH_pureG 7 (d := 3) (op := .assign (.tmp 10)) (gd := none) (.int .i64 x) (by rfl) (fun o ho => wanted_plain ho _) (by kernel_rfl) (by kernel_rfl) (by kernel_rfl) (fun _ _ _ h => h) (fun o ho W hW => by unfold execOp; simp only [ho]; go_simp) HS2.out ?_
  simp only [Act.put, List.setIfInBounds_toArray, List.set_cons_zero, List.set_cons_succ]
  refine wpAnyH_done (by kernel_rfl) ?_ _
  clear HS HS2 HL1 HL2 HL3 HL4 HC HEN
  go_wp2_with fail
  go_ret
  exact HE.out
set_option maxRecDepth 100000 in
set_option maxHeartbeats 8000000 in
theorem wadopt2_c {X : Nat → Prop} {B d N sb b3 b4 : Nat} {A : Ad} {W : World} (h : Dx X B d N A W) (hN : N < 1000000000) (nm : ByteArray) (hnm : nm.size ≤ maxLen) (he : En b3 sb d b4 (.string nm) W) (hx3 : X b3) (hxs : X sb) (hx4 : X b4) :
    Calls Tryd.prog 54 #[.pointer (some ⟨b3, 0, none⟩), .pointer (some ⟨b4, 0, none⟩)] W (DxR X B d (N + 3) W (A.step ⟨2, nm, ⟨#[]⟩, []⟩)) := by
  have h3d : Below B W (World.drew W) := below_drewN' _ W 1
  have hd := h.below (w' := World.drew W) (below_drewN' _ W 1)
  have HC := Lib.hid (hd.remove nm hnm hN)
  have HEN := Lib.hid he
  unfold DxR at HC
  obtain ⟨x, hx⟩ : ∃ x, (A.step ⟨2, nm, ⟨#[]⟩, []⟩).2 = x := ⟨_, rfl⟩
  rw [hx] at HC
  have HX := Lib.hid hx
  have HBD := Lib.hid h3d
  clear h hd hnm he hx h3d
  go_enter Tryd.func54, Tryd.ntmps54
  go_upto_region 1 with fail
  have HS := Lib.hid (show En b3 sb d b4 (.string nm) (World.drew W) from ⟨HEN.out.c3, HEN.out.cs, HEN.out.c2⟩)
  have HL1 := Lib.hid (fun W (hW : En b3 sb d b4 (.string nm) W) => run_cell_st W ⟨b3, 0, none⟩ _ hW.c3)
  have HL2 := Lib.hid (fun W (hW : En b3 sb d b4 (.string nm) W) => run_cell_disk W ⟨sb, 0, none⟩ _ hW.cs)
  have HL3 := Lib.hid (fun W (hW : En b3 sb d b4 (.string nm) W) => run_cell_s W ⟨b4, 0, none⟩ nm hW.c2)

  have h3d := HBD.out
  refine anyH_begin (S := En b3 sb d b4 (.string nm)) (by kernel_rfl) ?_
  refine anyH_loadG 0 (d := 3) (ty := 28) (x := (.tmp 0)) (gd := none) (p := .pointer (some ⟨b3, 0, none⟩)) (.pointer (some ⟨sb, 0, none⟩)) (by rfl) (fun o ho => wanted_plain ho _) (by kernel_rfl) (by kernel_rfl) (by kernel_rfl) (fun _ _ _ h => h) (by rfl) HL1.out HS.out ?_
  simp only [Act.put, List.setIfInBounds_toArray, List.set_cons_zero, List.set_cons_succ]
  refine anyH_pureG 1 (d := 4) (op := .nilCheck (.tmp 3)) (gd := none) (.pointer (some ⟨sb, 0, none⟩)) (by rfl) (fun o ho => wanted_plain ho _) (by kernel_rfl) (by kernel_rfl) (by kernel_rfl) (fun _ _ _ h => h) (fun o ho W hW => by unfold execOp; simp only [ho]; go_simp) HS.out ?_
  simp only [Act.put, List.setIfInBounds_toArray, List.set_cons_zero, List.set_cons_succ]
  refine anyH_pureG 2 (d := 5) (op := .fieldAddr 69 (.tmp 4) 0) (gd := none) (.pointer (some ⟨sb, 0, none⟩)) (by rfl) (fun o ho => wanted_plain ho _) (by kernel_rfl) (by kernel_rfl) (by kernel_rfl) (fun _ _ _ h => h) (fun o ho W hW => by unfold execOp; simp only [ho]; go_simp) HS.out ?_
  simp only [Act.put, List.setIfInBounds_toArray, List.set_cons_zero, List.set_cons_succ]
  refine anyH_loadG 3 (d := 6) (ty := 24) (x := (.tmp 5)) (gd := none) (p := .pointer (some ⟨sb, 0, none⟩)) (.pointer (some ⟨d, 0, none⟩)) (by rfl) (fun o ho => wanted_plain ho _) (by kernel_rfl) (by kernel_rfl) (by kernel_rfl) (fun _ _ _ h => h) (by rfl) HL2.out HS.out ?_
  simp only [Act.put, List.setIfInBounds_toArray, List.set_cons_zero, List.set_cons_succ]
  refine anyH_loadG 4 (d := 7) (ty := 9) (x := (.tmp 1)) (gd := none) (p := .pointer (some ⟨b4, 0, none⟩)) (.string nm) (by rfl) (fun o ho => wanted_plain ho _) (by kernel_rfl) (by kernel_rfl) (by kernel_rfl) (fun _ _ _ h => h) (by rfl) HL3.out HS.out ?_
  simp only [Act.put, List.setIfInBounds_toArray, List.set_cons_zero, List.set_cons_succ]
  refine anyH_callG 5 (d := some 8) (f := 39) (xs := #[(.tmp 6), (.tmp 7)]) (ts := #[24, 9]) (gd := none) (vs := #[.pointer (some ⟨d, 0, none⟩), .string nm]) (by kernel_rfl) (by rfl) (fun o ho => wanted_plain ho _) (by go_simp) (by go_simp) (HC.out) ?_
  rintro e2 w2 ⟨rfl, h2, h3, h4⟩
  have HE := Lib.hid (show DxR X B d (N + 3) W (A.step ⟨2, nm, ⟨#[]⟩, []⟩) (.returned (.int .i64 x)) w2 from ⟨by rw [HX.out], h2, h3d.trans h3, fun j hj => (h4 j hj).trans rfl⟩)
  have HS2 := Lib.hid (show En b3 sb d b4 (.string nm) w2 from HS.out.kp h4 hx3 hxs hx4)
  clear h2 h3 h4
  refine ⟨_, rfl, HS2.out, fun hS => ?_⟩
  clear hS
  simp only [Act.put, List.setIfInBounds_toArray, List.set_cons_zero, List.set_cons_succ]
  refine anyH_pureG 6 (d := 2) (op := .assign (.tmp 8)) (gd := none) (.int .i64 x) (by rfl) (fun o ho => wanted_plain ho _) (by kernel_rfl) (by kernel_rfl) (by kernel_rfl) (fun _ _ _ h => h) (fun o ho W hW => by unfold execOp; simp only [ho]; go_simp) HS2.out ?_
  simp only [Act.put, List.setIfInBounds_toArray, List.set_cons_zero, List.set_cons_succ]
  refine wpAnyH_done (by kernel_rfl) ?_ _
  clear HS HS2 HL1 HL2 HL3 HC HEN
  go_wp2_with fail
  go_ret
  exact HE.out
/-- what Adopt leaves -/
def AdR (X : Nat → Prop) (B d sb N : Nat) (w : World) (r : Ad × Int) (e : Ending) (w' : World) : Prop := e = .returned (.int .i64 r.2) ∧ Bs X B d sb N r.1 w' ∧ Below B w w' ∧ KpD X w w'
set_option maxRecDepth 100000 in
set_option maxHeartbeats 8000000 in
theorem badopt_c {X : Nat → Prop} {B d N sb : Nat} {A : Ad} {w : World} (h : Bs X B d sb N A w) (ht : Tab w) (hN : N < 10000000) (hB0 : 0 < B) (nm : ByteArray) (hnm : nm.size ≤ maxLen) (ds : List Nat) (hd : D32 ds) :
    Calls Tryd.prog 25 #[.pointer (some ⟨sb, 0, none⟩), .string nm, .agg (cellsOf ds).toArray] w (AdR X B d sb (N + 6) w (A.adopt nm ds)) := by
  obtain ⟨b3, hb3⟩ : ∃ b3, b3 = w.heap.size := ⟨_, rfl⟩
  obtain ⟨w1, hw1⟩ : ∃ w1, w1 = w.alloc (.cells #[.pointer (some ⟨sb, 0, none⟩)] 28) := ⟨_, rfl⟩
  obtain ⟨b4, hb4⟩ : ∃ b4, b4 = w1.heap.size := ⟨_, rfl⟩
  obtain ⟨w2, hw2⟩ : ∃ w2, w2 = w1.alloc (.cells #[.string nm] 9) := ⟨_, rfl⟩
  obtain ⟨b5, hb5⟩ : ∃ b5, b5 = w2.heap.size := ⟨_, rfl⟩
  obtain ⟨w3, hw3⟩ : ∃ w3, w3 = w2.alloc (.cells (cellsOf ds).toArray 37) := ⟨_, rfl⟩
  have z1 : w1.heap.size = b3 + 1 := by rw [hw1, hb3]; simp
  have z2 : w2.heap.size = b4 + 1 := by rw [hw2, hb4]; simp
  have z3 : w3.heap.size = b5 + 1 := by rw [hw3, hb5]; simp
  have q1 : Below w.heap.size w w1 := by rw [hw1]; exact (Below.refl _ _).alloc (Nat.le_refl _) _
  have q2 : Below w1.heap.size w1 w2 := by rw [hw2]; exact (Below.refl _ _).alloc (Nat.le_refl _) _
  have q3 : Below w2.heap.size w2 w3 := by rw [hw3]; exact (Below.refl _ _).alloc (Nat.le_refl _) _
  have r23 : Below w1.heap.size w1 w3 := q2.trans (q3.mono q2.size)
  have r13 : Below w.heap.size w w3 := q1.trans (r23.mono q1.size)
  have k3 : w3.cell? ⟨b3, 0, none⟩ = some (.pointer (some ⟨sb, 0, none⟩)) := (r23.cell (p := ⟨b3, 0, none⟩) (by show b3 < _; omega)).trans (by rw [hw1, hb3]; exact cell_of_row _ _ 0 _ _ _ (heap_alloc_new w _))
  have k4 : w3.cell? ⟨b4, 0, none⟩ = some (.string nm) := (q3.cell (p := ⟨b4, 0, none⟩) (by show b4 < _; omega)).trans (by rw [hw2, hb4]; exact cell_of_row _ _ 0 _ _ _ (heap_alloc_new w1 _))
  have k5 : Brow w3 b5 37 ds := by rw [hw3, hb5]; exact heap_new _ _
  have hsl := h.dx.lt sb h.sx
  have ks : w3.cell? ⟨sb, 0, none⟩ = some (.pointer (some ⟨d, 0, none⟩)) := (r13.cell (p := ⟨sb, 0, none⟩) hsl).trans h.st
  have hBw : B ≤ w.heap.size := Nat.le_of_lt (Nat.lt_of_le_of_lt h.dx.base.1 h.dx.base.2)
  have hfl := fileB_small ds hd
  have HCK := Lib.hid (check_c (h.below r13) (Tab.below ht r13 ht.pos) ds hd nm hnm)
  have HF := Lib.hid (fun W => file_c ds W hd)
  have HI32D := Lib.hid (show (Tryd.prog.info? 37).map (·.size) = some (cellsOf ds).toArray.size from by rw [cellsOf_size, hd.1]; exact info_dig)
  have HX5 := Lib.hid k5
  have HR := Lib.hid r13
  have HH := Lib.hid h
  have HK := Lib.hid (And.intro k3 (And.intro ks k4))
  have HZ := Lib.hid (show b3 < w3.heap.size ∧ sb < w3.heap.size ∧ b4 < w3.heap.size ∧ b5 < w3.heap.size ∧ w.heap.size ≤ b3 ∧ w.heap.size ≤ b4 from by omega)
  have HXS := Lib.hid h.sx
  have HAD := Lib.hid (show A.adopt nm ds = if ckA A nm ds ≠ 0 then (A, ckA A nm ds) else if (szA A (fileB ds)).2 = 0 ∧ nm ≠ fileB ds then runA [fun A => A.step ⟨2, nm, ⟨#[]⟩, []⟩, Ad.sync] A else runA [fun A => A.step ⟨3, nm, fileB ds, []⟩, Ad.sync] A from rfl)
  obtain ⟨fl, hfe⟩ : ∃ fl, fl = fileB ds := ⟨_, rfl⟩
  rw [← hfe] at hfl HAD HF
  obtain ⟨ck, hck⟩ : ∃ ck, ckA A nm ds = ck := ⟨_, rfl⟩
  rw [hck] at HCK HAD
  obtain ⟨r, hr⟩ : ∃ r, A.adopt nm ds = r := ⟨_, rfl⟩
  rw [hr] at HAD ⊢
  have HNE0 := Lib.hid hfe
  have e4 : b3 + 1 = b4 := by omega
  have e5 : b4 + 1 = b5 := by omega
  have hmf : ∀ (fn : Fn) (first cap : Array Value) (w : World), (Instr.makeFunc fn first cap).run Tryd.prog w = .ok (.func fn first cap) w := fun _ _ _ _ => rfl
  have i3 := k3
  have i4 := k4
  clear h ht hd z1 z2 z3 q1 q2 q3 r23 r13 k3 k4 k5 hsl ks hck hr hfe hb4 hb5
  go_enter Tryd.func25, Tryd.ntmps25
  go_upto_region 1 with fail
  rw [← hb3, ← hw1, e4, e5, ← hw2, ← hw3]
  clear hw1 hw2 hw3 hb3 e4 e5
  go_wp2_with (first | (refine wpList_load_row (by rfl) 37 _ (by rfl) b5 (by rfl) _ (cellsOf ds).toArray (0, 0) _ HX5.out Tryd.underlying37 (by rfl) HI32D.out ?_))
  refine HCK.out.mono ?_
  rintro e4 w4 ⟨rfl, hb4⟩
  have hr4 := HR.out.trans (hb4.mono HR.out.size)
  have HX54 := Lib.hid (HX5.out.below hb4 HX5.out.lt)
  have HB4 := Lib.hid hb4
  have HR4 := Lib.hid hr4
  clear hb4 hr4 HCK i3 i4
  by_cases hc : ck = 0
  · subst hc
    have HADR := Lib.hid (show r = if (szA A fl).2 = 0 ∧ nm ≠ fl then runA [fun A => A.step ⟨2, nm, ⟨#[]⟩, []⟩, Ad.sync] A else runA [fun A => A.step ⟨3, nm, fl, []⟩, Ad.sync] A from by rw [HAD.out]; exact if_neg (fun h => h rfl))
    clear HAD
    go_wp2_with (first | (refine wpList_load_row (by rfl) 37 _ (by rfl) b5 (by rfl) _ (cellsOf ds).toArray (0, 0) _ HX54.out Tryd.underlying37 (by rfl) HI32D.out ?_))
    refine (HF.out w4).mono ?_
    rintro e6 w6 ⟨rfl, hb6⟩
    obtain ⟨b8, hb8⟩ : ∃ b8, b8 = w6.heap.size := ⟨_, rfl⟩
    obtain ⟨w7, hw7⟩ : ∃ w7, w7 = w6.alloc (.cells #[.string fl] 9) := ⟨_, rfl⟩
    have q7 : Below w6.heap.size w6 w7 := by rw [hw7]; exact (Below.refl _ _).alloc (Nat.le_refl _) _
    have k8 : w7.cell? ⟨b8, 0, none⟩ = some (.string fl) := by rw [hw7, hb8]; exact cell_of_row _ _ 0 _ _ _ (heap_alloc_new w6 _)
    have hz7 : w7.heap.size = b8 + 1 := by rw [hw7, hb8]; simp
    have r37 : Below w3.heap.size w3 w7 := HB4.out.trans ((hb6.trans (q7.mono hb6.size)).mono HB4.out.size)
    have HS7 := Lib.hid (show E4 b3 sb d b4 b8 nm fl (World.drew w7) from ⟨(r37.cell (p := ⟨b3, 0, none⟩) HZ.out.1).trans HK.out.1, (r37.cell (p := ⟨sb, 0, none⟩) HZ.out.2.1).trans HK.out.2.1, (r37.cell (p := ⟨b4, 0, none⟩) HZ.out.2.2.1).trans HK.out.2.2, k8⟩)
    have hr7 : Below w.heap.size w w7 := HR.out.trans (r37.mono HR.out.size)
    have hlz : w3.heap.size ≤ b8 := by rw [hb8]; exact Nat.le_trans HB4.out.size hb6.size
    have HD7 := Lib.hid (show Dx (fun j => X j ∨ j = b3 ∨ j = b4 ∨ j = b8) B d N A (World.drew w7) from HH.out.dx.belowY (w' := World.drew w7) (hr7.trans (below_drewN' _ w7 1)) (fun j hj => by
      have := HZ.out
      rcases hj with hj | hj | hj | hj
      · exact .inl hj
      · exact .inr (by omega)
      · exact .inr (by omega)
      · exact .inr (by have := HR.out.size; omega)) (fun j hj => by
      have := HZ.out
      show j < w7.heap.size
      rcases hj with hj | hj | hj | hj
      · exact Nat.lt_of_lt_of_le (HH.out.dx.lt j hj) hr7.size
      · omega
      · omega
      · omega))
    have HLS := Lib.hid (show b3 < (World.drew w7).heap.size ∧ sb < (World.drew w7).heap.size ∧ b4 < (World.drew w7).heap.size ∧ b8 < (World.drew w7).heap.size from by
      have := HZ.out
      show b3 < w7.heap.size ∧ sb < w7.heap.size ∧ b4 < w7.heap.size ∧ b8 < w7.heap.size
      omega)
    obtain ⟨n, er, hne⟩ : ∃ n er, szA A fl = (n, er) := ⟨_, _, rfl⟩
    have HSZ := Lib.hid (show Calls Tryd.prog 36 #[.pointer (some ⟨d, 0, none⟩), .string fl] (World.drew w7) fun e w' => e = .returned (.tuple #[.int .i64 n, .int .i64 er]) ∧ w' = World.drew w7 from by
      obtain ⟨S, k1, k2, _⟩ := HD7.out.ex
      refine (asize k1 k2 fl hfl).mono ?_
      intro e w' hz
      have := szA_of hz
      rw [hne] at this
      exact this)
    have HADE := Lib.hid (show r = if er = 0 ∧ nm ≠ fl then runA [fun A => A.step ⟨2, nm, ⟨#[]⟩, []⟩, Ad.sync] A else runA [fun A => A.step ⟨3, nm, fl, []⟩, Ad.sync] A from by rw [HADR.out, hne])
    have HFIN := Lib.hid (show ∀ (w9 w' : World) (r : Ad × Int), Below (World.drew w7).heap.size (World.drew w7) w9 → Dx X B d (N + 3 * 2) r.1 w' → Below B w9 w' → KpD X w9 w' → AdR X B d sb (N + 6) w r (.returned (.int .i64 r.2)) w' from fun w9 w' r g1 g2 g3 g4 => by
      have hr9 : Below w.heap.size w w9 := hr7.trans ((below_drewN' _ w7 1).trans (g1.mono (show w.heap.size ≤ w7.heap.size from hr7.size)))
      have hb9 := HH.out.below hr9
      exact ⟨rfl, ⟨g2, HH.out.sx, (World.cell?_of_block (g4 sb HH.out.sx)).trans hb9.st⟩, (hr9.mono hBw).trans g3, fun j hj => (g4 j hj).trans (hr9.block j (HH.out.dx.lt j hj))⟩)
    clear hb6 q7 k8 hz7 r37 hr7 hlz hne HADR HF HX54
    go_wp2_with fail
    rw [← hb8, ← hw7]
    clear hb8 hw7
    have HS := HS7
    have HL1 := Lib.hid (fun W (hW : E4 b3 sb d b4 b8 nm fl W) => run_cell_st W ⟨b3, 0, none⟩ _ hW.c3)
    have HL2 := Lib.hid (fun W (hW : E4 b3 sb d b4 b8 nm fl W) => run_cell_disk W ⟨sb, 0, none⟩ _ hW.cs)
    have HL4 := Lib.hid (fun W (hW : E4 b3 sb d b4 b8 nm fl W) => run_cell_s W ⟨b8, 0, none⟩ fl hW.c8)
    refine anyH_begin (S := E4 b3 sb d b4 b8 nm fl) (by kernel_rfl) ?_
    refine anyH_loadG 0 (d := 25) (ty := 28) (x := (.tmp 3)) (gd := none) (p := .pointer (some ⟨b3, 0, none⟩)) (.pointer (some ⟨sb, 0, none⟩)) (by rfl) (fun o ho => wanted_plain ho _) (by kernel_rfl) (by kernel_rfl) (by kernel_rfl) (fun _ _ _ h => h) (by rfl) HL1.out HS.out ?_
    simp only [Act.put, List.setIfInBounds_toArray, List.set_cons_zero, List.set_cons_succ]
    refine anyH_pureG 1 (d := 26) (op := .nilCheck (.tmp 25)) (gd := none) (.pointer (some ⟨sb, 0, none⟩)) (by rfl) (fun o ho => wanted_plain ho _) (by kernel_rfl) (by kernel_rfl) (by kernel_rfl) (fun _ _ _ h => h) (fun o ho W hW => by unfold execOp; simp only [ho]; go_simp) HS.out ?_
    simp only [Act.put, List.setIfInBounds_toArray, List.set_cons_zero, List.set_cons_succ]
    refine anyH_pureG 2 (d := 27) (op := .fieldAddr 69 (.tmp 26) 0) (gd := none) (.pointer (some ⟨sb, 0, none⟩)) (by rfl) (fun o ho => wanted_plain ho _) (by kernel_rfl) (by kernel_rfl) (by kernel_rfl) (fun _ _ _ h => h) (fun o ho W hW => by unfold execOp; simp only [ho]; go_simp) HS.out ?_
    simp only [Act.put, List.setIfInBounds_toArray, List.set_cons_zero, List.set_cons_succ]
    refine anyH_loadG 3 (d := 28) (ty := 24) (x := (.tmp 27)) (gd := none) (p := .pointer (some ⟨sb, 0, none⟩)) (.pointer (some ⟨d, 0, none⟩)) (by rfl) (fun o ho => wanted_plain ho _) (by kernel_rfl) (by kernel_rfl) (by kernel_rfl) (fun _ _ _ h => h) (by rfl) HL2.out HS.out ?_
    simp only [Act.put, List.setIfInBounds_toArray, List.set_cons_zero, List.set_cons_succ]
    refine anyH_loadG 4 (d := 29) (ty := 9) (x := (.tmp 8)) (gd := none) (p := .pointer (some ⟨b8, 0, none⟩)) (.string fl) (by rfl) (fun o ho => wanted_plain ho _) (by kernel_rfl) (by kernel_rfl) (by kernel_rfl) (fun _ _ _ h => h) (by rfl) HL4.out HS.out ?_
    simp only [Act.put, List.setIfInBounds_toArray, List.set_cons_zero, List.set_cons_succ]
    refine anyH_callG 5 (d := some 30) (f := 36) (xs := #[(.tmp 28), (.tmp 29)]) (ts := #[24, 9]) (gd := none) (vs := #[.pointer (some ⟨d, 0, none⟩), .string fl]) (by kernel_rfl) (by rfl) (fun o ho => wanted_plain ho _) (by go_simp) (by go_simp) (HSZ.out) ?_
    rintro e8 w8 ⟨rfl, hw8⟩
    have HS8 := Lib.hid (show E4 b3 sb d b4 b8 nm fl w8 from by rw [hw8]; exact HS.out)
    have HW8 := Lib.hid hw8
    clear hw8
    refine ⟨_, rfl, HS8.out, fun hS => ?_⟩
    clear hS
    simp only [Act.put, List.setIfInBounds_toArray, List.set_cons_zero, List.set_cons_succ]
    refine anyH_pureG 6 (d := 24) (op := .move (.tmp 30)) (gd := none) (.tuple #[.int .i64 n, .int .i64 er]) (by rfl) (fun o ho => wanted_plain ho _) (by kernel_rfl) (by kernel_rfl) (by kernel_rfl) (fun _ _ _ h => h) (fun o ho W hW => by unfold execOp; simp only [ho]; go_simp) HS8.out ?_
    simp only [Act.put, List.setIfInBounds_toArray, List.set_cons_zero, List.set_cons_succ]
    refine anyH_pureG 7 (d := 31) (op := .extract (.tmp 24) 0) (gd := none) (.int .i64 n) (by rfl) (fun o ho => wanted_plain ho _) (by kernel_rfl) (by kernel_rfl) (by kernel_rfl) (fun _ _ _ h => h) (fun o ho W hW => by unfold execOp; simp only [ho]; go_simp) HS8.out ?_
    simp only [Act.put, List.setIfInBounds_toArray, List.set_cons_zero, List.set_cons_succ]
    refine anyH_pureG 8 (d := 32) (op := .extract (.tmp 24) 1) (gd := none) (.int .i64 er) (by rfl) (fun o ho => wanted_plain ho _) (by kernel_rfl) (by kernel_rfl) (by kernel_rfl) (fun _ _ _ h => h) (fun o ho W hW => by unfold execOp; simp only [ho]; go_simp) HS8.out ?_
    simp only [Act.put, List.setIfInBounds_toArray, List.set_cons_zero, List.set_cons_succ]
    refine anyH_pureG 9 (d := 10) (op := .assign (.tmp 31)) (gd := none) (.int .i64 n) (by rfl) (fun o ho => wanted_plain ho _) (by kernel_rfl) (by kernel_rfl) (by kernel_rfl) (fun _ _ _ h => h) (fun o ho W hW => by unfold execOp; simp only [ho]; go_simp) HS8.out ?_
    simp only [Act.put, List.setIfInBounds_toArray, List.set_cons_zero, List.set_cons_succ]
    refine anyH_pureG 10 (d := 11) (op := .assign (.tmp 32)) (gd := none) (.int .i64 er) (by rfl) (fun o ho => wanted_plain ho _) (by kernel_rfl) (by kernel_rfl) (by kernel_rfl) (fun _ _ _ h => h) (fun o ho W hW => by unfold execOp; simp only [ho]; go_simp) HS8.out ?_
    simp only [Act.put, List.setIfInBounds_toArray, List.set_cons_zero, List.set_cons_succ]
    refine wpAnyH_done (by kernel_rfl) ?_ _
    obtain rfl : w8 = World.drew w7 := HW8.out
    have HD8 := HD7
    clear HS HL1 HL2 HL4 HSZ HW8 HS7 HD7
    obtain ⟨w8, hw8⟩ : ∃ w8, w8 = World.drew w7 := ⟨_, rfl⟩
    rw [← hw8] at HS8 HD8 HLS HFIN ⊢
    clear hw8
    have hs8 := HS8.out
    have s3 : w8.cell? ⟨b3, 0, none⟩ = some (.pointer (some ⟨sb, 0, none⟩)) := hs8.c3
    have s4 : w8.cell? ⟨b4, 0, none⟩ = some (.string nm) := hs8.c4
    have s8 : w8.cell? ⟨b8, 0, none⟩ = some (.string fl) := hs8.c8
    clear hs8
    by_cases h0 : er = 0
    · subst h0
      by_cases hnf : nm = fl
      · have hq : (nm.toList == fl.toList) = true := by rw [hnf]; simp
        have HRR := Lib.hid (show r = runA [fun A => A.step ⟨3, nm, fl, []⟩, Ad.sync] A from by rw [HADE.out]; exact if_neg (fun h => h.2 hnf))
        clear HADE hnf
        obtain ⟨b9, hb9⟩ : ∃ b9, b9 = w8.heap.size := ⟨_, rfl⟩
        obtain ⟨w9, hw9⟩ : ∃ w9, w9 = w8.alloc (.cells #[.func (.func 52) #[] #[.pointer (some ⟨b3, 0, none⟩), .pointer (some ⟨b4, 0, none⟩), .pointer (some ⟨b8, 0, none⟩)], .func (.func 32) #[.pointer (some ⟨d, 0, none⟩)] #[]] 101) := ⟨_, rfl⟩
        have q9 : Below w8.heap.size w8 w9 := by rw [hw9]; exact (Below.refl _ _).alloc (Nat.le_refl _) _
        have z9 : w9.heap.size = b9 + 1 := by rw [hw9, hb9]; simp
        have k9 : w9.heap[b9]? = some (.cells #[.func (.func 52) #[] #[.pointer (some ⟨b3, 0, none⟩), .pointer (some ⟨b4, 0, none⟩), .pointer (some ⟨b8, 0, none⟩)], .func (.func 32) #[.pointer (some ⟨d, 0, none⟩)] #[]] 101 (0, 0)) := by rw [hw9, hb9]; exact heap_alloc_new _ _
        have hs8 := HS8.out
        have hs9 : E4 b3 sb d b4 b8 nm fl w9 := hs8.below q9 HLS.out
        obtain ⟨X9, hX9⟩ : ∃ X9 : Nat → Prop, X9 = fun j => (X j ∨ j = b3 ∨ j = b4 ∨ j = b8) ∨ j = b9 := ⟨_, rfl⟩
        have hd9 : Dx X9 B d N A w9 := HD8.out.belowY q9 (fun j hj => by rw [hX9] at hj; exact hj.imp id fun e => by omega) (fun j hj => by
          rw [hX9] at hj
          rcases hj with hj | hj
          · exact Nat.lt_of_lt_of_le (HD8.out.lt j hj) q9.size
          · omega)
        have x3 : X9 b3 := by rw [hX9]; exact .inl (.inr (.inl rfl))
        have x4 : X9 b4 := by rw [hX9]; exact .inl (.inr (.inr (.inl rfl)))
        have x8 : X9 b8 := by rw [hX9]; exact .inl (.inr (.inr (.inr rfl)))
        have xs : X9 sb := by rw [hX9]; exact .inl (.inl HXS.out)
        have x9 : X9 b9 := by rw [hX9]; exact .inr rfl
        have hIN := inorder_ad hd9 b9 2 (fun i => match i with | 0 => ⟨52, #[], #[.pointer (some ⟨b3, 0, none⟩), .pointer (some ⟨b4, 0, none⟩), .pointer (some ⟨b8, 0, none⟩)]⟩ | _ => ⟨32, #[.pointer (some ⟨d, 0, none⟩)], #[]⟩) [fun A => A.step ⟨3, nm, fl, []⟩, Ad.sync] rfl (by omega) x9 (fun i hi => by
            rw [cell_of_row w9 b9 i _ _ _ k9]
            match i, hi with
            | 0, _ => rfl
            | 1, _ => rfl) (fun i hi => by
            match i, hi with
            | 0, _ => exact enters_of Tryd.func52 (by kernel_rfl) rfl
            | 1, _ => exact enters_of Tryd.func32 (by kernel_rfl) rfl) (fun i f hf A1 W g1 g2 g3 => by
            have hi : i < 2 := (List.getElem?_eq_some_iff.1 hf).1
            match i, hi, hf with
            | 0, _, hf => cases hf; exact wadopt1_c g1 (by omega) nm hnm fl hfl (hs9.kp g3 x3 xs x4 x8) x3 xs x4 x8
            | 1, _, hf => cases hf; exact g1.sync)
        subst hX9
        have HIN := Lib.hid hIN
        have HQ9 := Lib.hid q9
        have s3 : w8.cell? ⟨b3, 0, none⟩ = some (.pointer (some ⟨sb, 0, none⟩)) := hs8.c3
        have ss : w8.cell? ⟨sb, 0, none⟩ = some (.pointer (some ⟨d, 0, none⟩)) := hs8.cs
        have s4 : w8.cell? ⟨b4, 0, none⟩ = some (.string nm) := hs8.c4
        have s8 : w8.cell? ⟨b8, 0, none⟩ = some (.string fl) := hs8.c8
        clear hIN q9 z9 k9 hs8 hs9 hd9 x3 x4 x8 xs x9
        go_wp2_with fail
        rw [← hb9, ← hw9]
        clear hb9 hw9 s3 ss s4 s8
        refine HIN.out.mono ?_
        rintro e w' ⟨rfl, k1, k2, k3⟩
        have HE := Lib.hid (HFIN.out w9 w' _ HQ9.out (k1.less fun j hj => .inl (.inl hj)) k2 (k3.less fun j hj => .inl (.inl hj)))
        clear k1 k2 k3 HIN HQ9
        go_wp2_with fail
        go_ret
        rw [HRR.out]
        exact HE.out
      · have hq : (nm.toList == fl.toList) = false := beq_eq_false_iff_ne.2 (fun h => hnf (by
          apply ByteArray.ext
          apply Array.ext'
          rw [← Lib.toList_data, ← Lib.toList_data]
          exact h))
        have HRR := Lib.hid (show r = runA [fun A => A.step ⟨2, nm, ⟨#[]⟩, []⟩, Ad.sync] A from by rw [HADE.out]; exact if_pos ⟨rfl, hnf⟩)
        clear HADE hnf
        obtain ⟨b9, hb9⟩ : ∃ b9, b9 = w8.heap.size := ⟨_, rfl⟩
        obtain ⟨w9, hw9⟩ : ∃ w9, w9 = w8.alloc (.cells #[.func (.func 54) #[] #[.pointer (some ⟨b3, 0, none⟩), .pointer (some ⟨b4, 0, none⟩)], .func (.func 32) #[.pointer (some ⟨d, 0, none⟩)] #[]] 101) := ⟨_, rfl⟩
        have q9 : Below w8.heap.size w8 w9 := by rw [hw9]; exact (Below.refl _ _).alloc (Nat.le_refl _) _
        have z9 : w9.heap.size = b9 + 1 := by rw [hw9, hb9]; simp
        have k9 : w9.heap[b9]? = some (.cells #[.func (.func 54) #[] #[.pointer (some ⟨b3, 0, none⟩), .pointer (some ⟨b4, 0, none⟩)], .func (.func 32) #[.pointer (some ⟨d, 0, none⟩)] #[]] 101 (0, 0)) := by rw [hw9, hb9]; exact heap_alloc_new _ _
        have hs8 := HS8.out
        have hs9 : E4 b3 sb d b4 b8 nm fl w9 := hs8.below q9 HLS.out
        obtain ⟨X9, hX9⟩ : ∃ X9 : Nat → Prop, X9 = fun j => (X j ∨ j = b3 ∨ j = b4 ∨ j = b8) ∨ j = b9 := ⟨_, rfl⟩
        have hd9 : Dx X9 B d N A w9 := HD8.out.belowY q9 (fun j hj => by rw [hX9] at hj; exact hj.imp id fun e => by omega) (fun j hj => by
          rw [hX9] at hj
          rcases hj with hj | hj
          · exact Nat.lt_of_lt_of_le (HD8.out.lt j hj) q9.size
          · omega)
        have x3 : X9 b3 := by rw [hX9]; exact .inl (.inr (.inl rfl))
        have x4 : X9 b4 := by rw [hX9]; exact .inl (.inr (.inr (.inl rfl)))
        have x8 : X9 b8 := by rw [hX9]; exact .inl (.inr (.inr (.inr rfl)))
        have xs : X9 sb := by rw [hX9]; exact .inl (.inl HXS.out)
        have x9 : X9 b9 := by rw [hX9]; exact .inr rfl
        have hIN := inorder_ad hd9 b9 2 (fun i => match i with | 0 => ⟨54, #[], #[.pointer (some ⟨b3, 0, none⟩), .pointer (some ⟨b4, 0, none⟩)]⟩ | _ => ⟨32, #[.pointer (some ⟨d, 0, none⟩)], #[]⟩) [fun A => A.step ⟨2, nm, ⟨#[]⟩, []⟩, Ad.sync] rfl (by omega) x9 (fun i hi => by
            rw [cell_of_row w9 b9 i _ _ _ k9]
            match i, hi with
            | 0, _ => rfl
            | 1, _ => rfl) (fun i hi => by
            match i, hi with
            | 0, _ => exact enters_of Tryd.func54 (by kernel_rfl) rfl
            | 1, _ => exact enters_of Tryd.func32 (by kernel_rfl) rfl) (fun i f hf A1 W g1 g2 g3 => by
            have hi : i < 2 := (List.getElem?_eq_some_iff.1 hf).1
            match i, hi, hf with
            | 0, _, hf => cases hf; exact wadopt2_c g1 (by omega) nm hnm ⟨(hs9.kp g3 x3 xs x4 x8).c3, (hs9.kp g3 x3 xs x4 x8).cs, (hs9.kp g3 x3 xs x4 x8).c4⟩ x3 xs x4
            | 1, _, hf => cases hf; exact g1.sync)
        subst hX9
        have HIN := Lib.hid hIN
        have HQ9 := Lib.hid q9
        have s3 : w8.cell? ⟨b3, 0, none⟩ = some (.pointer (some ⟨sb, 0, none⟩)) := hs8.c3
        have ss : w8.cell? ⟨sb, 0, none⟩ = some (.pointer (some ⟨d, 0, none⟩)) := hs8.cs
        have s4 : w8.cell? ⟨b4, 0, none⟩ = some (.string nm) := hs8.c4
        have s8 : w8.cell? ⟨b8, 0, none⟩ = some (.string fl) := hs8.c8
        clear hIN q9 z9 k9 hs8 hs9 hd9 x3 x4 x8 xs x9
        go_wp2_with fail
        rw [← hb9, ← hw9]
        clear hb9 hw9 s3 ss s4 s8
        refine HIN.out.mono ?_
        rintro e w' ⟨rfl, k1, k2, k3⟩
        have HE := Lib.hid (HFIN.out w9 w' _ HQ9.out (k1.less fun j hj => .inl (.inl hj)) k2 (k3.less fun j hj => .inl (.inl hj)))
        clear k1 k2 k3 HIN HQ9
        go_wp2_with fail
        go_ret
        rw [HRR.out]
        exact HE.out
    · have hx0 : (er == 0) = false := by simp [h0]
      have HRR := Lib.hid (show r = runA [fun A => A.step ⟨3, nm, fl, []⟩, Ad.sync] A from by rw [HADE.out]; exact if_neg (fun h => h0 h.1))
      clear HADE h0
      obtain ⟨b9, hb9⟩ : ∃ b9, b9 = w8.heap.size := ⟨_, rfl⟩
      obtain ⟨w9, hw9⟩ : ∃ w9, w9 = w8.alloc (.cells #[.func (.func 52) #[] #[.pointer (some ⟨b3, 0, none⟩), .pointer (some ⟨b4, 0, none⟩), .pointer (some ⟨b8, 0, none⟩)], .func (.func 32) #[.pointer (some ⟨d, 0, none⟩)] #[]] 101) := ⟨_, rfl⟩
      have q9 : Below w8.heap.size w8 w9 := by rw [hw9]; exact (Below.refl _ _).alloc (Nat.le_refl _) _
      have z9 : w9.heap.size = b9 + 1 := by rw [hw9, hb9]; simp
      have k9 : w9.heap[b9]? = some (.cells #[.func (.func 52) #[] #[.pointer (some ⟨b3, 0, none⟩), .pointer (some ⟨b4, 0, none⟩), .pointer (some ⟨b8, 0, none⟩)], .func (.func 32) #[.pointer (some ⟨d, 0, none⟩)] #[]] 101 (0, 0)) := by rw [hw9, hb9]; exact heap_alloc_new _ _
      have hs8 := HS8.out
      have hs9 : E4 b3 sb d b4 b8 nm fl w9 := hs8.below q9 HLS.out
      obtain ⟨X9, hX9⟩ : ∃ X9 : Nat → Prop, X9 = fun j => (X j ∨ j = b3 ∨ j = b4 ∨ j = b8) ∨ j = b9 := ⟨_, rfl⟩
      have hd9 : Dx X9 B d N A w9 := HD8.out.belowY q9 (fun j hj => by rw [hX9] at hj; exact hj.imp id fun e => by omega) (fun j hj => by
        rw [hX9] at hj
        rcases hj with hj | hj
        · exact Nat.lt_of_lt_of_le (HD8.out.lt j hj) q9.size
        · omega)
      have x3 : X9 b3 := by rw [hX9]; exact .inl (.inr (.inl rfl))
      have x4 : X9 b4 := by rw [hX9]; exact .inl (.inr (.inr (.inl rfl)))
      have x8 : X9 b8 := by rw [hX9]; exact .inl (.inr (.inr (.inr rfl)))
      have xs : X9 sb := by rw [hX9]; exact .inl (.inl HXS.out)
      have x9 : X9 b9 := by rw [hX9]; exact .inr rfl
      have hIN := inorder_ad hd9 b9 2 (fun i => match i with | 0 => ⟨52, #[], #[.pointer (some ⟨b3, 0, none⟩), .pointer (some ⟨b4, 0, none⟩), .pointer (some ⟨b8, 0, none⟩)]⟩ | _ => ⟨32, #[.pointer (some ⟨d, 0, none⟩)], #[]⟩) [fun A => A.step ⟨3, nm, fl, []⟩, Ad.sync] rfl (by omega) x9 (fun i hi => by
          rw [cell_of_row w9 b9 i _ _ _ k9]
          match i, hi with
          | 0, _ => rfl
          | 1, _ => rfl) (fun i hi => by
          match i, hi with
          | 0, _ => exact enters_of Tryd.func52 (by kernel_rfl) rfl
          | 1, _ => exact enters_of Tryd.func32 (by kernel_rfl) rfl) (fun i f hf A1 W g1 g2 g3 => by
          have hi : i < 2 := (List.getElem?_eq_some_iff.1 hf).1
          match i, hi, hf with
          | 0, _, hf => cases hf; exact wadopt1_c g1 (by omega) nm hnm fl hfl (hs9.kp g3 x3 xs x4 x8) x3 xs x4 x8
          | 1, _, hf => cases hf; exact g1.sync)
      subst hX9
      have HIN := Lib.hid hIN
      have HQ9 := Lib.hid q9
      have s3 : w8.cell? ⟨b3, 0, none⟩ = some (.pointer (some ⟨sb, 0, none⟩)) := hs8.c3
      have ss : w8.cell? ⟨sb, 0, none⟩ = some (.pointer (some ⟨d, 0, none⟩)) := hs8.cs
      have s4 : w8.cell? ⟨b4, 0, none⟩ = some (.string nm) := hs8.c4
      have s8 : w8.cell? ⟨b8, 0, none⟩ = some (.string fl) := hs8.c8
      clear hIN q9 z9 k9 hs8 hs9 hd9 x3 x4 x8 xs x9
      go_wp2_with fail
      rw [← hb9, ← hw9]
      clear hb9 hw9 s3 ss s4 s8
      refine HIN.out.mono ?_
      rintro e w' ⟨rfl, k1, k2, k3⟩
      have HE := Lib.hid (HFIN.out w9 w' _ HQ9.out (k1.less fun j hj => .inl (.inl hj)) k2 (k3.less fun j hj => .inl (.inl hj)))
      clear k1 k2 k3 HIN HQ9
      go_wp2_with fail
      go_ret
      rw [HRR.out]
      exact HE.out
  · have hx : (ck != 0) = true := by simp [hc]
    have HRR := Lib.hid (show r = (A, ck) from by rw [HAD.out]; exact if_pos hc)
    have HE := Lib.hid (show AdR X B d sb (N + 6) w (A, ck) (.returned (.int .i64 ck)) w4 from by
      have hb := HH.out.below HR4.out
      exact ⟨rfl, ⟨hb.dx.mono (by omega), hb.sx, hb.st⟩, HR4.out.mono hBw, fun j hj => HR4.out.block j (HH.out.dx.lt j hj)⟩)
    clear HAD hc HF HX54
    go_wp2_with fail
    go_ret
    rw [HRR.out]
    exact HE.out
end Go.Proofs.YtcjlbonflecbkaaDoor
