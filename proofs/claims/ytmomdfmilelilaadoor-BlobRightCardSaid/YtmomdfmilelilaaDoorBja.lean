/-
  A store: Delete.
-/
import Derived.Test.YtmomdfmilelilaaDoorBip
import Derived.Test.YtmomdfmilelilaaDoorBjp
namespace Go.Proofs.YtmomdfmilelilaaDoor
open Go.RowKit
set_option linter.unusedVariables false
/-- what Delete's steps read -/
structure ED (b2 sb d b3 : Nat) (ds : List Nat) (W : World) : Prop where
  c2 : W.cell? ⟨b2, 0, none⟩ = some (.pointer (some ⟨sb, 0, none⟩))
  cs : W.cell? ⟨sb, 0, none⟩ = some (.pointer (some ⟨d, 0, none⟩))
  row : Brow W b3 37 ds
  l2 : b2 < W.heap.size
  ls : sb < W.heap.size
theorem ED.below {b2 sb d b3 : Nat} {ds : List Nat} {W W' : World} (h : ED b2 sb d b3 ds W) (hb : Below W.heap.size W W') : ED b2 sb d b3 ds W' :=
  ⟨(hb.cell (p := ⟨b2, 0, none⟩) h.l2).trans h.c2, (hb.cell (p := ⟨sb, 0, none⟩) h.ls).trans h.cs, h.row.below hb h.row.lt, Nat.lt_of_lt_of_le h.l2 hb.size, Nat.lt_of_lt_of_le h.ls hb.size⟩
theorem ED.kp {X : Nat → Prop} {b2 sb d b3 : Nat} {ds : List Nat} {W W' : World} (h : ED b2 sb d b3 ds W) (hk : KpD X W W') (hz : W.heap.size ≤ W'.heap.size) (h2 : X b2) (hs : X sb) (h3 : X b3) : ED b2 sb d b3 ds W' :=
  ⟨(World.cell?_of_block (hk b2 h2)).trans h.c2, (World.cell?_of_block (hk sb hs)).trans h.cs, (hk b3 h3).trans h.row, Nat.lt_of_lt_of_le h.l2 hz, Nat.lt_of_lt_of_le h.ls hz⟩
set_option maxRecDepth 100000 in
set_option maxHeartbeats 8000000 in
theorem bdel1_c {X : Nat → Prop} {B d N sb b2 b3 : Nat} {A : Ad} {W : World} (h : Dx X B d N A W) (hN : N < 1000000000) (ds : List Nat) (hd : D32 ds) (he : ED b2 sb d b3 ds W) (hx2 : X b2) (hxs : X sb) (hx3 : X b3) :
    Calls Tryd.prog 27 #[.pointer (some ⟨b2, 0, none⟩), .pointer (some ⟨b3, 0, none⟩)] W (DxR X B d (N + 3) W (A.step ⟨2, fileB ds, ⟨#[]⟩, []⟩)) := by
  have h3d : Below B W (World.drew W) := below_drewN' _ W 1
  have hdx := h.below (w' := World.drew W) (below_drewN' _ W 1)
  have hfs := fileB_small ds hd
  have HBD := Lib.hid (And.intro h3d (show B ≤ (World.drew W).heap.size from Nat.le_of_lt (Nat.lt_of_le_of_lt hdx.base.1 hdx.base.2)))
  have HLT := Lib.hid (show ∀ j, X j → j < (World.drew W).heap.size from hdx.lt)
  obtain ⟨x, hx⟩ : ∃ x, (A.step ⟨2, fileB ds, ⟨#[]⟩, []⟩).2 = x := ⟨_, rfl⟩
  have HC := Lib.hid (show ∀ W', Below (World.drew W).heap.size (World.drew W) W' → Calls Tryd.prog 28 #[.pointer (some ⟨d, 0, none⟩), .string (fileB ds)] W' fun e w' => e = .returned (.int .i64 x) ∧ Dx X B d (N + 3) (A.step ⟨2, fileB ds, ⟨#[]⟩, []⟩).1 w' ∧ Below B W' w' ∧ KpD X W' w' from fun W' hW => by
    have := (hdx.below hW).remove (fileB ds) hfs hN
    unfold DxR at this
    rw [hx] at this
    exact this)
  have HF := Lib.hid (fun W => file_c ds W hd)
  have HX := Lib.hid hx
  have HS0 := Lib.hid (show ED b2 sb d b3 ds (World.drew W) from he.below (below_drewN' _ W 1))
  have HI := Lib.hid (show (Tryd.prog.info? 37).map (·.size) = some (cellsOf ds).length from by rw [cellsOf_length, hd.1]; exact info_dig)
  clear h h3d hdx hfs hx he
  go_enter Tryd.func27, Tryd.ntmps27
  go_upto_region 1 with fail
  have HS := HS0
  have HL1 := Lib.hid (fun W (hW : ED b2 sb d b3 ds W) => run_cell_st W ⟨b2, 0, none⟩ _ hW.c2)
  have HL2 := Lib.hid (fun W (hW : ED b2 sb d b3 ds W) => run_cell_disk W ⟨sb, 0, none⟩ _ hW.cs)
  have HL3 := Lib.hid (show ∀ W, ED b2 sb d b3 ds W → (Instr.loadAt 37 (.pointer (some ⟨b3, 0, none⟩))).run Tryd.prog W = .ok (.agg (cellsOf ds).toArray) W from fun W hW => run_loadAt_mid W b3 0 37 (cellsOf ds) _ hW.row.range Tryd.underlying37 rfl HI.out)
  clear HS0
  refine anyH_begin (S := ED b2 sb d b3 ds) (by kernel_rfl) ?_
  refine anyH_loadG 0 (d := 3) (ty := 28) (x := (.tmp 0)) (gd := none) (p := .pointer (some ⟨b2, 0, none⟩)) (.pointer (some ⟨sb, 0, none⟩)) (by rfl) (fun o ho => wanted_plain ho _) (by kernel_rfl) (by kernel_rfl) (by kernel_rfl) (fun _ _ _ h => h) (by rfl) HL1.out HS.out ?_
  simp only [Act.put, List.setIfInBounds_toArray, List.set_cons_zero, List.set_cons_succ]
  refine anyH_pureG 1 (d := 4) (op := .nilCheck (.tmp 3)) (gd := none) (.pointer (some ⟨sb, 0, none⟩)) (by rfl) (fun o ho => wanted_plain ho _) (by kernel_rfl) (by kernel_rfl) (by kernel_rfl) (fun _ _ _ h => h) (fun o ho W hW => by unfold execOp; simp only [ho]; go_simp) HS.out ?_
  simp only [Act.put, List.setIfInBounds_toArray, List.set_cons_zero, List.set_cons_succ]
  refine anyH_pureG 2 (d := 5) (op := .fieldAddr 55 (.tmp 4) 0) (gd := none) (.pointer (some ⟨sb, 0, none⟩)) (by rfl) (fun o ho => wanted_plain ho _) (by kernel_rfl) (by kernel_rfl) (by kernel_rfl) (fun _ _ _ h => h) (fun o ho W hW => by unfold execOp; simp only [ho]; go_simp) HS.out ?_
  simp only [Act.put, List.setIfInBounds_toArray, List.set_cons_zero, List.set_cons_succ]
  refine anyH_loadG 3 (d := 6) (ty := 24) (x := (.tmp 5)) (gd := none) (p := .pointer (some ⟨sb, 0, none⟩)) (.pointer (some ⟨d, 0, none⟩)) (by rfl) (fun o ho => wanted_plain ho _) (by kernel_rfl) (by kernel_rfl) (by kernel_rfl) (fun _ _ _ h => h) (by rfl) HL2.out HS.out ?_
  simp only [Act.put, List.setIfInBounds_toArray, List.set_cons_zero, List.set_cons_succ]
  refine anyH_loadG 4 (d := 7) (ty := 37) (x := (.tmp 1)) (gd := none) (p := .pointer (some ⟨b3, 0, none⟩)) (.agg (cellsOf ds).toArray) (by rfl) (fun o ho => wanted_plain ho _) (by kernel_rfl) (by kernel_rfl) (by kernel_rfl) (fun _ _ _ h => h) (by rfl) HL3.out HS.out ?_
  simp only [Act.put, List.setIfInBounds_toArray, List.set_cons_zero, List.set_cons_succ]
  refine anyH_callG 5 (d := some 8) (f := 25) (xs := #[(.tmp 7)]) (ts := #[37]) (gd := none) (vs := #[.agg (cellsOf ds).toArray]) (by kernel_rfl) (by rfl) (fun o ho => wanted_plain ho _) (by go_simp) (by go_simp) (HF.out _) ?_
  rintro e1 w1 ⟨rfl, hb1⟩
  have HS1 := Lib.hid (HS.out.below hb1)
  have HB1 := Lib.hid hb1
  clear hb1
  refine ⟨_, rfl, HS1.out, fun hS => ?_⟩
  clear hS
  simp only [Act.put, List.setIfInBounds_toArray, List.set_cons_zero, List.set_cons_succ]
  refine anyH_callG 6 (d := some 9) (f := 28) (xs := #[(.tmp 6), (.tmp 8)]) (ts := #[24, 9]) (gd := none) (vs := #[.pointer (some ⟨d, 0, none⟩), .string (fileB ds)]) (by kernel_rfl) (by rfl) (fun o ho => wanted_plain ho _) (by go_simp) (by go_simp) (HC.out w1 HB1.out) ?_
  rintro e2 w2 ⟨rfl, h2, h3, h4⟩
  have HE := Lib.hid (show DxR X B d (N + 3) W (A.step ⟨2, fileB ds, ⟨#[]⟩, []⟩) (.returned (.int .i64 x)) w2 from ⟨by rw [HX.out], h2, HBD.out.1.trans ((HB1.out.mono HBD.out.2).trans h3), fun j hj => (h4 j hj).trans (HB1.out.block j (HLT.out j hj))⟩)
  have HS2 := Lib.hid (HS1.out.kp h4 h3.size hx2 hxs hx3)
  clear h2 h3 h4
  refine ⟨_, rfl, HS2.out, fun hS => ?_⟩
  clear hS
  simp only [Act.put, List.setIfInBounds_toArray, List.set_cons_zero, List.set_cons_succ]
  refine anyH_pureG 7 (d := 2) (op := .assign (.tmp 9)) (gd := none) (.int .i64 x) (by rfl) (fun o ho => wanted_plain ho _) (by kernel_rfl) (by kernel_rfl) (by kernel_rfl) (fun _ _ _ h => h) (fun o ho W hW => by unfold execOp; simp only [ho]; go_simp) HS2.out ?_
  simp only [Act.put, List.setIfInBounds_toArray, List.set_cons_zero, List.set_cons_succ]
  refine wpAnyH_done (by kernel_rfl) ?_ _
  clear HS HS1 HS2 HL1 HL2 HL3 HC HF HB1
  go_wp2_with fail
  go_ret
  exact HE.out
set_option maxRecDepth 100000 in
set_option maxHeartbeats 8000000 in
theorem bdel_c {X : Nat → Prop} {B d N sb : Nat} {A : Ad} {w : World} (h : Bs X B d sb N A w) (hN : N < 10000000) (ds : List Nat) (hd : D32 ds) :
    Calls Tryd.prog 10 #[.pointer (some ⟨sb, 0, none⟩), .agg (cellsOf ds).toArray] w (AdR X B d sb (N + 6) w (A.del ds)) := by
  obtain ⟨b2, hb2⟩ : ∃ b2, b2 = w.heap.size := ⟨_, rfl⟩
  obtain ⟨w1, hw1⟩ : ∃ w1, w1 = w.alloc (.cells #[.pointer (some ⟨sb, 0, none⟩)] 28) := ⟨_, rfl⟩
  obtain ⟨b3, hb3⟩ : ∃ b3, b3 = w1.heap.size := ⟨_, rfl⟩
  obtain ⟨w2, hw2⟩ : ∃ w2, w2 = w1.alloc (.cells (cellsOf ds).toArray 37) := ⟨_, rfl⟩
  obtain ⟨b9, hb9⟩ : ∃ b9, b9 = w2.heap.size := ⟨_, rfl⟩
  obtain ⟨w9, hw9⟩ : ∃ w9, w9 = w2.alloc (.cells #[.func (.func 27) #[] #[.pointer (some ⟨b2, 0, none⟩), .pointer (some ⟨b3, 0, none⟩)], .func (.func 19) #[.pointer (some ⟨d, 0, none⟩)] #[]] 83) := ⟨_, rfl⟩
  have z1 : w1.heap.size = b2 + 1 := by rw [hw1, hb2]; simp
  have z2 : w2.heap.size = b3 + 1 := by rw [hw2, hb3]; simp
  have z9 : w9.heap.size = b9 + 1 := by rw [hw9, hb9]; simp
  have q1 : Below w.heap.size w w1 := by rw [hw1]; exact (Below.refl _ _).alloc (Nat.le_refl _) _
  have q2 : Below w1.heap.size w1 w2 := by rw [hw2]; exact (Below.refl _ _).alloc (Nat.le_refl _) _
  have q9 : Below w2.heap.size w2 w9 := by rw [hw9]; exact (Below.refl _ _).alloc (Nat.le_refl _) _
  have r12 : Below w.heap.size w w2 := q1.trans (q2.mono q1.size)
  have r19 : Below w.heap.size w w9 := r12.trans (q9.mono r12.size)
  have hsl := h.dx.lt sb h.sx
  have k2 : w2.cell? ⟨b2, 0, none⟩ = some (.pointer (some ⟨sb, 0, none⟩)) := (q2.cell (p := ⟨b2, 0, none⟩) (by show b2 < _; omega)).trans (by rw [hw1, hb2]; exact cell_of_row _ _ 0 _ _ _ (heap_alloc_new w _))
  have ks : w2.cell? ⟨sb, 0, none⟩ = some (.pointer (some ⟨d, 0, none⟩)) := (r12.cell (p := ⟨sb, 0, none⟩) hsl).trans h.st
  have k3 : Brow w2 b3 37 ds := by rw [hw2, hb3]; exact heap_new _ _
  have k9 : w9.heap[b9]? = some (.cells #[.func (.func 27) #[] #[.pointer (some ⟨b2, 0, none⟩), .pointer (some ⟨b3, 0, none⟩)], .func (.func 19) #[.pointer (some ⟨d, 0, none⟩)] #[]] 83 (0, 0)) := by rw [hw9, hb9]; exact heap_alloc_new _ _
  have hed : ED b2 sb d b3 ds w9 := (show ED b2 sb d b3 ds w2 from ⟨k2, ks, k3, by omega, by omega⟩).below q9
  have hBw : B ≤ w.heap.size := Nat.le_of_lt (Nat.lt_of_le_of_lt h.dx.base.1 h.dx.base.2)
  obtain ⟨X9, hX9⟩ : ∃ X9 : Nat → Prop, X9 = fun j => X j ∨ j = b2 ∨ j = b3 ∨ j = b9 := ⟨_, rfl⟩
  have hd9 : Dx X9 B d N A w9 := h.dx.belowY r19 (fun j hj => by
    rw [hX9] at hj
    rcases hj with hj | hj | hj | hj
    · exact .inl hj
    · exact .inr (by omega)
    · exact .inr (by omega)
    · exact .inr (by omega)) (fun j hj => by
    rw [hX9] at hj
    rcases hj with hj | hj | hj | hj
    · exact Nat.lt_of_lt_of_le (h.dx.lt j hj) r19.size
    · omega
    · omega
    · omega)
  have x2 : X9 b2 := by rw [hX9]; exact .inr (.inl rfl)
  have x3 : X9 b3 := by rw [hX9]; exact .inr (.inr (.inl rfl))
  have x9 : X9 b9 := by rw [hX9]; exact .inr (.inr (.inr rfl))
  have xs : X9 sb := by rw [hX9]; exact .inl h.sx
  have hIN := inorder_ad hd9 b9 2 (fun i => match i with | 0 => ⟨27, #[], #[.pointer (some ⟨b2, 0, none⟩), .pointer (some ⟨b3, 0, none⟩)]⟩ | _ => ⟨19, #[.pointer (some ⟨d, 0, none⟩)], #[]⟩) [fun A => A.step ⟨2, fileB ds, ⟨#[]⟩, []⟩, Ad.sync] rfl (by omega) x9 (fun i hi => by
    rw [cell_of_row w9 b9 i _ _ _ k9]
    match i, hi with
    | 0, _ => rfl
    | 1, _ => rfl) (fun i hi => by
    match i, hi with
    | 0, _ => exact enters_of Tryd.func27 (by kernel_rfl) rfl
    | 1, _ => exact enters_of Tryd.func19 (by kernel_rfl) rfl) (fun i f hf A1 W g1 g2 g3 => by
    have hi : i < 2 := (List.getElem?_eq_some_iff.1 hf).1
    match i, hi, hf with
    | 0, _, hf => cases hf; exact bdel1_c g1 (by omega) ds hd (hed.kp g3 g2.size x2 xs x3) x2 xs x3
    | 1, _, hf => cases hf; exact g1.sync)
  subst hX9
  have HIN := Lib.hid hIN
  have HFIN := Lib.hid (show ∀ (w' : World) (r : Ad × Int), Dx (fun j => X j ∨ j = b2 ∨ j = b3 ∨ j = b9) B d (N + 3 * 2) r.1 w' → Below B w9 w' → KpD (fun j => X j ∨ j = b2 ∨ j = b3 ∨ j = b9) w9 w' → AdR X B d sb (N + 6) w r (.returned (.int .i64 r.2)) w' from fun w' r g1 g2 g3 => by
    have g4 : KpD X w9 w' := g3.less fun j hj => .inl hj
    exact ⟨rfl, ⟨g1.less fun j hj => .inl hj, h.sx, (World.cell?_of_block (g4 sb h.sx)).trans ((r19.cell (p := ⟨sb, 0, none⟩) hsl).trans h.st)⟩, (r19.mono hBw).trans g2, fun j hj => (g4 j hj).trans (r19.block j (h.dx.lt j hj))⟩)
  have e3 : b2 + 1 = b3 := by omega
  have HDE := Lib.hid (show A.del ds = runA [fun A => A.step ⟨2, fileB ds, ⟨#[]⟩, []⟩, Ad.sync] A from rfl)
  have hmf : ∀ (fn : Fn) (first cap : Array Value) (w : World), (Instr.makeFunc fn first cap).run Tryd.prog w = .ok (.func fn first cap) w := fun _ _ _ _ => rfl
  clear hIN z1 z2 z9 q1 q2 q9 r12 r19 hsl k3 k9 hed hBw hd9 x2 x3 x9 xs h hb3
  go_enter Tryd.func10, Tryd.ntmps10
  go_upto_region 1 with fail
  rw [← hb2, ← hw1, e3, ← hw2]
  clear hw1 hw2 hb2 e3
  go_wp2_with fail
  rw [← hb9, ← hw9]
  clear hb9 hw9 hmf k2 ks
  refine HIN.out.mono ?_
  rintro e w' ⟨rfl, k1, k2, k3⟩
  have HE := Lib.hid (HFIN.out w' _ k1 k2 k3)
  clear k1 k2 k3 HIN HFIN
  go_wp2_with fail
  go_ret
  rw [HDE.out]
  exact HE.out
end Go.Proofs.YtmomdfmilelilaaDoor
