/-
  A store's steps: closures and methods.
-/
import Derived.Test.YtmomdfmilelilaaDoorBib
namespace Go.Proofs.YtmomdfmilelilaaDoor
open Go.RowKit
set_option linter.unusedVariables false
def spr : ByteArray := ⟨#[98, 43]⟩
theorem spr_small : spr.size ≤ maxLen := by unfold maxLen; exact Nat.le_of_lt (by decide)
theorem run_cell_st (W : World) (a : Addr) (v : Option Addr) (hc : W.cell? a = some (.pointer v)) : (Instr.loadAt 28 (.pointer (some a))).run Tryd.prog W = .ok (.pointer v) W := by go_simp
/-- what a step reads: the box of the store, the store, another box -/
structure En (b3 sb d b2 : Nat) (v : Value) (W : World) : Prop where
  c3 : W.cell? ⟨b3, 0, none⟩ = some (.pointer (some ⟨sb, 0, none⟩))
  cs : W.cell? ⟨sb, 0, none⟩ = some (.pointer (some ⟨d, 0, none⟩))
  c2 : W.cell? ⟨b2, 0, none⟩ = some v
theorem En.kp {X : Nat → Prop} {b3 sb d b2 : Nat} {v : Value} {W W' : World} (h : En b3 sb d b2 v W) (hk : KpD X W W') (h3 : X b3) (hs : X sb) (h2 : X b2) : En b3 sb d b2 v W' :=
  ⟨(World.cell?_of_block (hk b3 h3)).trans h.c3, (World.cell?_of_block (hk sb hs)).trans h.cs, (World.cell?_of_block (hk b2 h2)).trans h.c2⟩
/-- the file of bytes that are not all there yet is removed, if there is one -/
def Ad.clr (A : Ad) : Ad × Int := ((A.step ⟨2, spr, ⟨#[]⟩, []⟩).1, if (A.step ⟨2, spr, ⟨#[]⟩, []⟩).2 = 6 then 0 else (A.step ⟨2, spr, ⟨#[]⟩, []⟩).2)
set_option maxRecDepth 100000 in
set_option maxHeartbeats 8000000 in
theorem rspare_c {X : Nat → Prop} {B d N sb : Nat} {A : Ad} {W : World} (h : Dx X B d N A W) (hN : N < 1000000000) (hc : W.cell? ⟨sb, 0, none⟩ = some (.pointer (some ⟨d, 0, none⟩))) :
    Calls Tryd.prog 18 #[.pointer (some ⟨sb, 0, none⟩)] W (DxR X B d (N + 3) W (A.step ⟨2, spr, ⟨#[]⟩, []⟩)) := by
  have HC := Lib.hid (h.remove spr spr_small hN)
  unfold spr at HC
  clear h
  go_enter Tryd.func18, Tryd.ntmps18
  go_wp2_with fail
  refine HC.out.mono ?_
  rintro e w' ⟨rfl, h2, h3⟩
  have HE := Lib.hid (And.intro h2 h3)
  clear h2 h3 HC hc
  go_wp2_with fail
  go_ret
  exact ⟨rfl, HE.out⟩
set_option maxRecDepth 100000 in
set_option maxHeartbeats 8000000 in
theorem clear_c {X : Nat → Prop} {B d N sb : Nat} {A : Ad} {W : World} (h : Dx X B d N A W) (hN : N < 1000000000) (hc : W.cell? ⟨sb, 0, none⟩ = some (.pointer (some ⟨d, 0, none⟩))) :
    Calls Tryd.prog 43 #[.pointer (some ⟨sb, 0, none⟩)] W (DxR X B d (N + 3) W A.clr) := by
  have HC := Lib.hid (rspare_c h hN hc)
  unfold Ad.clr
  obtain ⟨r, hr⟩ : ∃ r, A.step ⟨2, spr, ⟨#[]⟩, []⟩ = r := ⟨_, rfl⟩
  rw [hr] at HC ⊢
  obtain ⟨A', x⟩ := r
  clear h hr
  by_cases hx : x = 6
  · subst hx
    go_enter Tryd.func43, Tryd.ntmps43
    go_wp2_with fail
    refine HC.out.mono ?_
    rintro e w' ⟨rfl, h2, h3⟩
    have HE := Lib.hid (And.intro h2 h3)
    clear h2 h3 HC hc
    go_wp2_with fail
    go_ret
    exact ⟨rfl, HE.out⟩
  · have hxx : (x == 6) = false := by simp [hx]
    simp only [if_neg hx]
    go_enter Tryd.func43, Tryd.ntmps43
    go_wp2_with fail
    refine HC.out.mono ?_
    rintro e w' ⟨rfl, h2, h3⟩
    have HE := Lib.hid (And.intro h2 h3)
    clear h2 h3 HC hc
    go_wp2_with fail
    go_ret
    exact ⟨rfl, HE.out⟩
set_option maxRecDepth 100000 in
set_option maxHeartbeats 8000000 in
theorem wcreate_c {X : Nat → Prop} {B d N sb b3 : Nat} {A : Ad} {W : World} (h : Dx X B d N A W) (hN : N < 1000000000) (hc3 : W.cell? ⟨b3, 0, none⟩ = some (.pointer (some ⟨sb, 0, none⟩))) (hc : W.cell? ⟨sb, 0, none⟩ = some (.pointer (some ⟨d, 0, none⟩))) :
    Calls Tryd.prog 44 #[.pointer (some ⟨b3, 0, none⟩)] W (DxR X B d (N + 3) W (A.step ⟨0, spr, ⟨#[]⟩, []⟩)) := by
  have HC := Lib.hid (h.create spr spr_small hN)
  unfold spr at HC
  clear h
  go_enter Tryd.func44, Tryd.ntmps44
  go_wp2_with fail
  refine HC.out.mono ?_
  rintro e w' ⟨rfl, h2, h3⟩
  have HE := Lib.hid (And.intro h2 h3)
  clear h2 h3 HC hc hc3
  go_wp2_with fail
  go_ret
  exact ⟨rfl, HE.out⟩
set_option maxRecDepth 100000 in
set_option maxHeartbeats 8000000 in
theorem wappend_c {X : Nat → Prop} {B d N sb b3 b5 : Nat} {A : Ad} {W : World} (h : Dx X B d N A W) (hN : N < 1000000000) (pa : Option Addr) (pn pc : Nat) (ps : List Nat) (hr : Rd W pa pn ps) (hno : ∀ b o s, pa = some ⟨b, o, s⟩ → pn ≠ 0 → b < B ∨ X b) (hnil : pa = none → pc = 0) (he : En b3 sb d b5 (.slice pa pn pc) W) (hx3 : X b3) (hxs : X sb) (hx2 : X b5) :
    Calls Tryd.prog 46 #[.pointer (some ⟨b3, 0, none⟩), .pointer (some ⟨b5, 0, none⟩)] W (DxR X B d (N + 3) W (A.step ⟨1, spr, ⟨#[]⟩, ps⟩)) := by
  have h3d : Below B W (World.drew W) := below_drewN' _ W 1
  have hd := h.below (w' := World.drew W) (below_drewN' _ W 1)
  have HC := Lib.hid (hd.append spr spr_small pa pn pc ps hr hno hnil hN)
  have HEN := Lib.hid he
  unfold DxR at HC
  obtain ⟨x, hx⟩ : ∃ x, (A.step ⟨1, spr, ⟨#[]⟩, ps⟩).2 = x := ⟨_, rfl⟩
  rw [hx] at HC
  have HX := Lib.hid hx
  have HBD := Lib.hid h3d
  clear h hd hr hno hnil he hx h3d
  go_enter Tryd.func46, Tryd.ntmps46
  go_upto_region 1 with fail
  have HS := Lib.hid (show En b3 sb d b5 (.slice pa pn pc) (World.drew W) from ⟨HEN.out.c3, HEN.out.cs, HEN.out.c2⟩)
  have HL1 := Lib.hid (fun W (hW : En b3 sb d b5 (.slice pa pn pc) W) => run_cell_st W ⟨b3, 0, none⟩ _ hW.c3)
  have HL2 := Lib.hid (fun W (hW : En b3 sb d b5 (.slice pa pn pc) W) => run_cell_disk W ⟨sb, 0, none⟩ _ hW.cs)
  have HL3 := Lib.hid (fun W (hW : En b3 sb d b5 (.slice pa pn pc) W) => run_cell_b W ⟨b5, 0, none⟩ pa pn pc hW.c2)
  have h3d := HBD.out
  refine anyH_begin (S := En b3 sb d b5 (.slice pa pn pc)) (by kernel_rfl) ?_
  refine anyH_loadG 0 (d := 3) (ty := 28) (x := (.tmp 0)) (gd := none) (p := .pointer (some ⟨b3, 0, none⟩)) (.pointer (some ⟨sb, 0, none⟩)) (by rfl) (fun o ho => wanted_plain ho _) (by kernel_rfl) (by kernel_rfl) (by kernel_rfl) (fun _ _ _ h => h) (by rfl) HL1.out HS.out ?_
  simp only [Act.put, List.setIfInBounds_toArray, List.set_cons_zero, List.set_cons_succ]
  refine anyH_pureG 1 (d := 4) (op := .nilCheck (.tmp 3)) (gd := none) (.pointer (some ⟨sb, 0, none⟩)) (by rfl) (fun o ho => wanted_plain ho _) (by kernel_rfl) (by kernel_rfl) (by kernel_rfl) (fun _ _ _ h => h) (fun o ho W hW => by unfold execOp; simp only [ho]; go_simp) HS.out ?_
  simp only [Act.put, List.setIfInBounds_toArray, List.set_cons_zero, List.set_cons_succ]
  refine anyH_pureG 2 (d := 5) (op := .fieldAddr 55 (.tmp 4) 0) (gd := none) (.pointer (some ⟨sb, 0, none⟩)) (by rfl) (fun o ho => wanted_plain ho _) (by kernel_rfl) (by kernel_rfl) (by kernel_rfl) (fun _ _ _ h => h) (fun o ho W hW => by unfold execOp; simp only [ho]; go_simp) HS.out ?_
  simp only [Act.put, List.setIfInBounds_toArray, List.set_cons_zero, List.set_cons_succ]
  refine anyH_loadG 3 (d := 6) (ty := 24) (x := (.tmp 5)) (gd := none) (p := .pointer (some ⟨sb, 0, none⟩)) (.pointer (some ⟨d, 0, none⟩)) (by rfl) (fun o ho => wanted_plain ho _) (by kernel_rfl) (by kernel_rfl) (by kernel_rfl) (fun _ _ _ h => h) (by rfl) HL2.out HS.out ?_
  simp only [Act.put, List.setIfInBounds_toArray, List.set_cons_zero, List.set_cons_succ]
  refine anyH_loadG 4 (d := 7) (ty := 33) (x := (.tmp 1)) (gd := none) (p := .pointer (some ⟨b5, 0, none⟩)) (.slice pa pn pc) (by rfl) (fun o ho => wanted_plain ho _) (by kernel_rfl) (by kernel_rfl) (by kernel_rfl) (fun _ _ _ h => h) (by rfl) HL3.out HS.out ?_
  simp only [Act.put, List.setIfInBounds_toArray, List.set_cons_zero, List.set_cons_succ]
  refine anyH_callG 5 (d := some 8) (f := 47) (xs := #[(.tmp 6), (.const (.string { data := #[98, 43] })), (.tmp 7)]) (ts := #[24, 9, 33]) (gd := none) (vs := #[.pointer (some ⟨d, 0, none⟩), (.string { data := #[98, 43] }), .slice pa pn pc]) (by kernel_rfl) (by rfl) (fun o ho => wanted_plain ho _) (by go_simp) (by go_simp) (HC.out) ?_
  rintro e2 w2 ⟨rfl, h2, h3, h4⟩
  have HE := Lib.hid (show DxR X B d (N + 3) W (A.step ⟨1, spr, ⟨#[]⟩, ps⟩) (.returned (.int .i64 x)) w2 from ⟨by rw [HX.out], h2, h3d.trans h3, fun j hj => (h4 j hj).trans rfl⟩)
  have HS2 := Lib.hid (show En b3 sb d b5 (.slice pa pn pc) w2 from HS.out.kp h4 hx3 hxs hx2)
  clear h2 h3 h4
  refine ⟨_, rfl, HS2.out, fun hS => ?_⟩
  clear hS
  simp only [Act.put, List.setIfInBounds_toArray, List.set_cons_zero, List.set_cons_succ]
  refine anyH_pureG 6 (d := 2) (op := .assign (.tmp 8)) (gd := none) (.int .i64 x) (by rfl) (fun o ho => wanted_plain ho _) (by kernel_rfl) (by kernel_rfl) (by kernel_rfl) (fun _ _ _ h => h) (fun o ho W hW => by unfold execOp; simp only [ho]; go_simp) HS2.out ?_
  simp only [Act.put, List.setIfInBounds_toArray, List.set_cons_zero, List.set_cons_succ]
  refine wpAnyH_done (by kernel_rfl) ?_ _
  clear HS HS2 HL1 HL2 HL3 HC HEN
  go_wp2_with fail
  go_ret
  exact HE.out
set_option maxRecDepth 100000 in
set_option maxHeartbeats 8000000 in
theorem wrename_c {X : Nat → Prop} {B d N sb b3 b4 : Nat} {A : Ad} {W : World} (h : Dx X B d N A W) (hN : N < 1000000000) (nm : ByteArray) (hnm : nm.size ≤ maxLen) (he : En b3 sb d b4 (.string nm) W) (hx3 : X b3) (hxs : X sb) (hx2 : X b4) :
    Calls Tryd.prog 48 #[.pointer (some ⟨b3, 0, none⟩), .pointer (some ⟨b4, 0, none⟩)] W (DxR X B d (N + 3) W (A.step ⟨3, spr, nm, []⟩)) := by
  have h3d : Below B W (World.drew W) := below_drewN' _ W 1
  have hd := h.below (w' := World.drew W) (below_drewN' _ W 1)
  have HC := Lib.hid (hd.rename spr nm spr_small hnm hN)
  have HEN := Lib.hid he
  unfold DxR at HC
  obtain ⟨x, hx⟩ : ∃ x, (A.step ⟨3, spr, nm, []⟩).2 = x := ⟨_, rfl⟩
  rw [hx] at HC
  have HX := Lib.hid hx
  have HBD := Lib.hid h3d
  clear h hd hnm he hx h3d
  go_enter Tryd.func48, Tryd.ntmps48
  go_upto_region 1 with fail
  have HS := Lib.hid (show En b3 sb d b4 (.string nm) (World.drew W) from ⟨HEN.out.c3, HEN.out.cs, HEN.out.c2⟩)
  have HL1 := Lib.hid (fun W (hW : En b3 sb d b4 (.string nm) W) => run_cell_st W ⟨b3, 0, none⟩ _ hW.c3)
  have HL2 := Lib.hid (fun W (hW : En b3 sb d b4 (.string nm) W) => run_cell_disk W ⟨sb, 0, none⟩ _ hW.cs)
  have HL3 := Lib.hid (fun W (hW : En b3 sb d b4 (.string nm) W) => run_cell_s W ⟨b4, 0, none⟩ nm hW.c2)
  have h3d := HBD.out
  refine anyH_begin (S := En b3 sb d b4 (.string nm)) (by kernel_rfl) ?_
  refine anyH_loadG 0 (d := 3) (ty := 28) (x := (.tmp 0)) (gd := none) (p := .pointer (some ⟨b3, 0, none⟩)) (.pointer (some ⟨sb, 0, none⟩)) (by rfl) (fun o ho => wanted_plain ho _) (by kernel_rfl) (by kernel_rfl) (by kernel_rfl) (fun _ _ _ h => h) (by rfl) HL1.out HS.out ?_
  simp only [Act.put, List.setIfInBounds_toArray, List.set_cons_zero, List.set_cons_succ]
  refine anyH_pureG 1 (d := 4) (op := .nilCheck (.tmp 3)) (gd := none) (.pointer (some ⟨sb, 0, none⟩)) (by rfl) (fun o ho => wanted_plain ho _) (by kernel_rfl) (by kernel_rfl) (by kernel_rfl) (fun _ _ _ h => h) (fun o ho W hW => by unfold execOp; simp only [ho]; go_simp) HS.out ?_
  simp only [Act.put, List.setIfInBounds_toArray, List.set_cons_zero, List.set_cons_succ]
  refine anyH_pureG 2 (d := 5) (op := .fieldAddr 55 (.tmp 4) 0) (gd := none) (.pointer (some ⟨sb, 0, none⟩)) (by rfl) (fun o ho => wanted_plain ho _) (by kernel_rfl) (by kernel_rfl) (by kernel_rfl) (fun _ _ _ h => h) (fun o ho W hW => by unfold execOp; simp only [ho]; go_simp) HS.out ?_
  simp only [Act.put, List.setIfInBounds_toArray, List.set_cons_zero, List.set_cons_succ]
  refine anyH_loadG 3 (d := 6) (ty := 24) (x := (.tmp 5)) (gd := none) (p := .pointer (some ⟨sb, 0, none⟩)) (.pointer (some ⟨d, 0, none⟩)) (by rfl) (fun o ho => wanted_plain ho _) (by kernel_rfl) (by kernel_rfl) (by kernel_rfl) (fun _ _ _ h => h) (by rfl) HL2.out HS.out ?_
  simp only [Act.put, List.setIfInBounds_toArray, List.set_cons_zero, List.set_cons_succ]
  refine anyH_loadG 4 (d := 7) (ty := 9) (x := (.tmp 1)) (gd := none) (p := .pointer (some ⟨b4, 0, none⟩)) (.string nm) (by rfl) (fun o ho => wanted_plain ho _) (by kernel_rfl) (by kernel_rfl) (by kernel_rfl) (fun _ _ _ h => h) (by rfl) HL3.out HS.out ?_
  simp only [Act.put, List.setIfInBounds_toArray, List.set_cons_zero, List.set_cons_succ]
  refine anyH_callG 5 (d := some 8) (f := 49) (xs := #[(.tmp 6), (.const (.string { data := #[98, 43] })), (.tmp 7)]) (ts := #[24, 9, 9]) (gd := none) (vs := #[.pointer (some ⟨d, 0, none⟩), (.string { data := #[98, 43] }), .string nm]) (by kernel_rfl) (by rfl) (fun o ho => wanted_plain ho _) (by go_simp) (by go_simp) (HC.out) ?_
  rintro e2 w2 ⟨rfl, h2, h3, h4⟩
  have HE := Lib.hid (show DxR X B d (N + 3) W (A.step ⟨3, spr, nm, []⟩) (.returned (.int .i64 x)) w2 from ⟨by rw [HX.out], h2, h3d.trans h3, fun j hj => (h4 j hj).trans rfl⟩)
  have HS2 := Lib.hid (show En b3 sb d b4 (.string nm) w2 from HS.out.kp h4 hx3 hxs hx2)
  clear h2 h3 h4
  refine ⟨_, rfl, HS2.out, fun hS => ?_⟩
  clear hS
  simp only [Act.put, List.setIfInBounds_toArray, List.set_cons_zero, List.set_cons_succ]
  refine anyH_pureG 6 (d := 2) (op := .assign (.tmp 8)) (gd := none) (.int .i64 x) (by rfl) (fun o ho => wanted_plain ho _) (by kernel_rfl) (by kernel_rfl) (by kernel_rfl) (fun _ _ _ h => h) (fun o ho W hW => by unfold execOp; simp only [ho]; go_simp) HS2.out ?_
  simp only [Act.put, List.setIfInBounds_toArray, List.set_cons_zero, List.set_cons_succ]
  refine wpAnyH_done (by kernel_rfl) ?_ _
  clear HS HS2 HL1 HL2 HL3 HC HEN
  go_wp2_with fail
  go_ret
  exact HE.out
end Go.Proofs.YtmomdfmilelilaaDoor
