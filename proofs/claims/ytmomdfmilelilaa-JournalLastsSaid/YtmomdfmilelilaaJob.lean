/-
  A journal's steps on the abstract disk, plain; the closures of rewrite and load.
-/
import Derived.Test.YtmomdfmilelilaaJoa
import Derived.Test.YtmomdfmilelilaaJpk
import Derived.Test.YtmomdfmilelilaaDcg
namespace Go.Proofs.Ytmomdfmilelilaa
open Go.RowKit
set_option linter.unusedVariables false
/-- cells that hold what they held -/
def HasC (L : List (Addr × Value)) (W : World) : Prop := ∀ p ∈ L, W.cell? p.1 = some p.2
theorem HasC.kp {L : List (Addr × Value)} {X : Nat → Prop} {W W' : World} (h : HasC L W) (hk : KpD X W W') (hx : ∀ p ∈ L, X p.1.block) : HasC L W' := fun p hp => (World.cell?_of_block (hk p.1.block (hx p hp))).trans (h p hp)
theorem HasC.below {L : List (Addr × Value)} {W W' : World} (h : HasC L W) (hb : Below W.heap.size W W') (hx : ∀ p ∈ L, p.1.block < W.heap.size) : HasC L W' := fun p hp => (hb.cell (p := p.1) (hx p hp)).trans (h p hp)
theorem run_cell_jn (W : World) (a : Addr) (v : Option Addr) (hc : W.cell? a = some (.pointer v)) : (Instr.loadAt 28 (.pointer (some a))).run Try.prog W = .ok (.pointer v) W := by go_simp
theorem run_cell_bb (W : World) (a : Addr) (v : Option Addr) (l c : Nat) (hc : W.cell? a = some (.slice v l c)) : (Instr.loadAt 29 (.pointer (some a))).run Try.prog W = .ok (.slice v l c) W := by go_simp
def rmA (s : ByteArray) (A : Ad) : Ad × Int := ((A.step ⟨2, s, ⟨#[]⟩, []⟩).1, if (A.step ⟨2, s, ⟨#[]⟩, []⟩).2 = 6 then 0 else (A.step ⟨2, s, ⟨#[]⟩, []⟩).2)
def mkA (s : ByteArray) (A : Ad) : Ad × Int := A.step ⟨0, s, ⟨#[]⟩, []⟩
/-- bytes that are appended at once, if there are some -/
def apF (s : ByteArray) (z : List Nat) (A : Ad) : Ad × Int := if z = [] then (A, 0) else A.step ⟨1, s, ⟨#[]⟩, z⟩
def mvA (s t : ByteArray) (A : Ad) : Ad × Int := A.step ⟨3, s, t, []⟩
set_option maxRecDepth 100000 in
set_option maxHeartbeats 8000000 in
theorem rmany_c {X : Nat → Prop} {B d N : Nat} {A : Ad} {W : World} (h : Dx X B d N A W) (hN : N < 1000000000) (s : ByteArray) (hs : s.size ≤ maxLen) :
    Calls Try.prog 75 #[.pointer (some ⟨d, 0, none⟩), .string s] W (DxR X B d (N + 3) W (rmA s A)) := by
  have HC := Lib.hid (h.remove s hs hN)
  unfold rmA
  obtain ⟨r, hr⟩ : ∃ r, A.step ⟨2, s, ⟨#[]⟩, []⟩ = r := ⟨_, rfl⟩
  rw [hr] at HC ⊢
  obtain ⟨A', x⟩ := r
  clear h hr
  by_cases hx : x = 6
  · subst hx
    go_enter Try.func75, Try.ntmps75
    go_wp2_with fail
    refine HC.out.mono ?_
    rintro e w' ⟨rfl, h2, h3⟩
    have HE := Lib.hid (And.intro h2 h3)
    clear h2 h3 HC
    go_wp2_with fail
    go_ret
    exact ⟨rfl, HE.out⟩
  · have hxx : (x == 6) = false := by simp [hx]
    simp only [if_neg hx]
    go_enter Try.func75, Try.ntmps75
    go_wp2_with fail
    refine HC.out.mono ?_
    rintro e w' ⟨rfl, h2, h3⟩
    have HE := Lib.hid (And.intro h2 h3)
    clear h2 h3 HC
    go_wp2_with fail
    go_ret
    exact ⟨rfl, HE.out⟩
set_option maxRecDepth 100000 in
set_option maxHeartbeats 8000000 in
theorem jrm_c {X : Nat → Prop} {B d N b2 b5 jb : Nat} {A : Ad} {W : World} (h : Dx X B d N A W) (hN : N < 1000000000) (sp : ByteArray) (hs : sp.size ≤ maxLen) (he : HasC [(⟨b2, 0, none⟩, .pointer (some ⟨jb, 0, none⟩)), (⟨jb, 0, none⟩, .pointer (some ⟨d, 0, none⟩)), (⟨b5, 0, none⟩, .string sp)] W) (hx : ∀ p ∈ ([(⟨b2, 0, none⟩, .pointer (some ⟨jb, 0, none⟩)), (⟨jb, 0, none⟩, .pointer (some ⟨d, 0, none⟩)), (⟨b5, 0, none⟩, .string sp)] : List (Addr × Value)), X p.1.block) :
    Calls Try.prog 74 #[.pointer (some ⟨b2, 0, none⟩), .pointer (some ⟨b5, 0, none⟩)] W (DxR X B d (N + 3) W (rmA sp A)) := by
  have h3d : Below B W (World.drew W) := below_drewN' _ W 1
  have hd := h.below (w' := World.drew W) (below_drewN' _ W 1)
  have HC := Lib.hid (show Calls Try.prog _ _ (World.drew W) (DxR X B d (N + 3) (World.drew W) (rmA sp A)) from rmany_c hd hN sp hs)
  unfold DxR at HC
  obtain ⟨x, hxx⟩ : ∃ x, (rmA sp A).2 = x := ⟨_, rfl⟩
  rw [hxx] at HC
  have HX := Lib.hid hxx
  have HXL := Lib.hid hx
  have HBD := Lib.hid h3d
  have HS := Lib.hid (show HasC [(⟨b2, 0, none⟩, .pointer (some ⟨jb, 0, none⟩)), (⟨jb, 0, none⟩, .pointer (some ⟨d, 0, none⟩)), (⟨b5, 0, none⟩, .string sp)] (World.drew W) from fun p hp => he p hp)
  clear h hd hxx he h3d hx
  go_enter Try.func74, Try.ntmps74
  go_upto_region 1 with fail
  have HL0 := Lib.hid (fun W (hW : HasC [(⟨b2, 0, none⟩, .pointer (some ⟨jb, 0, none⟩)), (⟨jb, 0, none⟩, .pointer (some ⟨d, 0, none⟩)), (⟨b5, 0, none⟩, .string sp)] W) => run_cell_jn W ⟨b2, 0, none⟩ _ (hW (⟨b2, 0, none⟩, .pointer (some ⟨jb, 0, none⟩)) (by simp)))
  have HL1 := Lib.hid (fun W (hW : HasC [(⟨b2, 0, none⟩, .pointer (some ⟨jb, 0, none⟩)), (⟨jb, 0, none⟩, .pointer (some ⟨d, 0, none⟩)), (⟨b5, 0, none⟩, .string sp)] W) => run_cell_disk W ⟨jb, 0, none⟩ _ (hW (⟨jb, 0, none⟩, .pointer (some ⟨d, 0, none⟩)) (by simp)))
  have HL2 := Lib.hid (fun W (hW : HasC [(⟨b2, 0, none⟩, .pointer (some ⟨jb, 0, none⟩)), (⟨jb, 0, none⟩, .pointer (some ⟨d, 0, none⟩)), (⟨b5, 0, none⟩, .string sp)] W) => run_cell_s W ⟨b5, 0, none⟩ sp (hW (⟨b5, 0, none⟩, .string sp) (by simp)))
  have h3d := HBD.out
  refine anyH_begin (S := HasC [(⟨b2, 0, none⟩, .pointer (some ⟨jb, 0, none⟩)), (⟨jb, 0, none⟩, .pointer (some ⟨d, 0, none⟩)), (⟨b5, 0, none⟩, .string sp)]) (by kernel_rfl) ?_
  refine anyH_loadG 0 (d := 3) (ty := 28) (x := (.tmp 0)) (gd := none) (p := .pointer (some ⟨b2, 0, none⟩)) (.pointer (some ⟨jb, 0, none⟩)) (by rfl) (fun o ho => wanted_plain ho _) (by kernel_rfl) (by kernel_rfl) (by kernel_rfl) (fun _ _ _ h => h) (by rfl) HL0.out HS.out ?_
  simp only [Act.put, List.setIfInBounds_toArray, List.set_cons_zero, List.set_cons_succ]
  refine anyH_pureG 1 (d := 4) (op := .nilCheck (.tmp 3)) (gd := none) (.pointer (some ⟨jb, 0, none⟩)) (by rfl) (fun o ho => wanted_plain ho _) (by kernel_rfl) (by kernel_rfl) (by kernel_rfl) (fun _ _ _ h => h) (fun o ho W hW => by unfold execOp; simp only [ho]; go_simp) HS.out ?_
  simp only [Act.put, List.setIfInBounds_toArray, List.set_cons_zero, List.set_cons_succ]
  refine anyH_pureG 2 (d := 5) (op := .fieldAddr 79 (.tmp 4) 0) (gd := none) (.pointer (some ⟨jb, 0, none⟩)) (by rfl) (fun o ho => wanted_plain ho _) (by kernel_rfl) (by kernel_rfl) (by kernel_rfl) (fun _ _ _ h => h) (fun o ho W hW => by unfold execOp; simp only [ho]; go_simp) HS.out ?_
  simp only [Act.put, List.setIfInBounds_toArray, List.set_cons_zero, List.set_cons_succ]
  refine anyH_loadG 3 (d := 6) (ty := 23) (x := (.tmp 5)) (gd := none) (p := .pointer (some ⟨jb, 0, none⟩)) (.pointer (some ⟨d, 0, none⟩)) (by rfl) (fun o ho => wanted_plain ho _) (by kernel_rfl) (by kernel_rfl) (by kernel_rfl) (fun _ _ _ h => h) (by rfl) HL1.out HS.out ?_
  simp only [Act.put, List.setIfInBounds_toArray, List.set_cons_zero, List.set_cons_succ]
  refine anyH_loadG 4 (d := 7) (ty := 9) (x := (.tmp 1)) (gd := none) (p := .pointer (some ⟨b5, 0, none⟩)) (.string sp) (by rfl) (fun o ho => wanted_plain ho _) (by kernel_rfl) (by kernel_rfl) (by kernel_rfl) (fun _ _ _ h => h) (by rfl) HL2.out HS.out ?_
  simp only [Act.put, List.setIfInBounds_toArray, List.set_cons_zero, List.set_cons_succ]
  refine anyH_callG 5 (d := some 8) (f := 75) (xs := #[(.tmp 6), (.tmp 7)]) (ts := #[23, 9]) (gd := none) (vs := #[.pointer (some ⟨d, 0, none⟩), .string sp]) (by kernel_rfl) (by rfl) (fun o ho => wanted_plain ho _) (by go_simp) (by go_simp) (HC.out) ?_
  rintro e2 w2 ⟨rfl, h2, h3, h4⟩
  have HE := Lib.hid (show DxR X B d (N + 3) W (rmA sp A) (.returned (.int .i64 x)) w2 from ⟨by rw [HX.out], h2, h3d.trans h3, fun j hj => (h4 j hj).trans rfl⟩)
  have HS2 := Lib.hid (show HasC [(⟨b2, 0, none⟩, .pointer (some ⟨jb, 0, none⟩)), (⟨jb, 0, none⟩, .pointer (some ⟨d, 0, none⟩)), (⟨b5, 0, none⟩, .string sp)] w2 from HS.out.kp h4 HXL.out)
  clear h2 h3 h4
  refine ⟨_, rfl, HS2.out, fun hS => ?_⟩
  clear hS
  simp only [Act.put, List.setIfInBounds_toArray, List.set_cons_zero, List.set_cons_succ]
  refine anyH_pureG 6 (d := 2) (op := .assign (.tmp 8)) (gd := none) (.int .i64 x) (by rfl) (fun o ho => wanted_plain ho _) (by kernel_rfl) (by kernel_rfl) (by kernel_rfl) (fun _ _ _ h => h) (fun o ho W hW => by unfold execOp; simp only [ho]; go_simp) HS2.out ?_
  simp only [Act.put, List.setIfInBounds_toArray, List.set_cons_zero, List.set_cons_succ]
  refine wpAnyH_done (by kernel_rfl) ?_ _
  clear HS HS2 HC HL0 HL1 HL2
  go_wp2_with fail
  go_ret
  exact HE.out
set_option maxRecDepth 100000 in
set_option maxHeartbeats 8000000 in
theorem jmk_c {X : Nat → Prop} {B d N b2 b5 jb : Nat} {A : Ad} {W : World} (h : Dx X B d N A W) (hN : N < 1000000000) (sp : ByteArray) (hs : sp.size ≤ maxLen) (he : HasC [(⟨b2, 0, none⟩, .pointer (some ⟨jb, 0, none⟩)), (⟨jb, 0, none⟩, .pointer (some ⟨d, 0, none⟩)), (⟨b5, 0, none⟩, .string sp)] W) (hx : ∀ p ∈ ([(⟨b2, 0, none⟩, .pointer (some ⟨jb, 0, none⟩)), (⟨jb, 0, none⟩, .pointer (some ⟨d, 0, none⟩)), (⟨b5, 0, none⟩, .string sp)] : List (Addr × Value)), X p.1.block) :
    Calls Try.prog 76 #[.pointer (some ⟨b2, 0, none⟩), .pointer (some ⟨b5, 0, none⟩)] W (DxR X B d (N + 3) W (mkA sp A)) := by
  have h3d : Below B W (World.drew W) := below_drewN' _ W 1
  have hd := h.below (w' := World.drew W) (below_drewN' _ W 1)
  have HC := Lib.hid (show Calls Try.prog _ _ (World.drew W) (DxR X B d (N + 3) (World.drew W) (mkA sp A)) from hd.create sp hs hN)
  unfold DxR at HC
  obtain ⟨x, hxx⟩ : ∃ x, (mkA sp A).2 = x := ⟨_, rfl⟩
  rw [hxx] at HC
  have HX := Lib.hid hxx
  have HXL := Lib.hid hx
  have HBD := Lib.hid h3d
  have HS := Lib.hid (show HasC [(⟨b2, 0, none⟩, .pointer (some ⟨jb, 0, none⟩)), (⟨jb, 0, none⟩, .pointer (some ⟨d, 0, none⟩)), (⟨b5, 0, none⟩, .string sp)] (World.drew W) from fun p hp => he p hp)
  clear h hd hxx he h3d hx
  go_enter Try.func76, Try.ntmps76
  go_upto_region 1 with fail
  have HL0 := Lib.hid (fun W (hW : HasC [(⟨b2, 0, none⟩, .pointer (some ⟨jb, 0, none⟩)), (⟨jb, 0, none⟩, .pointer (some ⟨d, 0, none⟩)), (⟨b5, 0, none⟩, .string sp)] W) => run_cell_jn W ⟨b2, 0, none⟩ _ (hW (⟨b2, 0, none⟩, .pointer (some ⟨jb, 0, none⟩)) (by simp)))
  have HL1 := Lib.hid (fun W (hW : HasC [(⟨b2, 0, none⟩, .pointer (some ⟨jb, 0, none⟩)), (⟨jb, 0, none⟩, .pointer (some ⟨d, 0, none⟩)), (⟨b5, 0, none⟩, .string sp)] W) => run_cell_disk W ⟨jb, 0, none⟩ _ (hW (⟨jb, 0, none⟩, .pointer (some ⟨d, 0, none⟩)) (by simp)))
  have HL2 := Lib.hid (fun W (hW : HasC [(⟨b2, 0, none⟩, .pointer (some ⟨jb, 0, none⟩)), (⟨jb, 0, none⟩, .pointer (some ⟨d, 0, none⟩)), (⟨b5, 0, none⟩, .string sp)] W) => run_cell_s W ⟨b5, 0, none⟩ sp (hW (⟨b5, 0, none⟩, .string sp) (by simp)))
  have h3d := HBD.out
  refine anyH_begin (S := HasC [(⟨b2, 0, none⟩, .pointer (some ⟨jb, 0, none⟩)), (⟨jb, 0, none⟩, .pointer (some ⟨d, 0, none⟩)), (⟨b5, 0, none⟩, .string sp)]) (by kernel_rfl) ?_
  refine anyH_loadG 0 (d := 3) (ty := 28) (x := (.tmp 0)) (gd := none) (p := .pointer (some ⟨b2, 0, none⟩)) (.pointer (some ⟨jb, 0, none⟩)) (by rfl) (fun o ho => wanted_plain ho _) (by kernel_rfl) (by kernel_rfl) (by kernel_rfl) (fun _ _ _ h => h) (by rfl) HL0.out HS.out ?_
  simp only [Act.put, List.setIfInBounds_toArray, List.set_cons_zero, List.set_cons_succ]
  refine anyH_pureG 1 (d := 4) (op := .nilCheck (.tmp 3)) (gd := none) (.pointer (some ⟨jb, 0, none⟩)) (by rfl) (fun o ho => wanted_plain ho _) (by kernel_rfl) (by kernel_rfl) (by kernel_rfl) (fun _ _ _ h => h) (fun o ho W hW => by unfold execOp; simp only [ho]; go_simp) HS.out ?_
  simp only [Act.put, List.setIfInBounds_toArray, List.set_cons_zero, List.set_cons_succ]
  refine anyH_pureG 2 (d := 5) (op := .fieldAddr 79 (.tmp 4) 0) (gd := none) (.pointer (some ⟨jb, 0, none⟩)) (by rfl) (fun o ho => wanted_plain ho _) (by kernel_rfl) (by kernel_rfl) (by kernel_rfl) (fun _ _ _ h => h) (fun o ho W hW => by unfold execOp; simp only [ho]; go_simp) HS.out ?_
  simp only [Act.put, List.setIfInBounds_toArray, List.set_cons_zero, List.set_cons_succ]
  refine anyH_loadG 3 (d := 6) (ty := 23) (x := (.tmp 5)) (gd := none) (p := .pointer (some ⟨jb, 0, none⟩)) (.pointer (some ⟨d, 0, none⟩)) (by rfl) (fun o ho => wanted_plain ho _) (by kernel_rfl) (by kernel_rfl) (by kernel_rfl) (fun _ _ _ h => h) (by rfl) HL1.out HS.out ?_
  simp only [Act.put, List.setIfInBounds_toArray, List.set_cons_zero, List.set_cons_succ]
  refine anyH_loadG 4 (d := 7) (ty := 9) (x := (.tmp 1)) (gd := none) (p := .pointer (some ⟨b5, 0, none⟩)) (.string sp) (by rfl) (fun o ho => wanted_plain ho _) (by kernel_rfl) (by kernel_rfl) (by kernel_rfl) (fun _ _ _ h => h) (by rfl) HL2.out HS.out ?_
  simp only [Act.put, List.setIfInBounds_toArray, List.set_cons_zero, List.set_cons_succ]
  refine anyH_callG 5 (d := some 8) (f := 66) (xs := #[(.tmp 6), (.tmp 7)]) (ts := #[23, 9]) (gd := none) (vs := #[.pointer (some ⟨d, 0, none⟩), .string sp]) (by kernel_rfl) (by rfl) (fun o ho => wanted_plain ho _) (by go_simp) (by go_simp) (HC.out) ?_
  rintro e2 w2 ⟨rfl, h2, h3, h4⟩
  have HE := Lib.hid (show DxR X B d (N + 3) W (mkA sp A) (.returned (.int .i64 x)) w2 from ⟨by rw [HX.out], h2, h3d.trans h3, fun j hj => (h4 j hj).trans rfl⟩)
  have HS2 := Lib.hid (show HasC [(⟨b2, 0, none⟩, .pointer (some ⟨jb, 0, none⟩)), (⟨jb, 0, none⟩, .pointer (some ⟨d, 0, none⟩)), (⟨b5, 0, none⟩, .string sp)] w2 from HS.out.kp h4 HXL.out)
  clear h2 h3 h4
  refine ⟨_, rfl, HS2.out, fun hS => ?_⟩
  clear hS
  simp only [Act.put, List.setIfInBounds_toArray, List.set_cons_zero, List.set_cons_succ]
  refine anyH_pureG 6 (d := 2) (op := .assign (.tmp 8)) (gd := none) (.int .i64 x) (by rfl) (fun o ho => wanted_plain ho _) (by kernel_rfl) (by kernel_rfl) (by kernel_rfl) (fun _ _ _ h => h) (fun o ho W hW => by unfold execOp; simp only [ho]; go_simp) HS2.out ?_
  simp only [Act.put, List.setIfInBounds_toArray, List.set_cons_zero, List.set_cons_succ]
  refine wpAnyH_done (by kernel_rfl) ?_ _
  clear HS HS2 HC HL0 HL1 HL2
  go_wp2_with fail
  go_ret
  exact HE.out
set_option maxRecDepth 100000 in
set_option maxHeartbeats 8000000 in
theorem jmv_c {X : Nat → Prop} {B d N b2 b5 jb : Nat} {A : Ad} {W : World} (h : Dx X B d N A W) (hN : N < 1000000000) (nm sp : ByteArray) (hn : nm.size ≤ maxLen) (hs : sp.size ≤ maxLen) (he : HasC [(⟨b2, 0, none⟩, .pointer (some ⟨jb, 0, none⟩)), (⟨jb, 0, none⟩, .pointer (some ⟨d, 0, none⟩)), (⟨jb, 1, none⟩, .string nm), (⟨b5, 0, none⟩, .string sp)] W) (hx : ∀ p ∈ ([(⟨b2, 0, none⟩, .pointer (some ⟨jb, 0, none⟩)), (⟨jb, 0, none⟩, .pointer (some ⟨d, 0, none⟩)), (⟨jb, 1, none⟩, .string nm), (⟨b5, 0, none⟩, .string sp)] : List (Addr × Value)), X p.1.block) :
    Calls Try.prog 79 #[.pointer (some ⟨b2, 0, none⟩), .pointer (some ⟨b5, 0, none⟩)] W (DxR X B d (N + 3) W (mvA sp nm A)) := by
  have h3d : Below B W (World.drew W) := below_drewN' _ W 1
  have hd := h.below (w' := World.drew W) (below_drewN' _ W 1)
  have HC := Lib.hid (show Calls Try.prog _ _ (World.drew W) (DxR X B d (N + 3) (World.drew W) (mvA sp nm A)) from hd.rename sp nm hs hn hN)
  unfold DxR at HC
  obtain ⟨x, hxx⟩ : ∃ x, (mvA sp nm A).2 = x := ⟨_, rfl⟩
  rw [hxx] at HC
  have HX := Lib.hid hxx
  have HXL := Lib.hid hx
  have HBD := Lib.hid h3d
  have HS := Lib.hid (show HasC [(⟨b2, 0, none⟩, .pointer (some ⟨jb, 0, none⟩)), (⟨jb, 0, none⟩, .pointer (some ⟨d, 0, none⟩)), (⟨jb, 1, none⟩, .string nm), (⟨b5, 0, none⟩, .string sp)] (World.drew W) from fun p hp => he p hp)
  clear h hd hxx he h3d hx
  go_enter Try.func79, Try.ntmps79
  go_upto_region 1 with fail
  have HL0 := Lib.hid (fun W (hW : HasC [(⟨b2, 0, none⟩, .pointer (some ⟨jb, 0, none⟩)), (⟨jb, 0, none⟩, .pointer (some ⟨d, 0, none⟩)), (⟨jb, 1, none⟩, .string nm), (⟨b5, 0, none⟩, .string sp)] W) => run_cell_jn W ⟨b2, 0, none⟩ _ (hW (⟨b2, 0, none⟩, .pointer (some ⟨jb, 0, none⟩)) (by simp)))
  have HL1 := Lib.hid (fun W (hW : HasC [(⟨b2, 0, none⟩, .pointer (some ⟨jb, 0, none⟩)), (⟨jb, 0, none⟩, .pointer (some ⟨d, 0, none⟩)), (⟨jb, 1, none⟩, .string nm), (⟨b5, 0, none⟩, .string sp)] W) => run_cell_disk W ⟨jb, 0, none⟩ _ (hW (⟨jb, 0, none⟩, .pointer (some ⟨d, 0, none⟩)) (by simp)))
  have HL2 := Lib.hid (fun W (hW : HasC [(⟨b2, 0, none⟩, .pointer (some ⟨jb, 0, none⟩)), (⟨jb, 0, none⟩, .pointer (some ⟨d, 0, none⟩)), (⟨jb, 1, none⟩, .string nm), (⟨b5, 0, none⟩, .string sp)] W) => run_cell_s W ⟨jb, 1, none⟩ nm (hW (⟨jb, 1, none⟩, .string nm) (by simp)))
  have HL3 := Lib.hid (fun W (hW : HasC [(⟨b2, 0, none⟩, .pointer (some ⟨jb, 0, none⟩)), (⟨jb, 0, none⟩, .pointer (some ⟨d, 0, none⟩)), (⟨jb, 1, none⟩, .string nm), (⟨b5, 0, none⟩, .string sp)] W) => run_cell_s W ⟨b5, 0, none⟩ sp (hW (⟨b5, 0, none⟩, .string sp) (by simp)))
  have h3d := HBD.out
  refine anyH_begin (S := HasC [(⟨b2, 0, none⟩, .pointer (some ⟨jb, 0, none⟩)), (⟨jb, 0, none⟩, .pointer (some ⟨d, 0, none⟩)), (⟨jb, 1, none⟩, .string nm), (⟨b5, 0, none⟩, .string sp)]) (by kernel_rfl) ?_
  refine anyH_loadG 0 (d := 3) (ty := 28) (x := (.tmp 0)) (gd := none) (p := .pointer (some ⟨b2, 0, none⟩)) (.pointer (some ⟨jb, 0, none⟩)) (by rfl) (fun o ho => wanted_plain ho _) (by kernel_rfl) (by kernel_rfl) (by kernel_rfl) (fun _ _ _ h => h) (by rfl) HL0.out HS.out ?_
  simp only [Act.put, List.setIfInBounds_toArray, List.set_cons_zero, List.set_cons_succ]
  refine anyH_pureG 1 (d := 4) (op := .nilCheck (.tmp 3)) (gd := none) (.pointer (some ⟨jb, 0, none⟩)) (by rfl) (fun o ho => wanted_plain ho _) (by kernel_rfl) (by kernel_rfl) (by kernel_rfl) (fun _ _ _ h => h) (fun o ho W hW => by unfold execOp; simp only [ho]; go_simp) HS.out ?_
  simp only [Act.put, List.setIfInBounds_toArray, List.set_cons_zero, List.set_cons_succ]
  refine anyH_pureG 2 (d := 5) (op := .fieldAddr 79 (.tmp 4) 0) (gd := none) (.pointer (some ⟨jb, 0, none⟩)) (by rfl) (fun o ho => wanted_plain ho _) (by kernel_rfl) (by kernel_rfl) (by kernel_rfl) (fun _ _ _ h => h) (fun o ho W hW => by unfold execOp; simp only [ho]; go_simp) HS.out ?_
  simp only [Act.put, List.setIfInBounds_toArray, List.set_cons_zero, List.set_cons_succ]
  refine anyH_loadG 3 (d := 6) (ty := 23) (x := (.tmp 5)) (gd := none) (p := .pointer (some ⟨jb, 0, none⟩)) (.pointer (some ⟨d, 0, none⟩)) (by rfl) (fun o ho => wanted_plain ho _) (by kernel_rfl) (by kernel_rfl) (by kernel_rfl) (fun _ _ _ h => h) (by rfl) HL1.out HS.out ?_
  simp only [Act.put, List.setIfInBounds_toArray, List.set_cons_zero, List.set_cons_succ]
  refine anyH_loadG 4 (d := 7) (ty := 9) (x := (.tmp 1)) (gd := none) (p := .pointer (some ⟨b5, 0, none⟩)) (.string sp) (by rfl) (fun o ho => wanted_plain ho _) (by kernel_rfl) (by kernel_rfl) (by kernel_rfl) (fun _ _ _ h => h) (by rfl) HL3.out HS.out ?_
  simp only [Act.put, List.setIfInBounds_toArray, List.set_cons_zero, List.set_cons_succ]
  refine anyH_loadG 5 (d := 8) (ty := 28) (x := (.tmp 0)) (gd := none) (p := .pointer (some ⟨b2, 0, none⟩)) (.pointer (some ⟨jb, 0, none⟩)) (by rfl) (fun o ho => wanted_plain ho _) (by kernel_rfl) (by kernel_rfl) (by kernel_rfl) (fun _ _ _ h => h) (by rfl) HL0.out HS.out ?_
  simp only [Act.put, List.setIfInBounds_toArray, List.set_cons_zero, List.set_cons_succ]
  refine anyH_pureG 6 (d := 9) (op := .nilCheck (.tmp 8)) (gd := none) (.pointer (some ⟨jb, 0, none⟩)) (by rfl) (fun o ho => wanted_plain ho _) (by kernel_rfl) (by kernel_rfl) (by kernel_rfl) (fun _ _ _ h => h) (fun o ho W hW => by unfold execOp; simp only [ho]; go_simp) HS.out ?_
  simp only [Act.put, List.setIfInBounds_toArray, List.set_cons_zero, List.set_cons_succ]
  refine anyH_pureG 7 (d := 10) (op := .fieldAddr 79 (.tmp 9) 1) (gd := none) (.pointer (some ⟨jb, 1, none⟩)) (by rfl) (fun o ho => wanted_plain ho _) (by kernel_rfl) (by kernel_rfl) (by kernel_rfl) (fun _ _ _ h => h) (fun o ho W hW => by unfold execOp; simp only [ho]; go_simp) HS.out ?_
  simp only [Act.put, List.setIfInBounds_toArray, List.set_cons_zero, List.set_cons_succ]
  refine anyH_loadG 8 (d := 11) (ty := 9) (x := (.tmp 10)) (gd := none) (p := .pointer (some ⟨jb, 1, none⟩)) (.string nm) (by rfl) (fun o ho => wanted_plain ho _) (by kernel_rfl) (by kernel_rfl) (by kernel_rfl) (fun _ _ _ h => h) (by rfl) HL2.out HS.out ?_
  simp only [Act.put, List.setIfInBounds_toArray, List.set_cons_zero, List.set_cons_succ]
  refine anyH_callG 9 (d := some 12) (f := 80) (xs := #[(.tmp 6), (.tmp 7), (.tmp 11)]) (ts := #[23, 9, 9]) (gd := none) (vs := #[.pointer (some ⟨d, 0, none⟩), .string sp, .string nm]) (by kernel_rfl) (by rfl) (fun o ho => wanted_plain ho _) (by go_simp) (by go_simp) (HC.out) ?_
  rintro e2 w2 ⟨rfl, h2, h3, h4⟩
  have HE := Lib.hid (show DxR X B d (N + 3) W (mvA sp nm A) (.returned (.int .i64 x)) w2 from ⟨by rw [HX.out], h2, h3d.trans h3, fun j hj => (h4 j hj).trans rfl⟩)
  have HS2 := Lib.hid (show HasC [(⟨b2, 0, none⟩, .pointer (some ⟨jb, 0, none⟩)), (⟨jb, 0, none⟩, .pointer (some ⟨d, 0, none⟩)), (⟨jb, 1, none⟩, .string nm), (⟨b5, 0, none⟩, .string sp)] w2 from HS.out.kp h4 HXL.out)
  clear h2 h3 h4
  refine ⟨_, rfl, HS2.out, fun hS => ?_⟩
  clear hS
  simp only [Act.put, List.setIfInBounds_toArray, List.set_cons_zero, List.set_cons_succ]
  refine anyH_pureG 10 (d := 2) (op := .assign (.tmp 12)) (gd := none) (.int .i64 x) (by rfl) (fun o ho => wanted_plain ho _) (by kernel_rfl) (by kernel_rfl) (by kernel_rfl) (fun _ _ _ h => h) (fun o ho W hW => by unfold execOp; simp only [ho]; go_simp) HS2.out ?_
  simp only [Act.put, List.setIfInBounds_toArray, List.set_cons_zero, List.set_cons_succ]
  refine wpAnyH_done (by kernel_rfl) ?_ _
  clear HS HS2 HC HL0 HL1 HL2 HL3
  go_wp2_with fail
  go_ret
  exact HE.out
set_option maxRecDepth 100000 in
set_option maxHeartbeats 8000000 in
theorem jcr_c {X : Nat → Prop} {B d N b2 jb : Nat} {A : Ad} {W : World} (h : Dx X B d N A W) (hN : N < 1000000000) (nm : ByteArray) (hs : nm.size ≤ maxLen) (he : HasC [(⟨b2, 0, none⟩, .pointer (some ⟨jb, 0, none⟩)), (⟨jb, 0, none⟩, .pointer (some ⟨d, 0, none⟩)), (⟨jb, 1, none⟩, .string nm)] W) (hx : ∀ p ∈ ([(⟨b2, 0, none⟩, .pointer (some ⟨jb, 0, none⟩)), (⟨jb, 0, none⟩, .pointer (some ⟨d, 0, none⟩)), (⟨jb, 1, none⟩, .string nm)] : List (Addr × Value)), X p.1.block) :
    Calls Try.prog 65 #[.pointer (some ⟨b2, 0, none⟩)] W (DxR X B d (N + 3) W (mkA nm A)) := by
  have h3d : Below B W (World.drew W) := below_drewN' _ W 1
  have hd := h.below (w' := World.drew W) (below_drewN' _ W 1)
  have HC := Lib.hid (show Calls Try.prog _ _ (World.drew W) (DxR X B d (N + 3) (World.drew W) (mkA nm A)) from hd.create nm hs hN)
  unfold DxR at HC
  obtain ⟨x, hxx⟩ : ∃ x, (mkA nm A).2 = x := ⟨_, rfl⟩
  rw [hxx] at HC
  have HX := Lib.hid hxx
  have HXL := Lib.hid hx
  have HBD := Lib.hid h3d
  have HS := Lib.hid (show HasC [(⟨b2, 0, none⟩, .pointer (some ⟨jb, 0, none⟩)), (⟨jb, 0, none⟩, .pointer (some ⟨d, 0, none⟩)), (⟨jb, 1, none⟩, .string nm)] (World.drew W) from fun p hp => he p hp)
  clear h hd hxx he h3d hx
  go_enter Try.func65, Try.ntmps65
  go_upto_region 1 with fail
  have HL0 := Lib.hid (fun W (hW : HasC [(⟨b2, 0, none⟩, .pointer (some ⟨jb, 0, none⟩)), (⟨jb, 0, none⟩, .pointer (some ⟨d, 0, none⟩)), (⟨jb, 1, none⟩, .string nm)] W) => run_cell_jn W ⟨b2, 0, none⟩ _ (hW (⟨b2, 0, none⟩, .pointer (some ⟨jb, 0, none⟩)) (by simp)))
  have HL1 := Lib.hid (fun W (hW : HasC [(⟨b2, 0, none⟩, .pointer (some ⟨jb, 0, none⟩)), (⟨jb, 0, none⟩, .pointer (some ⟨d, 0, none⟩)), (⟨jb, 1, none⟩, .string nm)] W) => run_cell_disk W ⟨jb, 0, none⟩ _ (hW (⟨jb, 0, none⟩, .pointer (some ⟨d, 0, none⟩)) (by simp)))
  have HL2 := Lib.hid (fun W (hW : HasC [(⟨b2, 0, none⟩, .pointer (some ⟨jb, 0, none⟩)), (⟨jb, 0, none⟩, .pointer (some ⟨d, 0, none⟩)), (⟨jb, 1, none⟩, .string nm)] W) => run_cell_s W ⟨jb, 1, none⟩ nm (hW (⟨jb, 1, none⟩, .string nm) (by simp)))
  have h3d := HBD.out
  refine anyH_begin (S := HasC [(⟨b2, 0, none⟩, .pointer (some ⟨jb, 0, none⟩)), (⟨jb, 0, none⟩, .pointer (some ⟨d, 0, none⟩)), (⟨jb, 1, none⟩, .string nm)]) (by kernel_rfl) ?_
  refine anyH_loadG 0 (d := 2) (ty := 28) (x := (.tmp 0)) (gd := none) (p := .pointer (some ⟨b2, 0, none⟩)) (.pointer (some ⟨jb, 0, none⟩)) (by rfl) (fun o ho => wanted_plain ho _) (by kernel_rfl) (by kernel_rfl) (by kernel_rfl) (fun _ _ _ h => h) (by rfl) HL0.out HS.out ?_
  simp only [Act.put, List.setIfInBounds_toArray, List.set_cons_zero, List.set_cons_succ]
  refine anyH_pureG 1 (d := 3) (op := .nilCheck (.tmp 2)) (gd := none) (.pointer (some ⟨jb, 0, none⟩)) (by rfl) (fun o ho => wanted_plain ho _) (by kernel_rfl) (by kernel_rfl) (by kernel_rfl) (fun _ _ _ h => h) (fun o ho W hW => by unfold execOp; simp only [ho]; go_simp) HS.out ?_
  simp only [Act.put, List.setIfInBounds_toArray, List.set_cons_zero, List.set_cons_succ]
  refine anyH_pureG 2 (d := 4) (op := .fieldAddr 79 (.tmp 3) 0) (gd := none) (.pointer (some ⟨jb, 0, none⟩)) (by rfl) (fun o ho => wanted_plain ho _) (by kernel_rfl) (by kernel_rfl) (by kernel_rfl) (fun _ _ _ h => h) (fun o ho W hW => by unfold execOp; simp only [ho]; go_simp) HS.out ?_
  simp only [Act.put, List.setIfInBounds_toArray, List.set_cons_zero, List.set_cons_succ]
  refine anyH_loadG 3 (d := 5) (ty := 23) (x := (.tmp 4)) (gd := none) (p := .pointer (some ⟨jb, 0, none⟩)) (.pointer (some ⟨d, 0, none⟩)) (by rfl) (fun o ho => wanted_plain ho _) (by kernel_rfl) (by kernel_rfl) (by kernel_rfl) (fun _ _ _ h => h) (by rfl) HL1.out HS.out ?_
  simp only [Act.put, List.setIfInBounds_toArray, List.set_cons_zero, List.set_cons_succ]
  refine anyH_loadG 4 (d := 6) (ty := 28) (x := (.tmp 0)) (gd := none) (p := .pointer (some ⟨b2, 0, none⟩)) (.pointer (some ⟨jb, 0, none⟩)) (by rfl) (fun o ho => wanted_plain ho _) (by kernel_rfl) (by kernel_rfl) (by kernel_rfl) (fun _ _ _ h => h) (by rfl) HL0.out HS.out ?_
  simp only [Act.put, List.setIfInBounds_toArray, List.set_cons_zero, List.set_cons_succ]
  refine anyH_pureG 5 (d := 7) (op := .nilCheck (.tmp 6)) (gd := none) (.pointer (some ⟨jb, 0, none⟩)) (by rfl) (fun o ho => wanted_plain ho _) (by kernel_rfl) (by kernel_rfl) (by kernel_rfl) (fun _ _ _ h => h) (fun o ho W hW => by unfold execOp; simp only [ho]; go_simp) HS.out ?_
  simp only [Act.put, List.setIfInBounds_toArray, List.set_cons_zero, List.set_cons_succ]
  refine anyH_pureG 6 (d := 8) (op := .fieldAddr 79 (.tmp 7) 1) (gd := none) (.pointer (some ⟨jb, 1, none⟩)) (by rfl) (fun o ho => wanted_plain ho _) (by kernel_rfl) (by kernel_rfl) (by kernel_rfl) (fun _ _ _ h => h) (fun o ho W hW => by unfold execOp; simp only [ho]; go_simp) HS.out ?_
  simp only [Act.put, List.setIfInBounds_toArray, List.set_cons_zero, List.set_cons_succ]
  refine anyH_loadG 7 (d := 9) (ty := 9) (x := (.tmp 8)) (gd := none) (p := .pointer (some ⟨jb, 1, none⟩)) (.string nm) (by rfl) (fun o ho => wanted_plain ho _) (by kernel_rfl) (by kernel_rfl) (by kernel_rfl) (fun _ _ _ h => h) (by rfl) HL2.out HS.out ?_
  simp only [Act.put, List.setIfInBounds_toArray, List.set_cons_zero, List.set_cons_succ]
  refine anyH_callG 8 (d := some 10) (f := 66) (xs := #[(.tmp 5), (.tmp 9)]) (ts := #[23, 9]) (gd := none) (vs := #[.pointer (some ⟨d, 0, none⟩), .string nm]) (by kernel_rfl) (by rfl) (fun o ho => wanted_plain ho _) (by go_simp) (by go_simp) (HC.out) ?_
  rintro e2 w2 ⟨rfl, h2, h3, h4⟩
  have HE := Lib.hid (show DxR X B d (N + 3) W (mkA nm A) (.returned (.int .i64 x)) w2 from ⟨by rw [HX.out], h2, h3d.trans h3, fun j hj => (h4 j hj).trans rfl⟩)
  have HS2 := Lib.hid (show HasC [(⟨b2, 0, none⟩, .pointer (some ⟨jb, 0, none⟩)), (⟨jb, 0, none⟩, .pointer (some ⟨d, 0, none⟩)), (⟨jb, 1, none⟩, .string nm)] w2 from HS.out.kp h4 HXL.out)
  clear h2 h3 h4
  refine ⟨_, rfl, HS2.out, fun hS => ?_⟩
  clear hS
  simp only [Act.put, List.setIfInBounds_toArray, List.set_cons_zero, List.set_cons_succ]
  refine anyH_pureG 9 (d := 1) (op := .assign (.tmp 10)) (gd := none) (.int .i64 x) (by rfl) (fun o ho => wanted_plain ho _) (by kernel_rfl) (by kernel_rfl) (by kernel_rfl) (fun _ _ _ h => h) (fun o ho W hW => by unfold execOp; simp only [ho]; go_simp) HS2.out ?_
  simp only [Act.put, List.setIfInBounds_toArray, List.set_cons_zero, List.set_cons_succ]
  refine wpAnyH_done (by kernel_rfl) ?_ _
  clear HS HS2 HC HL0 HL1 HL2
  go_wp2_with fail
  go_ret
  exact HE.out
set_option maxRecDepth 100000 in
theorem jfull_c (W : World) : Calls Try.prog 81 #[] W fun e w' => e = .returned (.int .i64 4) ∧ w' = W := by
  go_enter Try.func81, Try.ntmps81
  go_wp2_with fail
  go_ret
  exact ⟨rfl, rfl⟩
end Go.Proofs.Ytmomdfmilelilaa
