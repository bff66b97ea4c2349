/-
  A journal is rewritten.
-/
import Derived.Test.YtmomdfmilelilaaJoc
namespace Go.Proofs.Ytmomdfmilelilaa
open Go.RowKit
set_option linter.unusedVariables false
theorem HasC.sub {L M : List (Addr × Value)} {W : World} (h : HasC L W) (hs : ∀ p ∈ M, p ∈ L) : HasC M W := fun p hp => h p (hs p hp)
theorem wp_bsJ6 {w : World} {op : Oper} {a : Act} {K : Act → World → Prop} {Q : Exit → Act → World → Prop} (x0 x1 x2 x3 x4 x5 : Operand) (ho : op.op = .buildSlice 138 6 #[(0, x0), (1, x1), (2, x2), (3, x3), (4, x4), (5, x5)]) (v0 v1 v2 v3 v4 v5 : Stp)
    (h0 : a.eval x0 = .func (.func v0.f) v0.A v0.C) (h1 : a.eval x1 = .func (.func v1.f) v1.A v1.C) (h2 : a.eval x2 = .func (.func v2.f) v2.A v2.C) (h3 : a.eval x3 = .func (.func v3.f) v3.A v3.C) (h4 : a.eval x4 = .func (.func v4.f) v4.A v4.C) (h5 : a.eval x5 = .func (.func v5.f) v5.A v5.C)
    (k : K (a.put op.dst (.slice (some ⟨w.heap.size, 0, none⟩) 6 6)) (w.alloc (.cells #[.func (.func v0.f) v0.A v0.C, .func (.func v1.f) v1.A v1.C, .func (.func v2.f) v2.A v2.C, .func (.func v3.f) v3.A v3.C, .func (.func v4.f) v4.A v4.C, .func (.func v5.f) v5.A v5.C] 38))) : op.wp Try.prog a w K Q := by
  unfold Oper.wp execOp
  simp only [ho, List.map_toArray, List.map_cons, List.map_nil, h0, h1, h2, h3, h4, h5]
  go_simp
  exact k
set_option maxRecDepth 100000 in
set_option maxHeartbeats 8000000 in
theorem jap_c {X : Nat → Prop} {B d N b2 b3 b5 jb : Nat} {A : Ad} {W : World} (h : Dx X B d N A W) (hN : N < 1000000000) (sp : ByteArray) (hs : sp.size ≤ maxLen) (ra : Option Addr) (rn rc : Nat) (ps : List (List Nat)) (hr : Rcd X B W ra rn ps) (hrn : rn ≤ 1000000) (hfl : (Frm.flatF ps).length < 1048576) (hpb : ∀ p ∈ ps, ∀ z ∈ p, z < 256) (he : HasC [(⟨b2, 0, none⟩, .pointer (some ⟨jb, 0, none⟩)), (⟨jb, 0, none⟩, .pointer (some ⟨d, 0, none⟩)), (⟨b5, 0, none⟩, .string sp), (⟨b3, 0, none⟩, .slice ra rn rc)] W) (hx : ∀ p ∈ ([(⟨b2, 0, none⟩, .pointer (some ⟨jb, 0, none⟩)), (⟨jb, 0, none⟩, .pointer (some ⟨d, 0, none⟩)), (⟨b5, 0, none⟩, .string sp), (⟨b3, 0, none⟩, .slice ra rn rc)] : List (Addr × Value)), X p.1.block) :
    Calls Try.prog 77 #[.pointer (some ⟨b2, 0, none⟩), .pointer (some ⟨b5, 0, none⟩), .pointer (some ⟨b3, 0, none⟩)] W (DxR X B d (N + 3) W (apF sp (Frm.flatF ps) A)) := by
  have h3d : Below B W (World.drew W) := below_drewN' _ W 1
  have hd := h.below (w' := World.drew W) (below_drewN' _ W 1)
  have HC := Lib.hid (show Calls Try.prog _ _ (World.drew W) (DxR X B d (N + 3) (World.drew W) (apF sp (Frm.flatF ps) A)) from japf_c hd hN sp hs ra rn rc ps (hr.below (below_drewN' _ W 1)) hrn hfl hpb)
  unfold DxR at HC
  obtain ⟨x, hxx⟩ : ∃ x, (apF sp (Frm.flatF ps) A).2 = x := ⟨_, rfl⟩
  rw [hxx] at HC
  have HX := Lib.hid hxx
  have HXL := Lib.hid hx
  have HBD := Lib.hid h3d
  have HS := Lib.hid (show HasC [(⟨b2, 0, none⟩, .pointer (some ⟨jb, 0, none⟩)), (⟨jb, 0, none⟩, .pointer (some ⟨d, 0, none⟩)), (⟨b5, 0, none⟩, .string sp), (⟨b3, 0, none⟩, .slice ra rn rc)] (World.drew W) from fun p hp => he p hp)
  clear h hd hxx he h3d hx
  go_enter Try.func77, Try.ntmps77
  go_upto_region 1 with fail
  have HL0 := Lib.hid (fun W (hW : HasC [(⟨b2, 0, none⟩, .pointer (some ⟨jb, 0, none⟩)), (⟨jb, 0, none⟩, .pointer (some ⟨d, 0, none⟩)), (⟨b5, 0, none⟩, .string sp), (⟨b3, 0, none⟩, .slice ra rn rc)] W) => run_cell_jn W ⟨b2, 0, none⟩ _ (hW (⟨b2, 0, none⟩, .pointer (some ⟨jb, 0, none⟩)) (by simp)))
  have HL1 := Lib.hid (fun W (hW : HasC [(⟨b2, 0, none⟩, .pointer (some ⟨jb, 0, none⟩)), (⟨jb, 0, none⟩, .pointer (some ⟨d, 0, none⟩)), (⟨b5, 0, none⟩, .string sp), (⟨b3, 0, none⟩, .slice ra rn rc)] W) => run_cell_disk W ⟨jb, 0, none⟩ _ (hW (⟨jb, 0, none⟩, .pointer (some ⟨d, 0, none⟩)) (by simp)))
  have HL2 := Lib.hid (fun W (hW : HasC [(⟨b2, 0, none⟩, .pointer (some ⟨jb, 0, none⟩)), (⟨jb, 0, none⟩, .pointer (some ⟨d, 0, none⟩)), (⟨b5, 0, none⟩, .string sp), (⟨b3, 0, none⟩, .slice ra rn rc)] W) => run_cell_s W ⟨b5, 0, none⟩ sp (hW (⟨b5, 0, none⟩, .string sp) (by simp)))
  have HL3 := Lib.hid (fun W (hW : HasC [(⟨b2, 0, none⟩, .pointer (some ⟨jb, 0, none⟩)), (⟨jb, 0, none⟩, .pointer (some ⟨d, 0, none⟩)), (⟨b5, 0, none⟩, .string sp), (⟨b3, 0, none⟩, .slice ra rn rc)] W) => run_cell_bb W ⟨b3, 0, none⟩ ra rn rc (hW (⟨b3, 0, none⟩, .slice ra rn rc) (by simp)))
  have h3d := HBD.out
  refine anyH_begin (S := HasC [(⟨b2, 0, none⟩, .pointer (some ⟨jb, 0, none⟩)), (⟨jb, 0, none⟩, .pointer (some ⟨d, 0, none⟩)), (⟨b5, 0, none⟩, .string sp), (⟨b3, 0, none⟩, .slice ra rn rc)]) (by kernel_rfl) ?_
  refine anyH_loadG 0 (d := 4) (ty := 28) (x := (.tmp 0)) (gd := none) (p := .pointer (some ⟨b2, 0, none⟩)) (.pointer (some ⟨jb, 0, none⟩)) (by rfl) (fun o ho => wanted_plain ho _) (by kernel_rfl) (by kernel_rfl) (by kernel_rfl) (fun _ _ _ h => h) (by rfl) HL0.out HS.out ?_
  simp only [Act.put, List.setIfInBounds_toArray, List.set_cons_zero, List.set_cons_succ]
  refine anyH_pureG 1 (d := 5) (op := .nilCheck (.tmp 4)) (gd := none) (.pointer (some ⟨jb, 0, none⟩)) (by rfl) (fun o ho => wanted_plain ho _) (by kernel_rfl) (by kernel_rfl) (by kernel_rfl) (fun _ _ _ h => h) (fun o ho W hW => by unfold execOp; simp only [ho]; go_simp) HS.out ?_
  simp only [Act.put, List.setIfInBounds_toArray, List.set_cons_zero, List.set_cons_succ]
  refine anyH_pureG 2 (d := 6) (op := .fieldAddr 79 (.tmp 5) 0) (gd := none) (.pointer (some ⟨jb, 0, none⟩)) (by rfl) (fun o ho => wanted_plain ho _) (by kernel_rfl) (by kernel_rfl) (by kernel_rfl) (fun _ _ _ h => h) (fun o ho W hW => by unfold execOp; simp only [ho]; go_simp) HS.out ?_
  simp only [Act.put, List.setIfInBounds_toArray, List.set_cons_zero, List.set_cons_succ]
  refine anyH_loadG 3 (d := 7) (ty := 23) (x := (.tmp 6)) (gd := none) (p := .pointer (some ⟨jb, 0, none⟩)) (.pointer (some ⟨d, 0, none⟩)) (by rfl) (fun o ho => wanted_plain ho _) (by kernel_rfl) (by kernel_rfl) (by kernel_rfl) (fun _ _ _ h => h) (by rfl) HL1.out HS.out ?_
  simp only [Act.put, List.setIfInBounds_toArray, List.set_cons_zero, List.set_cons_succ]
  refine anyH_loadG 4 (d := 8) (ty := 9) (x := (.tmp 1)) (gd := none) (p := .pointer (some ⟨b5, 0, none⟩)) (.string sp) (by rfl) (fun o ho => wanted_plain ho _) (by kernel_rfl) (by kernel_rfl) (by kernel_rfl) (fun _ _ _ h => h) (by rfl) HL2.out HS.out ?_
  simp only [Act.put, List.setIfInBounds_toArray, List.set_cons_zero, List.set_cons_succ]
  refine anyH_loadG 5 (d := 9) (ty := 29) (x := (.tmp 2)) (gd := none) (p := .pointer (some ⟨b3, 0, none⟩)) (.slice ra rn rc) (by rfl) (fun o ho => wanted_plain ho _) (by kernel_rfl) (by kernel_rfl) (by kernel_rfl) (fun _ _ _ h => h) (by rfl) HL3.out HS.out ?_
  simp only [Act.put, List.setIfInBounds_toArray, List.set_cons_zero, List.set_cons_succ]
  refine anyH_callG 6 (d := some 10) (f := 78) (xs := #[(.tmp 7), (.tmp 8), (.tmp 9)]) (ts := #[23, 9, 29]) (gd := none) (vs := #[.pointer (some ⟨d, 0, none⟩), .string sp, .slice ra rn rc]) (by kernel_rfl) (by rfl) (fun o ho => wanted_plain ho _) (by go_simp) (by go_simp) (HC.out) ?_
  rintro e2 w2 ⟨rfl, h2, h3, h4⟩
  have HE := Lib.hid (show DxR X B d (N + 3) W (apF sp (Frm.flatF ps) A) (.returned (.int .i64 x)) w2 from ⟨by rw [HX.out], h2, h3d.trans h3, fun j hj => (h4 j hj).trans rfl⟩)
  have HS2 := Lib.hid (show HasC [(⟨b2, 0, none⟩, .pointer (some ⟨jb, 0, none⟩)), (⟨jb, 0, none⟩, .pointer (some ⟨d, 0, none⟩)), (⟨b5, 0, none⟩, .string sp), (⟨b3, 0, none⟩, .slice ra rn rc)] w2 from HS.out.kp h4 HXL.out)
  clear h2 h3 h4
  refine ⟨_, rfl, HS2.out, fun hS => ?_⟩
  clear hS
  simp only [Act.put, List.setIfInBounds_toArray, List.set_cons_zero, List.set_cons_succ]
  refine anyH_pureG 7 (d := 3) (op := .assign (.tmp 10)) (gd := none) (.int .i64 x) (by rfl) (fun o ho => wanted_plain ho _) (by kernel_rfl) (by kernel_rfl) (by kernel_rfl) (fun _ _ _ h => h) (fun o ho W hW => by unfold execOp; simp only [ho]; go_simp) HS2.out ?_
  simp only [Act.put, List.setIfInBounds_toArray, List.set_cons_zero, List.set_cons_succ]
  refine wpAnyH_done (by kernel_rfl) ?_ _
  clear HS HS2 HC HL0 HL1 HL2 HL3
  go_wp2_with fail
  go_ret
  exact HE.out
/-- the steps of a rewrite -/
def rwS (nm sp : ByteArray) (z : List Nat) : List (Ad → Ad × Int) := [rmA sp, mkA sp, apF sp z, Ad.sync, mvA sp nm, Ad.sync]
/-- where there was no room, what was begun is removed -/
def rwE (sp : ByteArray) (r : Ad × Int) : Ad × Int := if r.2 = 4 then runA [rmA sp, fun A => (A, 4)] r.1 else r
def Ad.rw (A : Ad) (nm sp : ByteArray) (z : List Nat) : Ad × Int := rwE sp (runA (rwS nm sp z) A)
set_option maxRecDepth 100000 in
set_option maxHeartbeats 8000000 in
theorem jrewrite_c {X : Nat → Prop} {B d N jb : Nat} {A : Ad} {w : World} {nm : ByteArray} (h : Dx X B d N A w) (hN : N < 100000000) (hxj : X jb) (hj : HasC [(⟨jb, 0, none⟩, .pointer (some ⟨d, 0, none⟩)), (⟨jb, 1, none⟩, .string nm)] w) (hn : nm.size ≤ 1000) (ra : Option Addr) (rn rc : Nat) (ps : List (List Nat)) (hr : Rcd X B w ra rn ps) (hrn : rn ≤ 1000000) (hfl : (Frm.flatF ps).length < 1048576) (hpb : ∀ p ∈ ps, ∀ z ∈ p, z < 256) :
    Calls Try.prog 43 #[.pointer (some ⟨jb, 0, none⟩), .slice ra rn rc] w (DxR X B d (N + 24) w (A.rw nm (nm ++ ⟨#[43]⟩) (Frm.flatF ps))) := by
  have hXB : B ≤ w.heap.size := Nat.le_of_lt (Nat.lt_of_le_of_lt h.base.1 h.base.2)
  have hjl : jb < w.heap.size := h.lt jb hxj
  have hss : (nm ++ ⟨#[43]⟩ : ByteArray).size = nm.size + 1 := by rw [ByteArray.size_append]; rfl
  have hs : (nm ++ ⟨#[43]⟩ : ByteArray).size ≤ maxLen := by rw [hss]; unfold maxLen; omega
  have hnl : nm.size ≤ maxLen := by unfold maxLen; omega
  have hadd : ¬ 9223372036854775807 < nm.size + 1 := by omega
  obtain ⟨b2, hb2⟩ : ∃ b2, b2 = w.heap.size := ⟨_, rfl⟩
  obtain ⟨w1, hw1⟩ : ∃ w1, w1 = w.alloc (.cells #[.pointer (some ⟨jb, 0, none⟩)] 28) := ⟨_, rfl⟩
  obtain ⟨b3, hb3⟩ : ∃ b3, b3 = w1.heap.size := ⟨_, rfl⟩
  obtain ⟨w2, hw2⟩ : ∃ w2, w2 = w1.alloc (.cells #[.slice ra rn rc] 29) := ⟨_, rfl⟩
  obtain ⟨b5, hb5⟩ : ∃ b5, b5 = w2.heap.size := ⟨_, rfl⟩
  obtain ⟨w3, hw3⟩ : ∃ w3, w3 = w2.alloc (.cells #[.string (nm ++ ⟨#[43]⟩)] 9) := ⟨_, rfl⟩
  obtain ⟨b7, hb7⟩ : ∃ b7, b7 = (World.drew w3).heap.size := ⟨_, rfl⟩
  obtain ⟨w7, hw7⟩ : ∃ w7, w7 = (World.drew w3).alloc (.cells #[.func (.func 74) #[] #[.pointer (some ⟨b2, 0, none⟩), .pointer (some ⟨b5, 0, none⟩)], .func (.func 76) #[] #[.pointer (some ⟨b2, 0, none⟩), .pointer (some ⟨b5, 0, none⟩)], .func (.func 77) #[] #[.pointer (some ⟨b2, 0, none⟩), .pointer (some ⟨b5, 0, none⟩), .pointer (some ⟨b3, 0, none⟩)], .func (.func 42) #[.pointer (some ⟨d, 0, none⟩)] #[], .func (.func 79) #[] #[.pointer (some ⟨b2, 0, none⟩), .pointer (some ⟨b5, 0, none⟩)], .func (.func 42) #[.pointer (some ⟨d, 0, none⟩)] #[]] 38) := ⟨_, rfl⟩
  have z1 : w1.heap.size = b2 + 1 := by rw [hw1, hb2]; simp
  have z2 : w2.heap.size = b3 + 1 := by rw [hw2, hb3]; simp
  have z3 : w3.heap.size = b5 + 1 := by rw [hw3, hb5]; simp
  have z7 : w7.heap.size = b7 + 1 := by rw [hw7, hb7]; simp
  have zb : b7 = w3.heap.size := hb7
  have q1 : Below w.heap.size w w1 := by rw [hw1]; exact (Below.refl _ _).alloc (Nat.le_refl _) _
  have q2 : Below w1.heap.size w1 w2 := by rw [hw2]; exact (Below.refl _ _).alloc (Nat.le_refl _) _
  have q3 : Below w2.heap.size w2 w3 := by rw [hw3]; exact (Below.refl _ _).alloc (Nat.le_refl _) _
  have q7 : Below w3.heap.size w3 w7 := Below.trans (b := World.drew w3) (below_drewN' _ w3 1) (show Below w3.heap.size (World.drew w3) w7 by rw [hw7]; exact (Below.refl (World.drew w3).heap.size (World.drew w3)).alloc (Nat.le_refl _) _)
  have r37 : Below w2.heap.size w2 w7 := q3.trans (q7.mono q3.size)
  have r27 : Below w1.heap.size w1 w7 := q2.trans (r37.mono q2.size)
  have r17 : Below w.heap.size w w7 := q1.trans (r27.mono q1.size)
  have k2 : w7.heap[b2]? = some (.cells #[.pointer (some ⟨jb, 0, none⟩)] 28 (0, 0)) := (r27.block b2 (by omega)).trans (by rw [hw1, hb2]; exact heap_alloc_new w _)
  have k3 : w7.heap[b3]? = some (.cells #[.slice ra rn rc] 29 (0, 0)) := (r37.block b3 (by omega)).trans (by rw [hw2, hb3]; exact heap_alloc_new w1 _)
  have k5 : w7.heap[b5]? = some (.cells #[.string (nm ++ ⟨#[43]⟩)] 9 (0, 0)) := (q7.block b5 (by omega)).trans (by rw [hw3, hb5]; exact heap_alloc_new w2 _)
  have k7 : w7.heap[b7]? = some (.cells #[.func (.func 74) #[] #[.pointer (some ⟨b2, 0, none⟩), .pointer (some ⟨b5, 0, none⟩)], .func (.func 76) #[] #[.pointer (some ⟨b2, 0, none⟩), .pointer (some ⟨b5, 0, none⟩)], .func (.func 77) #[] #[.pointer (some ⟨b2, 0, none⟩), .pointer (some ⟨b5, 0, none⟩), .pointer (some ⟨b3, 0, none⟩)], .func (.func 42) #[.pointer (some ⟨d, 0, none⟩)] #[], .func (.func 79) #[] #[.pointer (some ⟨b2, 0, none⟩), .pointer (some ⟨b5, 0, none⟩)], .func (.func 42) #[.pointer (some ⟨d, 0, none⟩)] #[]] 38 (0, 0)) := by rw [hw7, hb7]; exact heap_alloc_new _ _
  have hL7 : HasC [(⟨b2, 0, none⟩, .pointer (some ⟨jb, 0, none⟩)), (⟨jb, 0, none⟩, .pointer (some ⟨d, 0, none⟩)), (⟨jb, 1, none⟩, .string nm), (⟨b5, 0, none⟩, .string (nm ++ ⟨#[43]⟩)), (⟨b3, 0, none⟩, .slice ra rn rc)] w7 := by
    intro p hp
    simp only [List.mem_cons, List.not_mem_nil, or_false] at hp
    rcases hp with rfl | rfl | rfl | rfl | rfl
    · exact cell_of_row w7 b2 0 _ _ _ k2
    · exact (r17.cell (p := ⟨jb, 0, none⟩) hjl).trans (hj (⟨jb, 0, none⟩, .pointer (some ⟨d, 0, none⟩)) (by simp))
    · exact (r17.cell (p := ⟨jb, 1, none⟩) hjl).trans (hj (⟨jb, 1, none⟩, .string nm) (by simp))
    · exact cell_of_row w7 b5 0 _ _ _ k5
    · exact cell_of_row w7 b3 0 _ _ _ k3
  obtain ⟨X7, hX7⟩ : ∃ X7 : Nat → Prop, X7 = fun j => X j ∨ j = b2 ∨ j = b3 ∨ j = b5 ∨ j = b7 := ⟨_, rfl⟩
  have hXX : ∀ j, X j → X7 j := fun j hj => by rw [hX7]; exact .inl hj
  have hd7 : Dx X7 B d N A w7 := h.belowY r17 (fun j hj => by rw [hX7] at hj; rcases hj with hj | hj; exact .inl hj; exact .inr (by omega)) (fun j hj => by
    rw [hX7] at hj
    rcases hj with hj | hj
    · exact Nat.lt_of_lt_of_le (h.lt j hj) r17.size
    · omega)
  have hr7 : Rcd X7 B w7 ra rn ps := (hr.below r17).more hXX
  have x2 : X7 b2 := by rw [hX7]; exact .inr (.inl rfl)
  have x3 : X7 b3 := by rw [hX7]; exact .inr (.inr (.inl rfl))
  have x5 : X7 b5 := by rw [hX7]; exact .inr (.inr (.inr (.inl rfl)))
  have x7 : X7 b7 := by rw [hX7]; exact .inr (.inr (.inr (.inr rfl)))
  have xj : X7 jb := hXX jb hxj
  have hIN := jorder_ad hd7 b7 6 (fun i => match i with | 0 => ⟨74, #[], #[.pointer (some ⟨b2, 0, none⟩), .pointer (some ⟨b5, 0, none⟩)]⟩ | 1 => ⟨76, #[], #[.pointer (some ⟨b2, 0, none⟩), .pointer (some ⟨b5, 0, none⟩)]⟩ | 2 => ⟨77, #[], #[.pointer (some ⟨b2, 0, none⟩), .pointer (some ⟨b5, 0, none⟩), .pointer (some ⟨b3, 0, none⟩)]⟩ | 3 => ⟨42, #[.pointer (some ⟨d, 0, none⟩)], #[]⟩ | 4 => ⟨79, #[], #[.pointer (some ⟨b2, 0, none⟩), .pointer (some ⟨b5, 0, none⟩)]⟩ | _ => ⟨42, #[.pointer (some ⟨d, 0, none⟩)], #[]⟩) (rwS nm (nm ++ ⟨#[43]⟩) (Frm.flatF ps)) rfl (by omega) x7 (fun i hi => by
      rw [cell_of_row w7 b7 i _ _ _ k7]
      match i, hi with
      | 0, _ => rfl
      | 1, _ => rfl
      | 2, _ => rfl
      | 3, _ => rfl
      | 4, _ => rfl
      | 5, _ => rfl) (fun i hi => by
      match i, hi with
      | 0, _ => exact enters_of Try.func74 (by kernel_rfl) rfl
      | 1, _ => exact enters_of Try.func76 (by kernel_rfl) rfl
      | 2, _ => exact enters_of Try.func77 (by kernel_rfl) rfl
      | 3, _ => exact enters_of Try.func42 (by kernel_rfl) rfl
      | 4, _ => exact enters_of Try.func79 (by kernel_rfl) rfl
      | 5, _ => exact enters_of Try.func42 (by kernel_rfl) rfl) (fun i f hf A1 W g1 g2 g3 => by
      have yL : HasC [(⟨b2, 0, none⟩, .pointer (some ⟨jb, 0, none⟩)), (⟨jb, 0, none⟩, .pointer (some ⟨d, 0, none⟩)), (⟨jb, 1, none⟩, .string nm), (⟨b5, 0, none⟩, .string (nm ++ ⟨#[43]⟩)), (⟨b3, 0, none⟩, .slice ra rn rc)] W := hL7.kp g3 (by simp [x2, x3, x5, xj])
      have hi : i < 6 := (List.getElem?_eq_some_iff.1 hf).1
      match i, hi, hf with
      | 0, _, hf => cases hf; exact jrm_c (b2 := b2) (b5 := b5) (jb := jb) g1 (by omega) _ hs (yL.sub (by simp)) (by simp [x2, x3, x5, xj])
      | 1, _, hf => cases hf; exact jmk_c (b2 := b2) (b5 := b5) (jb := jb) g1 (by omega) _ hs (yL.sub (by simp)) (by simp [x2, x3, x5, xj])
      | 2, _, hf => cases hf; exact jap_c (b2 := b2) (b3 := b3) (b5 := b5) (jb := jb) g1 (by omega) _ hs ra rn rc ps (hr7.kp g2 g3) hrn hfl hpb (yL.sub (by simp)) (by simp [x2, x3, x5, xj])
      | 3, _, hf => cases hf; exact g1.sync
      | 4, _, hf => cases hf; exact jmv_c (b2 := b2) (b5 := b5) (jb := jb) g1 (by omega) nm _ hnl hs (yL.sub (by simp)) (by simp [x2, x3, x5, xj])
      | 5, _, hf => cases hf; exact g1.sync)
  obtain ⟨r, hrr⟩ : ∃ r, runA (rwS nm (nm ++ ⟨#[43]⟩) (Frm.flatF ps)) A = r := ⟨_, rfl⟩
  have hrw : A.rw nm (nm ++ ⟨#[43]⟩) (Frm.flatF ps) = rwE (nm ++ ⟨#[43]⟩) r := by unfold Ad.rw; rw [hrr]
  rw [hrr] at hIN
  rw [hrw]
  obtain ⟨A', x⟩ := r
  have hIN2 : ∀ w8, Dx X7 B d (N + 3 * 6) A' w8 → Below B w7 w8 → KpD X7 w7 w8 → Calls Try.prog 67 #[.slice (some ⟨w8.heap.size, 0, none⟩) 2 2] (w8.alloc (.cells #[.func (.func 74) #[] #[.pointer (some ⟨b2, 0, none⟩), .pointer (some ⟨b5, 0, none⟩)], .func (.func 81) #[] #[]] 38)) (DxR (fun j => X7 j ∨ j = w8.heap.size) B d (N + 3 * 6 + 3 * 2) (w8.alloc (.cells #[.func (.func 74) #[] #[.pointer (some ⟨b2, 0, none⟩), .pointer (some ⟨b5, 0, none⟩)], .func (.func 81) #[] #[]] 38)) (runA [rmA (nm ++ ⟨#[43]⟩), fun A => (A, 4)] A')) := fun w8 g1 g2 g3 => by
    have q9 : Below w8.heap.size w8 (w8.alloc (.cells #[.func (.func 74) #[] #[.pointer (some ⟨b2, 0, none⟩), .pointer (some ⟨b5, 0, none⟩)], .func (.func 81) #[] #[]] 38)) := (Below.refl _ _).alloc (Nat.le_refl _) _
    have k9 : (w8.alloc (.cells #[.func (.func 74) #[] #[.pointer (some ⟨b2, 0, none⟩), .pointer (some ⟨b5, 0, none⟩)], .func (.func 81) #[] #[]] 38)).heap[w8.heap.size]? = some (.cells #[.func (.func 74) #[] #[.pointer (some ⟨b2, 0, none⟩), .pointer (some ⟨b5, 0, none⟩)], .func (.func 81) #[] #[]] 38 (0, 0)) := heap_alloc_new w8 _
    have hd9 : Dx (fun j => X7 j ∨ j = w8.heap.size) B d (N + 3 * 6) A' (w8.alloc (.cells #[.func (.func 74) #[] #[.pointer (some ⟨b2, 0, none⟩), .pointer (some ⟨b5, 0, none⟩)], .func (.func 81) #[] #[]] 38)) := g1.belowY q9 (fun j hj => hj.imp id fun e => by omega) (fun j hj => hj.elim (fun e => Nat.lt_of_lt_of_le (g1.lt j e) q9.size) fun e => by rw [e]; simp)
    have hL9 : HasC [(⟨b2, 0, none⟩, .pointer (some ⟨jb, 0, none⟩)), (⟨jb, 0, none⟩, .pointer (some ⟨d, 0, none⟩)), (⟨jb, 1, none⟩, .string nm), (⟨b5, 0, none⟩, .string (nm ++ ⟨#[43]⟩)), (⟨b3, 0, none⟩, .slice ra rn rc)] (w8.alloc (.cells #[.func (.func 74) #[] #[.pointer (some ⟨b2, 0, none⟩), .pointer (some ⟨b5, 0, none⟩)], .func (.func 81) #[] #[]] 38)) := (hL7.kp g3 (by simp [x2, x3, x5, xj])).below q9 (by simp [g1.lt _ x2, g1.lt _ x3, g1.lt _ x5, g1.lt _ xj])
    refine jorder_ad hd9 w8.heap.size 2 (fun i => match i with | 0 => ⟨74, #[], #[.pointer (some ⟨b2, 0, none⟩), .pointer (some ⟨b5, 0, none⟩)]⟩ | _ => ⟨81, #[], #[]⟩) _ rfl (by omega) (.inr rfl) (fun i hi => by
      rw [cell_of_row _ _ i _ _ _ k9]
      match i, hi with
      | 0, _ => rfl
      | 1, _ => rfl) (fun i hi => by
      match i, hi with
      | 0, _ => exact enters_of Try.func74 (by kernel_rfl) rfl
      | 1, _ => exact enters_of Try.func81 (by kernel_rfl) rfl) (fun i f hf A1 W g4 g5 g6 => by
      have yL : HasC [(⟨b2, 0, none⟩, .pointer (some ⟨jb, 0, none⟩)), (⟨jb, 0, none⟩, .pointer (some ⟨d, 0, none⟩)), (⟨jb, 1, none⟩, .string nm), (⟨b5, 0, none⟩, .string (nm ++ ⟨#[43]⟩)), (⟨b3, 0, none⟩, .slice ra rn rc)] W := hL9.kp g6 (by simp [x2, x3, x5, xj])
      have hi : i < 2 := (List.getElem?_eq_some_iff.1 hf).1
      match i, hi, hf with
      | 0, _, hf => cases hf; exact jrm_c (b2 := b2) (b5 := b5) (jb := jb) g4 (by omega) _ hs (yL.sub (by simp)) (by simp [x2, x3, x5, xj])
      | 1, _, hf =>
        cases hf
        refine (jfull_c W).mono ?_
        rintro e w' ⟨rfl, rfl⟩
        exact ⟨rfl, g4.mono (by omega), Below.refl _ _, KpD.refl _ _⟩)
  have HIN := Lib.hid hIN
  have HIN2 := Lib.hid hIN2
  have HB7 := Lib.hid hb7.symm
  have HW7 := Lib.hid hw7
  have HC7 := Lib.hid (show HasC [(⟨b2, 0, none⟩, .pointer (some ⟨jb, 0, none⟩)), (⟨jb, 0, none⟩, .pointer (some ⟨d, 0, none⟩))] w7 from hL7.sub (by simp))
  have HXS := Lib.hid (show ∀ p ∈ ([(⟨b2, 0, none⟩, .pointer (some ⟨jb, 0, none⟩)), (⟨jb, 0, none⟩, .pointer (some ⟨d, 0, none⟩))] : List (Addr × Value)), X7 p.1.block from by simp [x2, xj])
  have HW := Lib.hid r17
  have HBX := Lib.hid hXB
  have HLT := Lib.hid h.lt
  have HXI := Lib.hid hXX
  have s2 : w3.cell? ⟨b2, 0, none⟩ = some (.pointer (some ⟨jb, 0, none⟩)) := by rw [← q7.cell (p := ⟨b2, 0, none⟩) (by show b2 < _; omega)]; exact cell_of_row w7 b2 0 _ _ _ k2
  have sj : w3.cell? ⟨jb, 0, none⟩ = some (.pointer (some ⟨d, 0, none⟩)) := by rw [← q7.cell (p := ⟨jb, 0, none⟩) (by show jb < _; omega)]; exact hL7 (⟨jb, 0, none⟩, .pointer (some ⟨d, 0, none⟩)) (by simp)
  have HS3 := Lib.hid (show HasC [(⟨b2, 0, none⟩, .pointer (some ⟨jb, 0, none⟩)), (⟨jb, 0, none⟩, .pointer (some ⟨d, 0, none⟩))] (World.drew w3) from by
    intro p hp
    simp only [List.mem_cons, List.not_mem_nil, or_false] at hp
    rcases hp with rfl | rfl
    · exact s2
    · exact sj)
  have y2 : w2.cell? ⟨b2, 0, none⟩ = some (.pointer (some ⟨jb, 0, none⟩)) := by rw [← r37.cell (p := ⟨b2, 0, none⟩) (by show b2 < _; omega)]; exact cell_of_row w7 b2 0 _ _ _ k2
  have yj : w2.cell? ⟨jb, 1, none⟩ = some (.string nm) := by rw [← r37.cell (p := ⟨jb, 1, none⟩) (by show jb < _; omega)]; exact hL7 (⟨jb, 1, none⟩, .string nm) (by simp)
  have hmf : ∀ (fn : Fn) (first cap : Array Value) (w : World), (Instr.makeFunc fn first cap).run Try.prog w = .ok (.func fn first cap) w := fun _ _ _ _ => rfl
  have e3 : b2 + 1 = b3 := by omega
  clear hIN hIN2 hb7 hw7 z1 z2 z3 z7 zb q1 q2 q3 q7 r37 r27 r17 k2 k3 k5 k7 hL7 hd7 hr7 x2 x3 x5 x7 xj s2 sj hr h hj hXB hjl hss hs hnl hX7 hXX hrr hrw hrn hfl hpb
  go_enter Try.func43, Try.ntmps43
  go_upto_region 1 with fail
  rw [← hb2, ← hw1, e3, ← hw2]
  clear hw1 hw2 hb2 e3 hb3
  go_upto_region 3 with fail
  rw [← hb5, ← hw3]
  clear hw3 hb5 hadd hmf y2 yj
  have HS := HS3
  have HL1 := Lib.hid (fun W (hW : HasC [(⟨b2, 0, none⟩, .pointer (some ⟨jb, 0, none⟩)), (⟨jb, 0, none⟩, .pointer (some ⟨d, 0, none⟩))] W) => run_cell_jn W ⟨b2, 0, none⟩ _ (hW (⟨b2, 0, none⟩, .pointer (some ⟨jb, 0, none⟩)) (by simp)))
  have HL2 := Lib.hid (fun W (hW : HasC [(⟨b2, 0, none⟩, .pointer (some ⟨jb, 0, none⟩)), (⟨jb, 0, none⟩, .pointer (some ⟨d, 0, none⟩))] W) => run_cell_disk W ⟨jb, 0, none⟩ _ (hW (⟨jb, 0, none⟩, .pointer (some ⟨d, 0, none⟩)) (by simp)))
  refine anyH_begin (S := HasC [(⟨b2, 0, none⟩, .pointer (some ⟨jb, 0, none⟩)), (⟨jb, 0, none⟩, .pointer (some ⟨d, 0, none⟩))]) (by kernel_rfl) ?_
  refine anyH_pureG 0 (d := 14) (op := .move (.tmp 6)) (gd := none) (.func (.func 74) #[] #[.pointer (some ⟨b2, 0, none⟩), .pointer (some ⟨b5, 0, none⟩)]) (by rfl) (fun o ho => wanted_plain ho _) (by kernel_rfl) (by kernel_rfl) (by kernel_rfl) (fun _ _ _ h => h) (fun o ho W hW => by unfold execOp; simp only [ho]; go_simp) HS.out ?_
  simp only [Act.put, List.setIfInBounds_toArray, List.set_cons_zero, List.set_cons_succ]
  refine anyH_pureG 1 (d := 15) (op := .makeFunc (.func 76) #[] #[(.tmp 2), (.tmp 5)]) (gd := none) (.func (.func 76) #[] #[.pointer (some ⟨b2, 0, none⟩), .pointer (some ⟨b5, 0, none⟩)]) (by rfl) (fun o ho => wanted_plain ho _) (by kernel_rfl) (by kernel_rfl) (by kernel_rfl) (fun _ _ _ h => h) (fun o ho W hW => by unfold execOp; simp only [ho]; first | rfl | (go_simp; done) | simp [go_sem, Instr.makeFunc, Act.eval]) HS.out ?_
  simp only [Act.put, List.setIfInBounds_toArray, List.set_cons_zero, List.set_cons_succ]
  refine anyH_pureG 2 (d := 16) (op := .makeFunc (.func 77) #[] #[(.tmp 2), (.tmp 5), (.tmp 3)]) (gd := none) (.func (.func 77) #[] #[.pointer (some ⟨b2, 0, none⟩), .pointer (some ⟨b5, 0, none⟩), .pointer (some ⟨b3, 0, none⟩)]) (by rfl) (fun o ho => wanted_plain ho _) (by kernel_rfl) (by kernel_rfl) (by kernel_rfl) (fun _ _ _ h => h) (fun o ho W hW => by unfold execOp; simp only [ho]; first | rfl | (go_simp; done) | simp [go_sem, Instr.makeFunc, Act.eval]) HS.out ?_
  simp only [Act.put, List.setIfInBounds_toArray, List.set_cons_zero, List.set_cons_succ]
  refine anyH_loadG 3 (d := 17) (ty := 28) (x := (.tmp 2)) (gd := none) (p := .pointer (some ⟨b2, 0, none⟩)) (.pointer (some ⟨jb, 0, none⟩)) (by rfl) (fun o ho => wanted_plain ho _) (by kernel_rfl) (by kernel_rfl) (by kernel_rfl) (fun _ _ _ h => h) (by rfl) HL1.out HS.out ?_
  simp only [Act.put, List.setIfInBounds_toArray, List.set_cons_zero, List.set_cons_succ]
  refine anyH_pureG 4 (d := 18) (op := .nilCheck (.tmp 17)) (gd := none) (.pointer (some ⟨jb, 0, none⟩)) (by rfl) (fun o ho => wanted_plain ho _) (by kernel_rfl) (by kernel_rfl) (by kernel_rfl) (fun _ _ _ h => h) (fun o ho W hW => by unfold execOp; simp only [ho]; go_simp) HS.out ?_
  simp only [Act.put, List.setIfInBounds_toArray, List.set_cons_zero, List.set_cons_succ]
  refine anyH_pureG 5 (d := 19) (op := .fieldAddr 79 (.tmp 18) 0) (gd := none) (.pointer (some ⟨jb, 0, none⟩)) (by rfl) (fun o ho => wanted_plain ho _) (by kernel_rfl) (by kernel_rfl) (by kernel_rfl) (fun _ _ _ h => h) (fun o ho W hW => by unfold execOp; simp only [ho]; go_simp) HS.out ?_
  simp only [Act.put, List.setIfInBounds_toArray, List.set_cons_zero, List.set_cons_succ]
  refine anyH_loadG 6 (d := 20) (ty := 23) (x := (.tmp 19)) (gd := none) (p := .pointer (some ⟨jb, 0, none⟩)) (.pointer (some ⟨d, 0, none⟩)) (by rfl) (fun o ho => wanted_plain ho _) (by kernel_rfl) (by kernel_rfl) (by kernel_rfl) (fun _ _ _ h => h) (by rfl) HL2.out HS.out ?_
  simp only [Act.put, List.setIfInBounds_toArray, List.set_cons_zero, List.set_cons_succ]
  refine anyH_pureG 7 (d := 21) (op := .makeFunc (.func 42) #[(.tmp 20)] #[]) (gd := none) (.func (.func 42) #[.pointer (some ⟨d, 0, none⟩)] #[]) (by rfl) (fun o ho => wanted_plain ho _) (by kernel_rfl) (by kernel_rfl) (by kernel_rfl) (fun _ _ _ h => h) (fun o ho W hW => by unfold execOp; simp only [ho]; first | rfl | (go_simp; done) | simp [go_sem, Instr.makeFunc, Act.eval]) HS.out ?_
  simp only [Act.put, List.setIfInBounds_toArray, List.set_cons_zero, List.set_cons_succ]
  refine anyH_pureG 8 (d := 22) (op := .makeFunc (.func 79) #[] #[(.tmp 2), (.tmp 5)]) (gd := none) (.func (.func 79) #[] #[.pointer (some ⟨b2, 0, none⟩), .pointer (some ⟨b5, 0, none⟩)]) (by rfl) (fun o ho => wanted_plain ho _) (by kernel_rfl) (by kernel_rfl) (by kernel_rfl) (fun _ _ _ h => h) (fun o ho W hW => by unfold execOp; simp only [ho]; first | rfl | (go_simp; done) | simp [go_sem, Instr.makeFunc, Act.eval]) HS.out ?_
  simp only [Act.put, List.setIfInBounds_toArray, List.set_cons_zero, List.set_cons_succ]
  refine anyH_loadG 9 (d := 23) (ty := 28) (x := (.tmp 2)) (gd := none) (p := .pointer (some ⟨b2, 0, none⟩)) (.pointer (some ⟨jb, 0, none⟩)) (by rfl) (fun o ho => wanted_plain ho _) (by kernel_rfl) (by kernel_rfl) (by kernel_rfl) (fun _ _ _ h => h) (by rfl) HL1.out HS.out ?_
  simp only [Act.put, List.setIfInBounds_toArray, List.set_cons_zero, List.set_cons_succ]
  refine anyH_pureG 10 (d := 24) (op := .nilCheck (.tmp 23)) (gd := none) (.pointer (some ⟨jb, 0, none⟩)) (by rfl) (fun o ho => wanted_plain ho _) (by kernel_rfl) (by kernel_rfl) (by kernel_rfl) (fun _ _ _ h => h) (fun o ho W hW => by unfold execOp; simp only [ho]; go_simp) HS.out ?_
  simp only [Act.put, List.setIfInBounds_toArray, List.set_cons_zero, List.set_cons_succ]
  refine anyH_pureG 11 (d := 25) (op := .fieldAddr 79 (.tmp 24) 0) (gd := none) (.pointer (some ⟨jb, 0, none⟩)) (by rfl) (fun o ho => wanted_plain ho _) (by kernel_rfl) (by kernel_rfl) (by kernel_rfl) (fun _ _ _ h => h) (fun o ho W hW => by unfold execOp; simp only [ho]; go_simp) HS.out ?_
  simp only [Act.put, List.setIfInBounds_toArray, List.set_cons_zero, List.set_cons_succ]
  refine anyH_loadG 12 (d := 26) (ty := 23) (x := (.tmp 25)) (gd := none) (p := .pointer (some ⟨jb, 0, none⟩)) (.pointer (some ⟨d, 0, none⟩)) (by rfl) (fun o ho => wanted_plain ho _) (by kernel_rfl) (by kernel_rfl) (by kernel_rfl) (fun _ _ _ h => h) (by rfl) HL2.out HS.out ?_
  simp only [Act.put, List.setIfInBounds_toArray, List.set_cons_zero, List.set_cons_succ]
  refine anyH_pureG 13 (d := 27) (op := .makeFunc (.func 42) #[(.tmp 26)] #[]) (gd := none) (.func (.func 42) #[.pointer (some ⟨d, 0, none⟩)] #[]) (by rfl) (fun o ho => wanted_plain ho _) (by kernel_rfl) (by kernel_rfl) (by kernel_rfl) (fun _ _ _ h => h) (fun o ho W hW => by unfold execOp; simp only [ho]; first | rfl | (go_simp; done) | simp [go_sem, Instr.makeFunc, Act.eval]) HS.out ?_
  simp only [Act.put, List.setIfInBounds_toArray, List.set_cons_zero, List.set_cons_succ]
  refine wpAnyH_all (rs := [14]) (by kernel_rfl) (by simp) ?_
  intro k hk; simp only [List.mem_cons, List.not_mem_nil, or_false] at hk; subst hk
  refine op_atJ 14 (d := some 28) (op := .buildSlice 138 6 #[(0, (.tmp 14)), (1, (.tmp 15)), (2, (.tmp 16)), (3, (.tmp 21)), (4, (.tmp 22)), (5, (.tmp 27))]) (by rfl) ?_
  intro o5 hod5 hoo5
  refine wp_bsJ6 (.tmp 14) (.tmp 15) (.tmp 16) (.tmp 21) (.tmp 22) (.tmp 27) hoo5 ⟨74, #[], #[.pointer (some ⟨b2, 0, none⟩), .pointer (some ⟨b5, 0, none⟩)]⟩ ⟨76, #[], #[.pointer (some ⟨b2, 0, none⟩), .pointer (some ⟨b5, 0, none⟩)]⟩ ⟨77, #[], #[.pointer (some ⟨b2, 0, none⟩), .pointer (some ⟨b5, 0, none⟩), .pointer (some ⟨b3, 0, none⟩)]⟩ ⟨42, #[.pointer (some ⟨d, 0, none⟩)], #[]⟩ ⟨79, #[], #[.pointer (some ⟨b2, 0, none⟩), .pointer (some ⟨b5, 0, none⟩)]⟩ ⟨42, #[.pointer (some ⟨d, 0, none⟩)], #[]⟩ (by rfl) (by rfl) (by rfl) (by rfl) (by rfl) (by rfl) ?_
  rw [hod5]
  clear hod5 hoo5
  rw [HB7.out, ← HW7.out]
  have HS7 := Lib.hid (show HasC [(⟨b2, 0, none⟩, .pointer (some ⟨jb, 0, none⟩)), (⟨jb, 0, none⟩, .pointer (some ⟨d, 0, none⟩))] w7 from HC7.out)
  simp only [Act.put, List.setIfInBounds_toArray, List.set_cons_zero, List.set_cons_succ]
  refine ⟨HS7.out, ?_⟩
  clear HS
  refine anyH_callG 15 (d := some 29) (f := 67) (xs := #[(.tmp 28)]) (ts := #[138]) (gd := none) (vs := #[.slice (some ⟨b7, 0, none⟩) 6 6]) (by kernel_rfl) (by rfl) (fun o ho => wanted_plain ho _) (by go_simp) (by go_simp) (HIN.out) ?_
  rintro e8 w8 ⟨rfl, h82, h83, h84⟩
  have HS8 := Lib.hid (show HasC [(⟨b2, 0, none⟩, .pointer (some ⟨jb, 0, none⟩)), (⟨jb, 0, none⟩, .pointer (some ⟨d, 0, none⟩))] w8 from HS7.out.kp h84 HXS.out)
  have HD8 := Lib.hid h82
  have HB8 := Lib.hid h83
  have HK8 := Lib.hid h84
  clear h82 h83 h84
  refine ⟨_, rfl, HS8.out, fun hS => ?_⟩
  clear hS
  simp only [Act.put, List.setIfInBounds_toArray, List.set_cons_zero, List.set_cons_succ]
  refine anyH_pureG 16 (d := 7) (op := .assign (.tmp 29)) (gd := none) (.int .i64 x) (by rfl) (fun o ho => wanted_plain ho _) (by kernel_rfl) (by kernel_rfl) (by kernel_rfl) (fun _ _ _ h => h) (fun o ho W hW => by unfold execOp; simp only [ho]; go_simp) HS8.out ?_
  simp only [Act.put, List.setIfInBounds_toArray, List.set_cons_zero, List.set_cons_succ]
  refine wpAnyH_done (by kernel_rfl) ?_ _
  clear HS7 HS8 HL1 HL2 HIN HS3
  by_cases hx4 : x = 4
  · subst hx4
    have HI2 := Lib.hid (HIN2.out w8 HD8.out HB8.out HK8.out)
    clear HIN2
    go_wp2_with fail
    refine HI2.out.mono ?_
    rintro e9 w9 ⟨rfl, g1, g2, g3⟩
    have HE := Lib.hid (show DxR X B d (N + 24) w (rwE (nm ++ ⟨#[43]⟩) (A', 4)) (.returned (.int .i64 (runA [rmA (nm ++ ⟨#[43]⟩), fun A => (A, 4)] A').2)) w9 from by
      have q9 : Below w8.heap.size w8 (w8.alloc (.cells #[.func (.func 74) #[] #[.pointer (some ⟨b2, 0, none⟩), .pointer (some ⟨b5, 0, none⟩)], .func (.func 81) #[] #[]] 38)) := (Below.refl _ _).alloc (Nat.le_refl _) _
      unfold rwE
      rw [if_pos rfl]
      exact ⟨rfl, (g1.less fun j hj => .inl (HXI.out j hj)).mono (by omega), (HW.out.mono HBX.out).trans (HB8.out.trans ((q9.mono (Nat.le_trans HBX.out (Nat.le_trans HW.out.size HB8.out.size))).trans g2)), fun j hj => by
        have hjl := HLT.out j hj
        rw [g3 j (.inl (HXI.out j hj)), q9.block j (Nat.lt_of_lt_of_le hjl (Nat.le_trans HW.out.size HB8.out.size)), HK8.out j (HXI.out j hj)]
        exact HW.out.block j hjl⟩)
    clear g1 g2 g3 HI2
    go_wp2_with fail
    go_ret
    exact HE.out
  · have hxx : (x == 4) = false := by simp [hx4]
    have HE := Lib.hid (show DxR X B d (N + 24) w (rwE (nm ++ ⟨#[43]⟩) (A', x)) (.returned (.int .i64 x)) w8 from by
      unfold rwE
      rw [if_neg hx4]
      exact ⟨rfl, (HD8.out.less fun j hj => HXI.out j hj).mono (by omega), (HW.out.mono HBX.out).trans HB8.out, fun j hj => by
        rw [HK8.out j (HXI.out j hj)]
        exact HW.out.block j (HLT.out j hj)⟩)
    clear HIN2 HD8
    go_wp2_with fail
    go_ret
    exact HE.out
end Go.Proofs.Ytmomdfmilelilaa
