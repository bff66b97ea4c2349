/-
  The walks over both Show of a reference.
-/
import Derived.Test.YtjoomfikfbbnmaaDoorNmo
namespace Go.Proofs.YtjoomfikfbbnmaaDoor
set_option linter.unusedVariables false
open Go.RowKit Go.Proofs.Nm
/-- a sum's text -/
def txL (d : List Nat) : List UInt8 := (str ([115, 104, 97, 50, 53, 54, 58] ++ hex d)).data.toList
theorem txL_len {d : List Nat} (hd : D32 d) : (txL d).length = 71 := by
  unfold txL str
  simp only [List.toList_toArray, List.length_map, List.length_append, hex_len, hd.1]
  rfl
def SBX (w : World) (g : Nat) (t : TypeId) (C : Array Value) (W : World) : Prop := RR W g t C ∧ Below w.heap.size w W
def showL (a b : List UInt8) (p : Bool) (d : List Nat) : List UInt8 := (if b.isEmpty = true then a else a ++ 58 :: b) ++ (if p = true then 64 :: txL d else [])
def shs (a b : List UInt8) (p : Bool) (d : List Nat) : List UInt8 × Nat := if repoB a = true then (if b.isEmpty = true ∨ tagOk b = true then (showL a b p d, 0) else ([], 71)) else ([], 70)
theorem ntext_c (d : List Nat) (w : World) (hd : D32 d) : Calls Tryd.prog 32 #[.agg (cellsOf d).toArray] w fun e w' => e = .returned (.string (T (txL d))) ∧ Below w.heap.size w w' := text_c d w hd.1 hd.2
theorem rtext_c (d : List Nat) (w : World) (hd : D32 d) : Calls Tryd.prog 33 #[.agg (cellsOf d).toArray] w fun e w' => e = .returned (.string (T (txL d))) ∧ Below w.heap.size w w' := reftext_c d w hd.1 hd.2
theorem ret_sn {a : ByteArray} {l : List UInt8} {n : Int} (h : a.data.toList = l) : Ending.returned (.tuple #[.string a, .int .i64 n]) = .returned (.tuple #[.string (T l), .int .i64 n]) := by
  rw [T_eq h]
set_option maxRecDepth 100000 in
set_option maxHeartbeats 8000000 in
theorem ns_name (a b : List UInt8) (p : Bool) (x : List Nat) (hx : D32 x) (w : World) (hl : a.length ≤ 140737488351232) (hl2 : b.length ≤ 140737488351232) (hR : repoB a = false) :
    Calls Tryd.prog 19 #[.agg (refC a b p x)] w fun e w' => e = .returned (.tuple #[.string (T []), .int .i64 70]) ∧ Below w.heap.size w w' := by
  have HR := Lib.hid fun W => repoB_c a W hl false hR
  have HX := Lib.hid hx
  clear hR hx
  go_enter Tryd.func19, Tryd.ntmps19
  go_upto_region 1 with (fail)
  obtain ⟨g, hg⟩ : ∃ g, g = w.heap.size := ⟨_, rfl⟩
  refine gen_code (F := SBX w g 28 (refC a b p x)) (by
    rw [hg]
    exact ⟨RR.new _ _ _, (Below.refl _ w).alloc (Nat.le_refl _) _⟩) ?_
  rw [← hg]
  rintro w0 ⟨h0, h1⟩
  have HR0 := Lib.hid h0
  have HB0 := Lib.hid h1
  have k0 := h0.c0
  have k1 := h0.c1
  have k2 := h0.c2
  clear hg h0 h1
  go_wp2_with (first | (go_at_call 11; (refine (HR.out _).mono ?_); rintro e w1 ⟨rfl, hb⟩; have HB1 := Lib.hid (HB0.out.trans (hb.mono HB0.out.size)); have HR1 := Lib.hid (HR0.out.below hb HR0.out.lt); have k0 := HR1.out.c0; have k1 := HR1.out.c1; have k2 := HR1.out.c2; clear hb))
  go_ret2
  exact ⟨rfl, HB1.out⟩
set_option maxRecDepth 100000 in
set_option maxHeartbeats 8000000 in
theorem ns_tag (a b : List UInt8) (p : Bool) (x : List Nat) (hx : D32 x) (w : World) (hl : a.length ≤ 140737488351232) (hl2 : b.length ≤ 140737488351232) (hR : repoB a = true) (hb : b.isEmpty = false) (hT : tagOk b = false) :
    Calls Tryd.prog 19 #[.agg (refC a b p x)] w fun e w' => e = .returned (.tuple #[.string (T []), .int .i64 71]) ∧ Below w.heap.size w w' := by
  have HR := Lib.hid fun W => repoB_c a W hl true hR
  have HT := Lib.hid fun W => tagOk_c b W hl2 false hT
  have HX := Lib.hid hx
  clear hR hx hT
  go_enter Tryd.func19, Tryd.ntmps19
  go_upto_region 1 with (fail)
  obtain ⟨g, hg⟩ : ∃ g, g = w.heap.size := ⟨_, rfl⟩
  refine gen_code (F := SBX w g 28 (refC a b p x)) (by
    rw [hg]
    exact ⟨RR.new _ _ _, (Below.refl _ w).alloc (Nat.le_refl _) _⟩) ?_
  rw [← hg]
  rintro w0 ⟨h0, h1⟩
  have HR0 := Lib.hid h0
  have HB0 := Lib.hid h1
  have k0 := h0.c0
  have k1 := h0.c1
  have k2 := h0.c2
  clear hg h0 h1
  go_wp2_with (first | (go_at_call 11; (refine (HR.out _).mono ?_); rintro e w1 ⟨rfl, hb⟩; have HB1 := Lib.hid (HB0.out.trans (hb.mono HB0.out.size)); have HR1 := Lib.hid (HR0.out.below hb HR0.out.lt); have k0 := HR1.out.c0; have k1 := HR1.out.c1; have k2 := HR1.out.c2; clear hb) | (go_at_call 13; (refine (HT.out _).mono ?_); rintro e w2 ⟨rfl, hb⟩; have HB2 := Lib.hid (HB1.out.trans (hb.mono HB1.out.size)); have HR2 := Lib.hid (HR1.out.below hb HR1.out.lt); have k0 := HR2.out.c0; have k1 := HR2.out.c1; have k2 := HR2.out.c2; clear hb))
  go_ret2
  exact ⟨rfl, HB2.out⟩
set_option maxRecDepth 100000 in
set_option maxHeartbeats 8000000 in
theorem ns_ok10 (a : List UInt8) (x : List Nat) (hx : D32 x) (w : World) (hl : a.length ≤ 140737488351232) (hR : repoB a = true) :
    Calls Tryd.prog 19 #[.agg (refC a [] false x)] w fun e w' => e = .returned (.tuple #[.string (T (showL a [] false x)), .int .i64 0]) ∧ Below w.heap.size w w' := by
  have HR := Lib.hid fun W => repoB_c a W hl true hR
  have la : a.length ≤ 128 := by unfold repoB at hR; simp only [Bool.and_eq_true, decide_eq_true_eq] at hR; exact hR.2
  have HX := Lib.hid hx
  have HCL := Lib.hid fun W => clone_c a W hl
  have HSH := Lib.hid (show showL a [] false x = a ++ [] from by unfold showL; rfl)
  clear hR hx
  go_enter Tryd.func19, Tryd.ntmps19
  go_upto_region 1 with (fail)
  obtain ⟨g, hg⟩ : ∃ g, g = w.heap.size := ⟨_, rfl⟩
  refine gen_code (F := SBX w g 28 (refC a [] false x)) (by
    rw [hg]
    exact ⟨RR.new _ _ _, (Below.refl _ w).alloc (Nat.le_refl _) _⟩) ?_
  rw [← hg]
  rintro w0 ⟨h0, h1⟩
  have HR0 := Lib.hid h0
  have HB0 := Lib.hid h1
  have k0 := h0.c0
  have k1 := h0.c1
  have k2 := h0.c2
  clear hg h0 h1
  go_wp2_with (first | (go_at_call 11; (refine (HR.out _).mono ?_); rintro e w1 ⟨rfl, hb⟩; have HB1 := Lib.hid (HB0.out.trans (hb.mono HB0.out.size)); have HR1 := Lib.hid (HR0.out.below hb HR0.out.lt); have k0 := HR1.out.c0; have k1 := HR1.out.c1; have k2 := HR1.out.c2; clear hb) | (go_at_call 28; (refine (HCL.out _).mono ?_); rintro e w3 ⟨rfl, hb⟩; have HB3 := Lib.hid (HB1.out.trans (hb.mono HB1.out.size)); have HR3 := Lib.hid (HR1.out.below hb HR1.out.lt); have k0 := HR3.out.c0; have k1 := HR3.out.c1; have k2 := HR3.out.c2; clear hb))
  go_ret2
  exact ⟨ret_sn (by rw [HSH.out]; simp), HB3.out⟩
set_option maxRecDepth 100000 in
set_option maxHeartbeats 8000000 in
theorem ns_ok11 (a : List UInt8) (x : List Nat) (hx : D32 x) (w : World) (hl : a.length ≤ 140737488351232) (hR : repoB a = true) :
    Calls Tryd.prog 19 #[.agg (refC a [] true x)] w fun e w' => e = .returned (.tuple #[.string (T (showL a [] true x)), .int .i64 0]) ∧ Below w.heap.size w w' := by
  have HR := Lib.hid fun W => repoB_c a W hl true hR
  have la : a.length ≤ 128 := by unfold repoB at hR; simp only [Bool.and_eq_true, decide_eq_true_eq] at hR; exact hR.2
  have HX := Lib.hid hx
  have HTX := Lib.hid fun W => ntext_c x W hx
  have lt := txL_len hx
  have HI32 := Lib.hid (show (Tryd.prog.info? 26).map (·.size) = some (cellsOf x).length from by rw [cellsOf_length, hx.1]; exact info_dg)
  have HCL := Lib.hid fun W => clone_c a W hl
  have HSH := Lib.hid (show showL a [] true x = a ++ 64 :: txL x from by unfold showL; rfl)
  clear hR hx
  go_enter Tryd.func19, Tryd.ntmps19
  go_upto_region 1 with (fail)
  obtain ⟨g, hg⟩ : ∃ g, g = w.heap.size := ⟨_, rfl⟩
  refine gen_code (F := SBX w g 28 (refC a [] true x)) (by
    rw [hg]
    exact ⟨RR.new _ _ _, (Below.refl _ w).alloc (Nat.le_refl _) _⟩) ?_
  rw [← hg]
  rintro w0 ⟨h0, h1⟩
  have HR0 := Lib.hid h0
  have HB0 := Lib.hid h1
  have k0 := h0.c0
  have k1 := h0.c1
  have k2 := h0.c2
  clear hg h0 h1
  go_wp2_with (first | (go_at_call 11; (refine (HR.out _).mono ?_); rintro e w1 ⟨rfl, hb⟩; have HB1 := Lib.hid (HB0.out.trans (hb.mono HB0.out.size)); have HR1 := Lib.hid (HR0.out.below hb HR0.out.lt); have k0 := HR1.out.c0; have k1 := HR1.out.c1; have k2 := HR1.out.c2; clear hb) | (go_at_call 28; (refine (HCL.out _).mono ?_); rintro e w3 ⟨rfl, hb⟩; have HB3 := Lib.hid (HB1.out.trans (hb.mono HB1.out.size)); have HR3 := Lib.hid (HR1.out.below hb HR1.out.lt); have k0 := HR3.out.c0; have k1 := HR3.out.c1; have k2 := HR3.out.c2; clear hb) | (refine wpList_load_mid (by rfl) 26 _ (by rfl) g 3 (by rfl) (cellsOf x) _ HR3.out.digAt Tryd.underlying26 (by rfl) HI32.out ?_) | (go_at_call 32; (refine (HTX.out _).mono ?_); rintro e w4 ⟨rfl, hb⟩; have HB4 := Lib.hid (HB3.out.trans (hb.mono HB3.out.size)); have HR4 := Lib.hid (HR3.out.below hb HR3.out.lt); have k0 := HR4.out.c0; have k1 := HR4.out.c1; have k2 := HR4.out.c2; clear hb))
  go_ret2
  exact ⟨ret_sn (by rw [HSH.out]; simp), HB4.out⟩
set_option maxRecDepth 100000 in
set_option maxHeartbeats 8000000 in
theorem ns_ok00 (a b : List UInt8) (x : List Nat) (hx : D32 x) (w : World) (hl : a.length ≤ 140737488351232) (hl2 : b.length ≤ 140737488351232) (hR : repoB a = true) (hb : b.isEmpty = false) (hT : tagOk b = true) :
    Calls Tryd.prog 19 #[.agg (refC a b false x)] w fun e w' => e = .returned (.tuple #[.string (T (showL a b false x)), .int .i64 0]) ∧ Below w.heap.size w w' := by
  have HR := Lib.hid fun W => repoB_c a W hl true hR
  have la : a.length ≤ 128 := by unfold repoB at hR; simp only [Bool.and_eq_true, decide_eq_true_eq] at hR; exact hR.2
  have lb : b.length ≤ 128 := by unfold tagOk at hT; simp only [Bool.and_eq_true, decide_eq_true_eq] at hT; exact hT.2
  have HT := Lib.hid fun W => tagOk_c b W hl2 true hT
  have HX := Lib.hid hx
  have HCL := Lib.hid fun W => clone_c a W hl
  have HSH := Lib.hid (show showL a b false x = (a ++ 58 :: b) ++ [] from by unfold showL; rw [hb]; rfl)
  have hne : (!b.isEmpty) = true := by rw [hb]; rfl
  clear hR hx hT
  go_enter Tryd.func19, Tryd.ntmps19
  go_upto_region 1 with (fail)
  obtain ⟨g, hg⟩ : ∃ g, g = w.heap.size := ⟨_, rfl⟩
  refine gen_code (F := SBX w g 28 (refC a b false x)) (by
    rw [hg]
    exact ⟨RR.new _ _ _, (Below.refl _ w).alloc (Nat.le_refl _) _⟩) ?_
  rw [← hg]
  rintro w0 ⟨h0, h1⟩
  have HR0 := Lib.hid h0
  have HB0 := Lib.hid h1
  have k0 := h0.c0
  have k1 := h0.c1
  have k2 := h0.c2
  clear hg h0 h1
  go_wp2_with (first | (go_at_call 11; (refine (HR.out _).mono ?_); rintro e w1 ⟨rfl, hb⟩; have HB1 := Lib.hid (HB0.out.trans (hb.mono HB0.out.size)); have HR1 := Lib.hid (HR0.out.below hb HR0.out.lt); have k0 := HR1.out.c0; have k1 := HR1.out.c1; have k2 := HR1.out.c2; clear hb) | (go_at_call 13; (refine (HT.out _).mono ?_); rintro e w2 ⟨rfl, hb⟩; have HB2 := Lib.hid (HB1.out.trans (hb.mono HB1.out.size)); have HR2 := Lib.hid (HR1.out.below hb HR1.out.lt); have k0 := HR2.out.c0; have k1 := HR2.out.c1; have k2 := HR2.out.c2; clear hb) | (go_at_call 28; (refine (HCL.out _).mono ?_); rintro e w3 ⟨rfl, hb⟩; have HB3 := Lib.hid (HB2.out.trans (hb.mono HB2.out.size)); have HR3 := Lib.hid (HR2.out.below hb HR2.out.lt); have k0 := HR3.out.c0; have k1 := HR3.out.c1; have k2 := HR3.out.c2; clear hb))
  go_ret2
  exact ⟨ret_sn (by rw [HSH.out]; simp), HB3.out⟩
set_option maxRecDepth 100000 in
set_option maxHeartbeats 8000000 in
theorem ns_ok01 (a b : List UInt8) (x : List Nat) (hx : D32 x) (w : World) (hl : a.length ≤ 140737488351232) (hl2 : b.length ≤ 140737488351232) (hR : repoB a = true) (hb : b.isEmpty = false) (hT : tagOk b = true) :
    Calls Tryd.prog 19 #[.agg (refC a b true x)] w fun e w' => e = .returned (.tuple #[.string (T (showL a b true x)), .int .i64 0]) ∧ Below w.heap.size w w' := by
  have HR := Lib.hid fun W => repoB_c a W hl true hR
  have la : a.length ≤ 128 := by unfold repoB at hR; simp only [Bool.and_eq_true, decide_eq_true_eq] at hR; exact hR.2
  have lb : b.length ≤ 128 := by unfold tagOk at hT; simp only [Bool.and_eq_true, decide_eq_true_eq] at hT; exact hT.2
  have HT := Lib.hid fun W => tagOk_c b W hl2 true hT
  have HX := Lib.hid hx
  have HTX := Lib.hid fun W => ntext_c x W hx
  have lt := txL_len hx
  have HI32 := Lib.hid (show (Tryd.prog.info? 26).map (·.size) = some (cellsOf x).length from by rw [cellsOf_length, hx.1]; exact info_dg)
  have HCL := Lib.hid fun W => clone_c a W hl
  have HSH := Lib.hid (show showL a b true x = (a ++ 58 :: b) ++ 64 :: txL x from by unfold showL; rw [hb]; rfl)
  have hne : (!b.isEmpty) = true := by rw [hb]; rfl
  clear hR hx hT
  go_enter Tryd.func19, Tryd.ntmps19
  go_upto_region 1 with (fail)
  obtain ⟨g, hg⟩ : ∃ g, g = w.heap.size := ⟨_, rfl⟩
  refine gen_code (F := SBX w g 28 (refC a b true x)) (by
    rw [hg]
    exact ⟨RR.new _ _ _, (Below.refl _ w).alloc (Nat.le_refl _) _⟩) ?_
  rw [← hg]
  rintro w0 ⟨h0, h1⟩
  have HR0 := Lib.hid h0
  have HB0 := Lib.hid h1
  have k0 := h0.c0
  have k1 := h0.c1
  have k2 := h0.c2
  clear hg h0 h1
  go_wp2_with (first | (go_at_call 11; (refine (HR.out _).mono ?_); rintro e w1 ⟨rfl, hb⟩; have HB1 := Lib.hid (HB0.out.trans (hb.mono HB0.out.size)); have HR1 := Lib.hid (HR0.out.below hb HR0.out.lt); have k0 := HR1.out.c0; have k1 := HR1.out.c1; have k2 := HR1.out.c2; clear hb) | (go_at_call 13; (refine (HT.out _).mono ?_); rintro e w2 ⟨rfl, hb⟩; have HB2 := Lib.hid (HB1.out.trans (hb.mono HB1.out.size)); have HR2 := Lib.hid (HR1.out.below hb HR1.out.lt); have k0 := HR2.out.c0; have k1 := HR2.out.c1; have k2 := HR2.out.c2; clear hb) | (go_at_call 28; (refine (HCL.out _).mono ?_); rintro e w3 ⟨rfl, hb⟩; have HB3 := Lib.hid (HB2.out.trans (hb.mono HB2.out.size)); have HR3 := Lib.hid (HR2.out.below hb HR2.out.lt); have k0 := HR3.out.c0; have k1 := HR3.out.c1; have k2 := HR3.out.c2; clear hb) | (refine wpList_load_mid (by rfl) 26 _ (by rfl) g 3 (by rfl) (cellsOf x) _ HR3.out.digAt Tryd.underlying26 (by rfl) HI32.out ?_) | (go_at_call 32; (refine (HTX.out _).mono ?_); rintro e w4 ⟨rfl, hb⟩; have HB4 := Lib.hid (HB3.out.trans (hb.mono HB3.out.size)); have HR4 := Lib.hid (HR3.out.below hb HR3.out.lt); have k0 := HR4.out.c0; have k1 := HR4.out.c1; have k2 := HR4.out.c2; clear hb))
  go_ret2
  exact ⟨ret_sn (by rw [HSH.out]; simp), HB4.out⟩
set_option maxRecDepth 100000 in
set_option maxHeartbeats 8000000 in
theorem rs_name (a b : List UInt8) (p : Bool) (x : List Nat) (hx : D32 x) (w : World) (hl : a.length ≤ 140737488351232) (hl2 : b.length ≤ 140737488351232) (hR : repoB a = false) :
    Calls Tryd.prog 20 #[.agg (refC a b p x)] w fun e w' => e = .returned (.tuple #[.string (T []), .int .i64 70]) ∧ Below w.heap.size w w' := by
  have HR := Lib.hid fun W => rrepoB_c a W hl false hR
  have HX := Lib.hid hx
  clear hR hx
  go_enter Tryd.func20, Tryd.ntmps20
  go_upto_region 1 with (fail)
  obtain ⟨g, hg⟩ : ∃ g, g = w.heap.size := ⟨_, rfl⟩
  refine gen_code (F := SBX w g 33 (refC a b p x)) (by
    rw [hg]
    exact ⟨RR.new _ _ _, (Below.refl _ w).alloc (Nat.le_refl _) _⟩) ?_
  rw [← hg]
  rintro w0 ⟨h0, h1⟩
  have HR0 := Lib.hid h0
  have HB0 := Lib.hid h1
  have k0 := h0.c0
  have k1 := h0.c1
  have k2 := h0.c2
  clear hg h0 h1
  go_wp2_with (first | (go_at_call 12; (refine (HR.out _).mono ?_); rintro e w1 ⟨rfl, rfl⟩))
  go_ret2
  exact ⟨rfl, HB0.out⟩
set_option maxRecDepth 100000 in
set_option maxHeartbeats 8000000 in
theorem rs_tag (a b : List UInt8) (p : Bool) (x : List Nat) (hx : D32 x) (w : World) (hl : a.length ≤ 140737488351232) (hl2 : b.length ≤ 140737488351232) (hR : repoB a = true) (hb : b.isEmpty = false) (hT : tagOk b = false) :
    Calls Tryd.prog 20 #[.agg (refC a b p x)] w fun e w' => e = .returned (.tuple #[.string (T []), .int .i64 71]) ∧ Below w.heap.size w w' := by
  have HR := Lib.hid fun W => rrepoB_c a W hl true hR
  have HT := Lib.hid fun W => rtagOk_c b W hl2 false hT
  have HX := Lib.hid hx
  clear hR hx hT
  go_enter Tryd.func20, Tryd.ntmps20
  go_upto_region 1 with (fail)
  obtain ⟨g, hg⟩ : ∃ g, g = w.heap.size := ⟨_, rfl⟩
  refine gen_code (F := SBX w g 33 (refC a b p x)) (by
    rw [hg]
    exact ⟨RR.new _ _ _, (Below.refl _ w).alloc (Nat.le_refl _) _⟩) ?_
  rw [← hg]
  rintro w0 ⟨h0, h1⟩
  have HR0 := Lib.hid h0
  have HB0 := Lib.hid h1
  have k0 := h0.c0
  have k1 := h0.c1
  have k2 := h0.c2
  clear hg h0 h1
  go_wp2_with (first | (go_at_call 12; (refine (HR.out _).mono ?_); rintro e w1 ⟨rfl, rfl⟩) | (go_at_call 14; (refine (HT.out _).mono ?_); rintro e w2 ⟨rfl, rfl⟩))
  go_ret2
  exact ⟨rfl, HB0.out⟩
set_option maxRecDepth 100000 in
set_option maxHeartbeats 8000000 in
theorem rs_ok10 (a : List UInt8) (x : List Nat) (hx : D32 x) (w : World) (hl : a.length ≤ 140737488351232) (hR : repoB a = true) :
    Calls Tryd.prog 20 #[.agg (refC a [] false x)] w fun e w' => e = .returned (.tuple #[.string (T (showL a [] false x)), .int .i64 0]) ∧ Below w.heap.size w w' := by
  have HR := Lib.hid fun W => rrepoB_c a W hl true hR
  have la : a.length ≤ 128 := by unfold repoB at hR; simp only [Bool.and_eq_true, decide_eq_true_eq] at hR; exact hR.2
  have HX := Lib.hid hx
  have HSH := Lib.hid (show showL a [] false x = a ++ [] from by unfold showL; rfl)
  clear hR hx
  go_enter Tryd.func20, Tryd.ntmps20
  go_upto_region 1 with (fail)
  obtain ⟨g, hg⟩ : ∃ g, g = w.heap.size := ⟨_, rfl⟩
  refine gen_code (F := SBX w g 33 (refC a [] false x)) (by
    rw [hg]
    exact ⟨RR.new _ _ _, (Below.refl _ w).alloc (Nat.le_refl _) _⟩) ?_
  rw [← hg]
  rintro w0 ⟨h0, h1⟩
  have HR0 := Lib.hid h0
  have HB0 := Lib.hid h1
  have k0 := h0.c0
  have k1 := h0.c1
  have k2 := h0.c2
  clear hg h0 h1
  go_wp2_with (first | (go_at_call 12; (refine (HR.out _).mono ?_); rintro e w1 ⟨rfl, rfl⟩))
  go_ret2
  exact ⟨ret_sn (by rw [HSH.out]; simp), HB0.out⟩
set_option maxRecDepth 100000 in
set_option maxHeartbeats 8000000 in
theorem rs_ok11 (a : List UInt8) (x : List Nat) (hx : D32 x) (w : World) (hl : a.length ≤ 140737488351232) (hR : repoB a = true) :
    Calls Tryd.prog 20 #[.agg (refC a [] true x)] w fun e w' => e = .returned (.tuple #[.string (T (showL a [] true x)), .int .i64 0]) ∧ Below w.heap.size w w' := by
  have HR := Lib.hid fun W => rrepoB_c a W hl true hR
  have la : a.length ≤ 128 := by unfold repoB at hR; simp only [Bool.and_eq_true, decide_eq_true_eq] at hR; exact hR.2
  have HX := Lib.hid hx
  have HTX := Lib.hid fun W => rtext_c x W hx
  have lt := txL_len hx
  have HI32 := Lib.hid (show (Tryd.prog.info? 25).map (·.size) = some (cellsOf x).length from by rw [cellsOf_length, hx.1]; exact info_dr)
  have HSH := Lib.hid (show showL a [] true x = a ++ 64 :: txL x from by unfold showL; rfl)
  clear hR hx
  go_enter Tryd.func20, Tryd.ntmps20
  go_upto_region 1 with (fail)
  obtain ⟨g, hg⟩ : ∃ g, g = w.heap.size := ⟨_, rfl⟩
  refine gen_code (F := SBX w g 33 (refC a [] true x)) (by
    rw [hg]
    exact ⟨RR.new _ _ _, (Below.refl _ w).alloc (Nat.le_refl _) _⟩) ?_
  rw [← hg]
  rintro w0 ⟨h0, h1⟩
  have HR0 := Lib.hid h0
  have HB0 := Lib.hid h1
  have k0 := h0.c0
  have k1 := h0.c1
  have k2 := h0.c2
  clear hg h0 h1
  go_wp2_with (first | (go_at_call 12; (refine (HR.out _).mono ?_); rintro e w1 ⟨rfl, rfl⟩) | (refine wpList_load_mid (by rfl) 25 _ (by rfl) g 3 (by rfl) (cellsOf x) _ HR0.out.digAt Tryd.underlying25 (by rfl) HI32.out ?_) | (go_at_call 33; (refine (HTX.out _).mono ?_); rintro e w4 ⟨rfl, hb⟩; have HB4 := Lib.hid (HB0.out.trans (hb.mono HB0.out.size)); have HR4 := Lib.hid (HR0.out.below hb HR0.out.lt); have k0 := HR4.out.c0; have k1 := HR4.out.c1; have k2 := HR4.out.c2; clear hb))
  go_ret2
  exact ⟨ret_sn (by rw [HSH.out]; simp), HB4.out⟩
set_option maxRecDepth 100000 in
set_option maxHeartbeats 8000000 in
theorem rs_ok00 (a b : List UInt8) (x : List Nat) (hx : D32 x) (w : World) (hl : a.length ≤ 140737488351232) (hl2 : b.length ≤ 140737488351232) (hR : repoB a = true) (hb : b.isEmpty = false) (hT : tagOk b = true) :
    Calls Tryd.prog 20 #[.agg (refC a b false x)] w fun e w' => e = .returned (.tuple #[.string (T (showL a b false x)), .int .i64 0]) ∧ Below w.heap.size w w' := by
  have HR := Lib.hid fun W => rrepoB_c a W hl true hR
  have la : a.length ≤ 128 := by unfold repoB at hR; simp only [Bool.and_eq_true, decide_eq_true_eq] at hR; exact hR.2
  have lb : b.length ≤ 128 := by unfold tagOk at hT; simp only [Bool.and_eq_true, decide_eq_true_eq] at hT; exact hT.2
  have HT := Lib.hid fun W => rtagOk_c b W hl2 true hT
  have HX := Lib.hid hx
  have HSH := Lib.hid (show showL a b false x = (a ++ 58 :: b) ++ [] from by unfold showL; rw [hb]; rfl)
  have hne : (!b.isEmpty) = true := by rw [hb]; rfl
  clear hR hx hT
  go_enter Tryd.func20, Tryd.ntmps20
  go_upto_region 1 with (fail)
  obtain ⟨g, hg⟩ : ∃ g, g = w.heap.size := ⟨_, rfl⟩
  refine gen_code (F := SBX w g 33 (refC a b false x)) (by
    rw [hg]
    exact ⟨RR.new _ _ _, (Below.refl _ w).alloc (Nat.le_refl _) _⟩) ?_
  rw [← hg]
  rintro w0 ⟨h0, h1⟩
  have HR0 := Lib.hid h0
  have HB0 := Lib.hid h1
  have k0 := h0.c0
  have k1 := h0.c1
  have k2 := h0.c2
  clear hg h0 h1
  go_wp2_with (first | (go_at_call 12; (refine (HR.out _).mono ?_); rintro e w1 ⟨rfl, rfl⟩) | (go_at_call 14; (refine (HT.out _).mono ?_); rintro e w2 ⟨rfl, rfl⟩))
  go_ret2
  exact ⟨ret_sn (by rw [HSH.out]; simp), HB0.out⟩
set_option maxRecDepth 100000 in
set_option maxHeartbeats 8000000 in
theorem rs_ok01 (a b : List UInt8) (x : List Nat) (hx : D32 x) (w : World) (hl : a.length ≤ 140737488351232) (hl2 : b.length ≤ 140737488351232) (hR : repoB a = true) (hb : b.isEmpty = false) (hT : tagOk b = true) :
    Calls Tryd.prog 20 #[.agg (refC a b true x)] w fun e w' => e = .returned (.tuple #[.string (T (showL a b true x)), .int .i64 0]) ∧ Below w.heap.size w w' := by
  have HR := Lib.hid fun W => rrepoB_c a W hl true hR
  have la : a.length ≤ 128 := by unfold repoB at hR; simp only [Bool.and_eq_true, decide_eq_true_eq] at hR; exact hR.2
  have lb : b.length ≤ 128 := by unfold tagOk at hT; simp only [Bool.and_eq_true, decide_eq_true_eq] at hT; exact hT.2
  have HT := Lib.hid fun W => rtagOk_c b W hl2 true hT
  have HX := Lib.hid hx
  have HTX := Lib.hid fun W => rtext_c x W hx
  have lt := txL_len hx
  have HI32 := Lib.hid (show (Tryd.prog.info? 25).map (·.size) = some (cellsOf x).length from by rw [cellsOf_length, hx.1]; exact info_dr)
  have HSH := Lib.hid (show showL a b true x = (a ++ 58 :: b) ++ 64 :: txL x from by unfold showL; rw [hb]; rfl)
  have hne : (!b.isEmpty) = true := by rw [hb]; rfl
  clear hR hx hT
  go_enter Tryd.func20, Tryd.ntmps20
  go_upto_region 1 with (fail)
  obtain ⟨g, hg⟩ : ∃ g, g = w.heap.size := ⟨_, rfl⟩
  refine gen_code (F := SBX w g 33 (refC a b true x)) (by
    rw [hg]
    exact ⟨RR.new _ _ _, (Below.refl _ w).alloc (Nat.le_refl _) _⟩) ?_
  rw [← hg]
  rintro w0 ⟨h0, h1⟩
  have HR0 := Lib.hid h0
  have HB0 := Lib.hid h1
  have k0 := h0.c0
  have k1 := h0.c1
  have k2 := h0.c2
  clear hg h0 h1
  go_wp2_with (first | (go_at_call 12; (refine (HR.out _).mono ?_); rintro e w1 ⟨rfl, rfl⟩) | (go_at_call 14; (refine (HT.out _).mono ?_); rintro e w2 ⟨rfl, rfl⟩) | (refine wpList_load_mid (by rfl) 25 _ (by rfl) g 3 (by rfl) (cellsOf x) _ HR0.out.digAt Tryd.underlying25 (by rfl) HI32.out ?_) | (go_at_call 33; (refine (HTX.out _).mono ?_); rintro e w4 ⟨rfl, hb⟩; have HB4 := Lib.hid (HB0.out.trans (hb.mono HB0.out.size)); have HR4 := Lib.hid (HR0.out.below hb HR0.out.lt); have k0 := HR4.out.c0; have k1 := HR4.out.c1; have k2 := HR4.out.c2; clear hb))
  go_ret2
  exact ⟨ret_sn (by rw [HSH.out]; simp), HB4.out⟩
end Go.Proofs.YtjoomfikfbbnmaaDoor
