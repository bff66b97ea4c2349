/-
  References in memory.
-/
import Derived.Test.YtjoomfikfbbnmaaDoorNmr
import Derived.Test.YtjoomfikfbbnmaaDoorNmm
import Derived.Test.YtjoomfikfbbnmaaDoorPar
import Derived.Test.YtjoomfikfbbnmaaDoorHxu
namespace Go.Proofs.YtjoomfikfbbnmaaDoor
set_option linter.unusedVariables false
open Go.RowKit Go.Proofs.Nm
/-- a reference's cells -/
def refC (a b : List UInt8) (p : Bool) (x : List Nat) : Array Value := (.string (T a) :: .string (T b) :: .bool p :: cellsOf x).toArray
def ref0 : Array Value := refC [] [] false zs32
theorem refC_size {x : List Nat} (a b : List UInt8) (p : Bool) (hx : D32 x) : (refC a b p x).size = 35 := by
  unfold refC
  rw [List.size_toArray]
  simp only [List.length_cons, cellsOf_length, hx.1]
theorem d32_zs : D32 zs32 := ⟨zs32_len, fun z hz => by have := List.eq_of_mem_replicate hz; omega⟩
theorem info_r1 : (Tryd.prog.info? 28).map (·.size) = some 35 := by kernel_rfl
theorem info_r2 : (Tryd.prog.info? 33).map (·.size) = some 35 := by kernel_rfl
theorem refC_one (a b : List UInt8) (p : Bool) (x : List Nat) : (refC a b p x).all (·.oneCell') = true := by
  unfold refC
  refine all_oneCell_toArray fun v hv => ?_
  simp only [List.mem_cons] at hv
  rcases hv with rfl | rfl | rfl | h
  · rfl
  · rfl
  · rfl
  · exact cellsOf_one _ v h
set_option maxRecDepth 100000 in
theorem built_r1 (a b : List UInt8) (p : Bool) : Tryd.prog.built 28 [(0, .string (T a)), (1, .string (T b)), (2, .bool p)] = some (refC a b p zs32) := by kernel_rfl
theorem built_r1z : Tryd.prog.built 28 [] = some ref0 := by kernel_rfl
theorem built_r2 (a : List UInt8) : Tryd.prog.built 33 [(0, .string (T a))] = some (refC a [] false zs32) := by kernel_rfl
theorem built_r2z : Tryd.prog.built 33 [] = some ref0 := by kernel_rfl
theorem clone_c (l : List UInt8) (w : World) (hl : l.length ≤ 140737488351232) :
    Calls Tryd.prog 28 #[.string (T l)] w fun e w' => e = .returned (.string (T l)) ∧ Below w.heap.size w w' := by
  have H := Lib.hid (fun W => stringslite_Clone (T l) W (show l.toArray.size ≤ 281474976710656 by simp; omega))
  go_enter Tryd.func28, Tryd.ntmps28
  go_wp2_with (go_at_call 38; refine (H.out _).mono ?_; rintro e w1 ⟨rfl, hb⟩; have HB := Lib.hid hb; clear hb)
  go_ret
  exact ⟨rfl, HB.out⟩
/-- such a value lies at g -/
def RR (W : World) (g : Nat) (t : TypeId) (C : Array Value) : Prop := W.heap[g]? = some (.cells C t (0, 0))
theorem RR.lt {W : World} {g : Nat} {t : TypeId} {C : Array Value} (h : RR W g t C) : g < W.heap.size := (Array.getElem?_eq_some_iff.1 h).1
theorem RR.below {B g : Nat} {W W' : World} {t : TypeId} {C : Array Value} (h : RR W g t C) (hb : Below B W W') (hg : g < B) : RR W' g t C := (hb.block g hg).trans h
theorem RR.setRow {g : Nat} {W : World} {t : TypeId} {C D : Array Value} (h : RR W g t C) : RR (W.setRow g D) g t D := setRow_heap _ _ _ _ _ _ h
theorem RR.new (W : World) (t : TypeId) (C : Array Value) : RR (W.alloc (.cells C t (0, 0))) W.heap.size t C := heap_new _ _
/-- the start of a Parse: its result's box -/
def PST (w : World) (g : Nat) (t : TypeId) (W : World) : Prop := RR W g t ref0 ∧ Below w.heap.size w W ∧ w.heap.size ≤ g
theorem PST.step {w W W' : World} {g : Nat} {t : TypeId} (h : PST w g t W) (hb : Below W.heap.size W W') : PST w g t W' := ⟨h.1.below hb h.1.lt, h.2.1.trans (hb.mono h.2.1.size), h.2.2⟩

/-- the reference that is being made, beside the result's box -/
def PS2 (w : World) (g g2 : Nat) (a r : List UInt8) (f : Bool) (W : World) : Prop := RR W g 28 ref0 ∧ RR W g2 28 (refC a r f zs32) ∧ Below w.heap.size w W ∧ w.heap.size ≤ g ∧ w.heap.size ≤ g2 ∧ g ≠ g2
theorem RR.other {W : World} {g g2 : Nat} {t : TypeId} {C D : Array Value} (h : RR W g t C) (hg : g ≠ g2) : RR (W.setRow g2 D) g t C := (setRow_other W g2 g D hg).trans h
theorem PS2.mk {w W : World} {g : Nat} {a r : List UInt8} {f : Bool} (h : PST w g 28 W) {O : Obj} (hO : O = .cells ref0 28 (0, 0)) : PS2 w g W.heap.size a r f ((W.alloc O).setRow W.heap.size (refC a r f zs32)) := by
  subst hO
  have hlt := h.1.lt
  refine ⟨(h.1.below ((Below.refl _ W).alloc (Nat.le_refl _) _) hlt).other (by omega), (RR.new W _ _).setRow, ?_, h.2.2, h.2.1.size, by omega⟩
  exact (h.2.1.alloc h.2.1.size _).setRow h.2.1.size _
set_option maxRecDepth 100000 in
set_option maxHeartbeats 4000000 in
theorem np_name (l p1 r1 a r2 : List UInt8) (f1 f2 : Bool) (w : World)
    (HC1 : Hid (∀ W, Calls Tryd.prog 26 #[.string (T l), .string ⟨#[64]⟩] W fun e w' => e = .returned (.tuple #[.string (T p1), .string (T r1), .bool f1]) ∧ Below W.heap.size W w'))
    (HC2 : Hid (∀ W, Calls Tryd.prog 26 #[.string (T p1), .string ⟨#[58]⟩] W fun e w' => e = .returned (.tuple #[.string (T a), .string (T r2), .bool f2]) ∧ Below W.heap.size W w'))
    (HR : Hid (∀ W, Calls Tryd.prog 11 #[.string (T a)] W fun e w' => e = .returned (.bool false) ∧ Below W.heap.size W w')) :
    Calls Tryd.prog 17 #[.string (T l)] w fun e w' => e = .returned (.tuple #[.agg ref0, .int .i64 70]) ∧ Below w.heap.size w w' := by
  have HI := Lib.hid (show (Tryd.prog.info? 28).map (·.size) = some ref0.size from by rw [show ref0.size = 35 from refC_size _ _ _ d32_zs]; exact info_r1)
  go_enter Tryd.func17, Tryd.ntmps17
  go_upto_region 1 with (fail)
  obtain ⟨g, hg⟩ : ∃ g, g = w.heap.size := ⟨_, rfl⟩
  refine gen_code (F := PST w g 28) (by
    rw [hg]
    exact ⟨RR.new _ _ _, (Below.refl _ w).alloc (Nat.le_refl _) _, Nat.le_refl _⟩) ?_
  rw [← hg]
  intro w0 hp
  have HP := Lib.hid hp
  clear hg hp
  go_wp2_with (first | (go_at_call 26; (first | ((with_reducible refine (HC1.out _).mono ?_); rintro e wa ⟨rfl, hb⟩; have HB1 := Lib.hid hb; clear hb) | ((with_reducible refine (HC2.out _).mono ?_); rintro e wb ⟨rfl, hb⟩; have HB2 := Lib.hid hb; clear hb))) | (go_at_call 11; (refine (HR.out _).mono ?_); rintro e wc ⟨rfl, hb⟩; have HB3 := Lib.hid hb; clear hb; have HP3 := Lib.hid (((HP.out.step HB1.out).step HB2.out).step HB3.out)) | (refine wpList_store_row (by rfl) 28 _ _ (by rfl) g ref0 (by rfl) (by rfl) 28 ref0 HP3.out.1 HI.out rfl (refC_one _ _ _ _) ?_))
  exact bodyPost_ret (results_row_tmp rfl _ _ g 28 ref0 (0, 0) _ (by rfl) HP3.out.1.setRow Tryd.underlying28 (by rfl) HI.out) rfl ⟨rfl, HP3.out.2.1.setRow HP3.out.2.2 _⟩

set_option maxRecDepth 100000 in
set_option maxHeartbeats 4000000 in
theorem np_tag (l p1 r1 a r2 : List UInt8) (f1 : Bool) (w : World)
    (HC1 : Hid (∀ W, Calls Tryd.prog 26 #[.string (T l), .string ⟨#[64]⟩] W fun e w' => e = .returned (.tuple #[.string (T p1), .string (T r1), .bool f1]) ∧ Below W.heap.size W w'))
    (HC2 : Hid (∀ W, Calls Tryd.prog 26 #[.string (T p1), .string ⟨#[58]⟩] W fun e w' => e = .returned (.tuple #[.string (T a), .string (T r2), .bool true]) ∧ Below W.heap.size W w'))
    (HR : Hid (∀ W, Calls Tryd.prog 11 #[.string (T a)] W fun e w' => e = .returned (.bool true) ∧ Below W.heap.size W w'))
    (HT : Hid (∀ W, Calls Tryd.prog 13 #[.string (T r2)] W fun e w' => e = .returned (.bool false) ∧ Below W.heap.size W w')) :
    Calls Tryd.prog 17 #[.string (T l)] w fun e w' => e = .returned (.tuple #[.agg ref0, .int .i64 71]) ∧ Below w.heap.size w w' := by
  have HI := Lib.hid (show (Tryd.prog.info? 28).map (·.size) = some ref0.size from by rw [show ref0.size = 35 from refC_size _ _ _ d32_zs]; exact info_r1)
  go_enter Tryd.func17, Tryd.ntmps17
  go_upto_region 1 with (fail)
  obtain ⟨g, hg⟩ : ∃ g, g = w.heap.size := ⟨_, rfl⟩
  refine gen_code (F := PST w g 28) (by
    rw [hg]
    exact ⟨RR.new _ _ _, (Below.refl _ w).alloc (Nat.le_refl _) _, Nat.le_refl _⟩) ?_
  rw [← hg]
  intro w0 hp
  have HP := Lib.hid hp
  clear hg hp
  go_wp2_with (first | (go_at_call 26; (first | ((with_reducible refine (HC1.out _).mono ?_); rintro e wa ⟨rfl, hb⟩; have HB1 := Lib.hid hb; clear hb) | ((with_reducible refine (HC2.out _).mono ?_); rintro e wb ⟨rfl, hb⟩; have HB2 := Lib.hid hb; clear hb))) | (go_at_call 11; (refine (HR.out _).mono ?_); rintro e wc ⟨rfl, hb⟩; have HB3 := Lib.hid hb; clear hb; have HP3 := Lib.hid (((HP.out.step HB1.out).step HB2.out).step HB3.out)) | (go_at_call 13; (refine (HT.out _).mono ?_); rintro e wd ⟨rfl, hb⟩; have HB4 := Lib.hid hb; clear hb; have HP4 := Lib.hid (HP3.out.step HB4.out)) | (refine wpList_store_row (by rfl) 28 _ _ (by rfl) g ref0 (by rfl) (by rfl) 28 ref0 HP4.out.1 HI.out rfl (refC_one _ _ _ _) ?_))
  exact bodyPost_ret (results_row_tmp rfl _ _ g 28 ref0 (0, 0) _ (by rfl) HP4.out.1.setRow Tryd.underlying28 (by rfl) HI.out) rfl ⟨rfl, HP4.out.2.1.setRow HP4.out.2.2 _⟩

set_option maxRecDepth 100000 in
set_option maxHeartbeats 4000000 in
theorem np_ok0 (l p1 r1 a r2 : List UInt8) (w : World)
    (HC1 : Hid (∀ W, Calls Tryd.prog 26 #[.string (T l), .string ⟨#[64]⟩] W fun e w' => e = .returned (.tuple #[.string (T p1), .string (T r1), .bool false]) ∧ Below W.heap.size W w'))
    (HC2 : Hid (∀ W, Calls Tryd.prog 26 #[.string (T p1), .string ⟨#[58]⟩] W fun e w' => e = .returned (.tuple #[.string (T a), .string (T r2), .bool false]) ∧ Below W.heap.size W w'))
    (HR : Hid (∀ W, Calls Tryd.prog 11 #[.string (T a)] W fun e w' => e = .returned (.bool true) ∧ Below W.heap.size W w'))
    (HL1 : Hid (∀ W, Calls Tryd.prog 28 #[.string (T a)] W fun e w' => e = .returned (.string (T a)) ∧ Below W.heap.size W w'))
    (HL2 : Hid (∀ W, Calls Tryd.prog 28 #[.string (T r2)] W fun e w' => e = .returned (.string (T r2)) ∧ Below W.heap.size W w')) :
    Calls Tryd.prog 17 #[.string (T l)] w fun e w' => e = .returned (.tuple #[.agg (refC a r2 false zs32), .int .i64 0]) ∧ Below w.heap.size w w' := by
  have HI := Lib.hid (show (Tryd.prog.info? 28).map (·.size) = some ref0.size from by rw [show ref0.size = 35 from refC_size _ _ _ d32_zs]; exact info_r1)
  have HIC := Lib.hid (show (Tryd.prog.info? 28).map (·.size) = some (refC a r2 false zs32).size from by rw [refC_size _ _ _ d32_zs]; exact info_r1)
  go_enter Tryd.func17, Tryd.ntmps17
  go_upto_region 1 with (fail)
  obtain ⟨g, hg⟩ : ∃ g, g = w.heap.size := ⟨_, rfl⟩
  refine gen_code (F := PST w g 28) (by
    rw [hg]
    exact ⟨RR.new _ _ _, (Below.refl _ w).alloc (Nat.le_refl _) _, Nat.le_refl _⟩) ?_
  rw [← hg]
  intro w0 hp
  have HP := Lib.hid hp
  clear hg hp
  go_upto_region 8 with (first | (go_at_call 26; (first | ((with_reducible refine (HC1.out _).mono ?_); rintro e wa ⟨rfl, hb⟩; have HB1 := Lib.hid hb; clear hb) | ((with_reducible refine (HC2.out _).mono ?_); rintro e wb ⟨rfl, hb⟩; have HB2 := Lib.hid hb; clear hb))) | (go_at_call 11; (refine (HR.out _).mono ?_); rintro e wc ⟨rfl, hb⟩; have HB3 := Lib.hid hb; clear hb; have HP3 := Lib.hid (((HP.out.step HB1.out).step HB2.out).step HB3.out)) | (go_at_call 28; (first | ((with_reducible refine (HL1.out _).mono ?_); clear HL1; rintro e we ⟨rfl, hb⟩; have HB5 := Lib.hid hb; clear hb) | ((with_reducible refine (HL2.out _).mono ?_); clear HL2; rintro e wf ⟨rfl, hb⟩; have HB6 := Lib.hid hb; clear hb; have HP6 := Lib.hid ((HP3.out.step HB5.out).step HB6.out)))) | (refine wpList_store_row (by rfl) 28 _ _ (by rfl) wf.heap.size (refC a r2 false zs32) (by rfl) (by rfl) 28 ref0 (RR.new _ _ _) HIC.out (by rw [refC_size _ _ _ d32_zs]; rfl) (refC_one _ _ _ _) ?_))
  obtain ⟨g2, hg2⟩ : ∃ g, g = wf.heap.size := ⟨_, rfl⟩
  refine gen_code (F := PS2 w g g2 a r2 false) (by
    rw [hg2]
    exact PS2.mk HP6.out (by rfl)) ?_
  rw [← hg2]
  intro w2 hp2
  have HP2 := Lib.hid hp2
  clear hg2 hp2
  go_wp2_with (first | (refine wpList_load_row (by rfl) 28 _ (by rfl) g2 (by rfl) 28 (refC a r2 false zs32) (0, 0) _ HP2.out.2.1 Tryd.underlying28 (by rfl) HIC.out ?_) | (refine wpList_store_row (by rfl) 28 _ _ (by rfl) g (refC a r2 false zs32) (by rfl) (by rfl) 28 ref0 HP2.out.1 HIC.out (by rw [refC_size _ _ _ d32_zs]; rfl) (refC_one _ _ _ _) ?_))
  exact bodyPost_ret (results_row_tmp rfl _ _ g 28 (refC a r2 false zs32) (0, 0) _ (by rfl) HP2.out.1.setRow Tryd.underlying28 (by rfl) HIC.out) rfl ⟨rfl, HP2.out.2.2.1.setRow HP2.out.2.2.2.1 _⟩

set_option maxRecDepth 100000 in
set_option maxHeartbeats 4000000 in
theorem np_ok1 (l p1 r1 a r2 : List UInt8) (w : World)
    (HC1 : Hid (∀ W, Calls Tryd.prog 26 #[.string (T l), .string ⟨#[64]⟩] W fun e w' => e = .returned (.tuple #[.string (T p1), .string (T r1), .bool false]) ∧ Below W.heap.size W w'))
    (HC2 : Hid (∀ W, Calls Tryd.prog 26 #[.string (T p1), .string ⟨#[58]⟩] W fun e w' => e = .returned (.tuple #[.string (T a), .string (T r2), .bool true]) ∧ Below W.heap.size W w'))
    (HR : Hid (∀ W, Calls Tryd.prog 11 #[.string (T a)] W fun e w' => e = .returned (.bool true) ∧ Below W.heap.size W w'))
    (HT : Hid (∀ W, Calls Tryd.prog 13 #[.string (T r2)] W fun e w' => e = .returned (.bool true) ∧ Below W.heap.size W w'))
    (HL1 : Hid (∀ W, Calls Tryd.prog 28 #[.string (T a)] W fun e w' => e = .returned (.string (T a)) ∧ Below W.heap.size W w'))
    (HL2 : Hid (∀ W, Calls Tryd.prog 28 #[.string (T r2)] W fun e w' => e = .returned (.string (T r2)) ∧ Below W.heap.size W w')) :
    Calls Tryd.prog 17 #[.string (T l)] w fun e w' => e = .returned (.tuple #[.agg (refC a r2 false zs32), .int .i64 0]) ∧ Below w.heap.size w w' := by
  have HI := Lib.hid (show (Tryd.prog.info? 28).map (·.size) = some ref0.size from by rw [show ref0.size = 35 from refC_size _ _ _ d32_zs]; exact info_r1)
  have HIC := Lib.hid (show (Tryd.prog.info? 28).map (·.size) = some (refC a r2 false zs32).size from by rw [refC_size _ _ _ d32_zs]; exact info_r1)
  go_enter Tryd.func17, Tryd.ntmps17
  go_upto_region 1 with (fail)
  obtain ⟨g, hg⟩ : ∃ g, g = w.heap.size := ⟨_, rfl⟩
  refine gen_code (F := PST w g 28) (by
    rw [hg]
    exact ⟨RR.new _ _ _, (Below.refl _ w).alloc (Nat.le_refl _) _, Nat.le_refl _⟩) ?_
  rw [← hg]
  intro w0 hp
  have HP := Lib.hid hp
  clear hg hp
  go_upto_region 8 with (first | (go_at_call 26; (first | ((with_reducible refine (HC1.out _).mono ?_); rintro e wa ⟨rfl, hb⟩; have HB1 := Lib.hid hb; clear hb) | ((with_reducible refine (HC2.out _).mono ?_); rintro e wb ⟨rfl, hb⟩; have HB2 := Lib.hid hb; clear hb))) | (go_at_call 11; (refine (HR.out _).mono ?_); rintro e wc ⟨rfl, hb⟩; have HB3 := Lib.hid hb; clear hb; have HP3 := Lib.hid (((HP.out.step HB1.out).step HB2.out).step HB3.out)) | (go_at_call 13; (refine (HT.out _).mono ?_); rintro e wd ⟨rfl, hb⟩; have HB4 := Lib.hid hb; clear hb; have HP4 := Lib.hid (HP3.out.step HB4.out)) | (go_at_call 28; (first | ((with_reducible refine (HL1.out _).mono ?_); clear HL1; rintro e we ⟨rfl, hb⟩; have HB5 := Lib.hid hb; clear hb) | ((with_reducible refine (HL2.out _).mono ?_); clear HL2; rintro e wf ⟨rfl, hb⟩; have HB6 := Lib.hid hb; clear hb; have HP6 := Lib.hid ((HP4.out.step HB5.out).step HB6.out)))) | (refine wpList_store_row (by rfl) 28 _ _ (by rfl) wf.heap.size (refC a r2 false zs32) (by rfl) (by rfl) 28 ref0 (RR.new _ _ _) HIC.out (by rw [refC_size _ _ _ d32_zs]; rfl) (refC_one _ _ _ _) ?_))
  obtain ⟨g2, hg2⟩ : ∃ g, g = wf.heap.size := ⟨_, rfl⟩
  refine gen_code (F := PS2 w g g2 a r2 false) (by
    rw [hg2]
    exact PS2.mk HP6.out (by rfl)) ?_
  rw [← hg2]
  intro w2 hp2
  have HP2 := Lib.hid hp2
  clear hg2 hp2
  go_wp2_with (first | (refine wpList_load_row (by rfl) 28 _ (by rfl) g2 (by rfl) 28 (refC a r2 false zs32) (0, 0) _ HP2.out.2.1 Tryd.underlying28 (by rfl) HIC.out ?_) | (refine wpList_store_row (by rfl) 28 _ _ (by rfl) g (refC a r2 false zs32) (by rfl) (by rfl) 28 ref0 HP2.out.1 HIC.out (by rw [refC_size _ _ _ d32_zs]; rfl) (refC_one _ _ _ _) ?_))
  exact bodyPost_ret (results_row_tmp rfl _ _ g 28 (refC a r2 false zs32) (0, 0) _ (by rfl) HP2.out.1.setRow Tryd.underlying28 (by rfl) HIC.out) rfl ⟨rfl, HP2.out.2.2.1.setRow HP2.out.2.2.2.1 _⟩
end Go.Proofs.YtjoomfikfbbnmaaDoor
