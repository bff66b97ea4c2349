/-
  The walks over the program's Parse of a reference that is pinned.
-/
import Derived.Test.YtjoomfikfbbnmaaDoorNme
import Derived.Test.YtjoomfikfbbnmaaDoorNmt
namespace Go.Proofs.YtjoomfikfbbnmaaDoor
set_option linter.unusedVariables false
open Go.RowKit Go.Proofs.Nm
theorem info_dg : (Tryd.prog.info? 26).map (·.size) = some 32 := by kernel_rfl
theorem info_dr : (Tryd.prog.info? 25).map (·.size) = some 32 := by kernel_rfl
theorem cells32 {d : List Nat} (hd : D32 d) : (cellsOf d).toArray.size = 32 := by rw [cellsOf_size, hd.1]
theorem cells_one (d : List Nat) : (cellsOf d).toArray.all (·.oneCell') = true := all_oneCell_toArray fun v hv => cellsOf_one _ v hv
theorem refC_list (a b : List UInt8) (p : Bool) (x : List Nat) : refC a b p x = (Value.string (T a) :: .string (T b) :: .bool p :: cellsOf x).toArray := rfl
theorem RR.cellq {g : Nat} {W : World} {t : TypeId} {C : Array Value} (h : RR W g t C) (j : Nat) : W.cell? ⟨g, j, none⟩ = C[j]? := cell_of_row _ _ _ _ _ _ h
theorem RR.fz {g : Nat} {W : World} {t : TypeId} {C : Array Value} (h : RR W g t C) (j : Nat) : W.frozen? ⟨g, j, none⟩ = false := frozen_of_row _ _ _ _ _ h
theorem RR.thereR {g : Nat} {W : World} {t : TypeId} {C : Array Value} (h : RR W g t C) (o m : Nat) (hm : o + m ≤ C.size) : W.there g o m := fun j hj => by
  rw [h.cellq, h.fz, Array.getElem?_eq_getElem (by omega)]
  exact ⟨rfl, rfl⟩
theorem RR.setDig {g : Nat} {W : World} {t : TypeId} {a b : List UInt8} {p : Bool} {x d : List Nat} (h : RR W g t (refC a b p x)) (hx : D32 x) (hd : D32 d) : RR (W.setCells g 3 (cellsOf d).toArray.toList) g t (refC a b p d) := by
  have h1 := setCells_row g t (cellsOf d).toArray.toList 3 (Value.string (T a) :: .string (T b) :: .bool p :: cellsOf x) W h (by simp only [List.length_cons, cellsOf_length, hx.1, hd.1]; decide)
  unfold RR
  rw [h1]
  congr 2
  unfold refC splice
  simp only [List.take_succ_cons, List.take_zero, List.cons_append, List.nil_append, cellsOf_length, hd.1, List.drop_succ_cons]
  rw [List.drop_eq_nil_of_le (by rw [cellsOf_length, hx.1]; decide), List.append_nil]
theorem RR.setTag {g : Nat} {W : World} {t : TypeId} {a b : List UInt8} {p : Bool} {x : List Nat} (h : RR W g t (refC a b p x)) (r : List UInt8) : RR (W.setCell ⟨g, 1, none⟩ (.string (T r))) g t (refC a r p x) := by
  have h1 := setCells_row g t [.string (T r)] 1 (Value.string (T a) :: .string (T b) :: .bool p :: cellsOf x) W h (by simp)
  exact h1
theorem RR.setPin {g : Nat} {W : World} {t : TypeId} {a b : List UInt8} {p : Bool} {x : List Nat} (h : RR W g t (refC a b p x)) (q : Bool) : RR (W.setCell ⟨g, 2, none⟩ (.bool q)) g t (refC a b q x) := by
  have h1 := setCells_row g t [.bool q] 2 (Value.string (T a) :: .string (T b) :: .bool p :: cellsOf x) W h (by simp)
  exact h1
theorem RR.otherCells {g g2 : Nat} {W : World} {t : TypeId} {C : Array Value} (h : RR W g t C) (hg : g ≠ g2) (o : Nat) (vs : List Value) : RR (W.setCells g2 o vs) g t C :=
  ((Only.setCells vs o (Only.refl g2 W)).block g h.lt hg).trans h
/-- the reference that is being made, the sum that was parsed, and the result's box -/
def PS3 (w : World) (t u : TypeId) (g g2 g3 : Nat) (a r : List UInt8) (f : Bool) (x d : List Nat) (W : World) : Prop :=
  RR W g t ref0 ∧ RR W g2 t (refC a r f x) ∧ Brow W g3 u d ∧ Below w.heap.size w W ∧ w.heap.size ≤ g ∧ w.heap.size ≤ g2 ∧ g ≠ g2 ∧ g2 ≠ g3
theorem Brow.setRowT {W : World} {g : Nat} {t : TypeId} {C : Array Value} {d : List Nat} (h : RR W g t C) : Brow (W.setRow g (cellsOf d).toArray) g t d := h.setRow
theorem PS3.mk {w W : World} {t u : TypeId} {g g2 : Nat} {a r : List UInt8} {f : Bool} {x : List Nat} (h1 : RR W g t ref0) (h2 : RR W g2 t (refC a r f x)) (hb : Below w.heap.size w W) (hg : w.heap.size ≤ g) (hg2 : w.heap.size ≤ g2) (hne : g ≠ g2) (d : List Nat) {O : Obj} (hO : O = .cells (cellsOf zs32).toArray u (0, 0)) :
    PS3 w t u g g2 W.heap.size a r f x d ((W.alloc O).setRow W.heap.size (cellsOf d).toArray) := by
  subst hO
  have l1 := h1.lt
  have l2 := h2.lt
  refine ⟨(h1.below ((Below.refl _ W).alloc (Nat.le_refl _) _) l1).other (by omega), (h2.below ((Below.refl _ W).alloc (Nat.le_refl _) _) l2).other (by omega), Brow.setRowT (RR.new W _ _), ?_, hg, hg2, hne, by omega⟩
  exact (hb.alloc hb.size _).setRow hb.size _
theorem Brow.otherCells {g g2 : Nat} {W : World} {t : TypeId} {d : List Nat} (h : Brow W g t d) (hg : g ≠ g2) (o : Nat) (vs : List Value) : Brow (W.setCells g2 o vs) g t d := RR.otherCells (t := t) h hg o vs
theorem Only.below' {g : Nat} {w W W' : World} (ho : Only g W W') (hb : Below w.heap.size w W) (hg : w.heap.size ≤ g) : Below w.heap.size w W' := hb.trans (ho.below hg hb.size)
set_option maxRecDepth 100000 in
set_option maxHeartbeats 8000000 in
theorem np_pin00 (l p1 r1 a r2 : List UInt8) (d : List Nat) (hd : D32 d) (w : World)
    (HC1 : Hid (∀ W, Calls Tryd.prog 26 #[.string (T l), .string ⟨#[64]⟩] W fun e w' => e = .returned (.tuple #[.string (T p1), .string (T r1), .bool true]) ∧ Below W.heap.size W w'))
    (HC2 : Hid (∀ W, Calls Tryd.prog 26 #[.string (T p1), .string ⟨#[58]⟩] W fun e w' => e = .returned (.tuple #[.string (T a), .string (T r2), .bool false]) ∧ Below W.heap.size W w'))
    (HR : Hid (∀ W, Calls Tryd.prog 11 #[.string (T a)] W fun e w' => e = .returned (.bool true) ∧ Below W.heap.size W w'))
    (HL1 : Hid (∀ W, Calls Tryd.prog 28 #[.string (T a)] W fun e w' => e = .returned (.string (T a)) ∧ Below W.heap.size W w'))
    (HL2 : Hid (∀ W, Calls Tryd.prog 28 #[.string (T r2)] W fun e w' => e = .returned (.string (T r2)) ∧ Below W.heap.size W w'))
    (HD : Hid (∀ W, Calls Tryd.prog 29 #[.string (T r1)] W fun e w' => e = .returned (.tuple #[.agg (cellsOf d).toArray, .int .i64 10]) ∧ Below W.heap.size W w')) :
    Calls Tryd.prog 17 #[.string (T l)] w fun e w' => e = .returned (.tuple #[.agg ref0, .int .i64 20]) ∧ Below w.heap.size w w' := by
  have HDD := Lib.hid hd
  clear hd
  have HI := Lib.hid (show (Tryd.prog.info? 28).map (·.size) = some ref0.size from by rw [show ref0.size = 35 from refC_size _ _ _ d32_zs]; exact info_r1)
  have HIC := Lib.hid (show (Tryd.prog.info? 28).map (·.size) = some (refC a r2 true zs32).size from by rw [refC_size _ _ _ d32_zs]; exact info_r1)
  have HID := Lib.hid (show (Tryd.prog.info? 28).map (·.size) = some (refC a r2 true d).size from by rw [refC_size _ _ _ HDD.out]; exact info_r1)
  have HI32 := Lib.hid (show (Tryd.prog.info? 26).map (·.size) = some (cellsOf d).toArray.size from by rw [cells32 HDD.out]; exact info_dg)
  have HS32 := Lib.hid (show (cellsOf zs32).toArray.size = (cellsOf d).toArray.size from by rw [cells32 HDD.out]; rfl)
  have HSD := Lib.hid (show ref0.size = (refC a r2 true d).size from by rw [refC_size _ _ _ HDD.out]; rfl)
  go_enter Tryd.func17, Tryd.ntmps17
  go_upto_region 1 with (fail)
  obtain ⟨g, hg⟩ : ∃ g, g = w.heap.size := ⟨_, rfl⟩
  refine gen_code (F := PST w g 28) (by
    rw [hg]
    exact ⟨RR.new _ _ _, (Below.refl _ w).alloc (Nat.le_refl _) _, Nat.le_refl _⟩) ?_
  rw [← hg]
  intro w0 hp
  have HP := Lib.hid hp
  clear hg hp
  go_upto_region 8 with (first | (go_at_call 26; (first | ((with_reducible refine (HC1.out _).mono ?_); rintro e wa ⟨rfl, hb⟩; have HB1 := Lib.hid hb; clear hb) | ((with_reducible refine (HC2.out _).mono ?_); rintro e wb ⟨rfl, hb⟩; have HB2 := Lib.hid hb; clear hb))) | (go_at_call 11; (refine (HR.out _).mono ?_); rintro e wc ⟨rfl, hb⟩; have HB3 := Lib.hid hb; clear hb; have HP3 := Lib.hid (((HP.out.step HB1.out).step HB2.out).step HB3.out)) | (go_at_call 28; (first | ((with_reducible refine (HL1.out _).mono ?_); clear HL1; rintro e we ⟨rfl, hb⟩; have HB5 := Lib.hid hb; clear hb) | ((with_reducible refine (HL2.out _).mono ?_); clear HL2; rintro e wf ⟨rfl, hb⟩; have HB6 := Lib.hid hb; clear hb; have HP6 := Lib.hid ((HP3.out.step HB5.out).step HB6.out)))) | (refine wpList_store_row (by rfl) 28 _ _ (by rfl) wf.heap.size (refC a r2 true zs32) (by rfl) (by rfl) 28 ref0 (RR.new _ _ _) HIC.out (by rw [refC_size _ _ _ d32_zs]; rfl) (refC_one _ _ _ _) ?_))
  obtain ⟨g2, hg2⟩ : ∃ g, g = wf.heap.size := ⟨_, rfl⟩
  refine gen_code (F := PS2 w g g2 a r2 true) (by
    rw [hg2]
    exact PS2.mk HP6.out (by rfl)) ?_
  rw [← hg2]
  intro w2 hp2
  have HP2 := Lib.hid hp2
  clear hg2 hp2
  go_upto_region 11 with (first | (go_at_call 29; (refine (HD.out _).mono ?_); rintro e wq ⟨rfl, hb⟩; have HBq := Lib.hid hb; clear hb) | (refine wpList_store_row (by rfl) 26 _ _ (by rfl) wq.heap.size (cellsOf d).toArray (by rfl) (by rfl) 26 (cellsOf zs32).toArray (RR.new _ _ _) HI32.out HS32.out (cells_one _) ?_))
  obtain ⟨g3, hg3⟩ : ∃ g, g = wq.heap.size := ⟨_, rfl⟩
  refine gen_code (F := PS3 w 28 26 g g2 g3 a r2 true zs32 d) (by
    rw [hg3]
    obtain ⟨q1, q2, q3, q4, q5, q6⟩ := HP2.out
    exact PS3.mk (q1.below HBq.out q1.lt) (q2.below HBq.out q2.lt) (q3.trans (HBq.out.mono q3.size)) q4 q5 q6 d (by rfl)) ?_
  rw [← hg3]
  intro w3 hp3
  have HP3' := Lib.hid hp3
  clear hg3 hp3
  go_wp2_with (refine wpList_store_row (by rfl) 28 _ _ (by rfl) g ref0 (by rfl) (by rfl) 28 ref0 HP3'.out.1 HI.out rfl (refC_one _ _ _ _) ?_)
  exact bodyPost_ret (results_row_tmp rfl _ _ g 28 ref0 (0, 0) _ (by rfl) HP3'.out.1.setRow Tryd.underlying28 (by rfl) HI.out) rfl ⟨rfl, HP3'.out.2.2.2.1.setRow HP3'.out.2.2.2.2.1 _⟩
set_option maxRecDepth 100000 in
set_option maxHeartbeats 8000000 in
theorem np_pin01 (l p1 r1 a r2 : List UInt8) (d : List Nat) (hd : D32 d) (w : World)
    (HC1 : Hid (∀ W, Calls Tryd.prog 26 #[.string (T l), .string ⟨#[64]⟩] W fun e w' => e = .returned (.tuple #[.string (T p1), .string (T r1), .bool true]) ∧ Below W.heap.size W w'))
    (HC2 : Hid (∀ W, Calls Tryd.prog 26 #[.string (T p1), .string ⟨#[58]⟩] W fun e w' => e = .returned (.tuple #[.string (T a), .string (T r2), .bool false]) ∧ Below W.heap.size W w'))
    (HR : Hid (∀ W, Calls Tryd.prog 11 #[.string (T a)] W fun e w' => e = .returned (.bool true) ∧ Below W.heap.size W w'))
    (HL1 : Hid (∀ W, Calls Tryd.prog 28 #[.string (T a)] W fun e w' => e = .returned (.string (T a)) ∧ Below W.heap.size W w'))
    (HL2 : Hid (∀ W, Calls Tryd.prog 28 #[.string (T r2)] W fun e w' => e = .returned (.string (T r2)) ∧ Below W.heap.size W w'))
    (HD : Hid (∀ W, Calls Tryd.prog 29 #[.string (T r1)] W fun e w' => e = .returned (.tuple #[.agg (cellsOf d).toArray, .int .i64 0]) ∧ Below W.heap.size W w')) :
    Calls Tryd.prog 17 #[.string (T l)] w fun e w' => e = .returned (.tuple #[.agg (refC a r2 true d), .int .i64 0]) ∧ Below w.heap.size w w' := by
  have HDD := Lib.hid hd
  clear hd
  have HI := Lib.hid (show (Tryd.prog.info? 28).map (·.size) = some ref0.size from by rw [show ref0.size = 35 from refC_size _ _ _ d32_zs]; exact info_r1)
  have HIC := Lib.hid (show (Tryd.prog.info? 28).map (·.size) = some (refC a r2 true zs32).size from by rw [refC_size _ _ _ d32_zs]; exact info_r1)
  have HID := Lib.hid (show (Tryd.prog.info? 28).map (·.size) = some (refC a r2 true d).size from by rw [refC_size _ _ _ HDD.out]; exact info_r1)
  have HI32 := Lib.hid (show (Tryd.prog.info? 26).map (·.size) = some (cellsOf d).toArray.size from by rw [cells32 HDD.out]; exact info_dg)
  have HS32 := Lib.hid (show (cellsOf zs32).toArray.size = (cellsOf d).toArray.size from by rw [cells32 HDD.out]; rfl)
  have HSD := Lib.hid (show ref0.size = (refC a r2 true d).size from by rw [refC_size _ _ _ HDD.out]; rfl)
  go_enter Tryd.func17, Tryd.ntmps17
  go_upto_region 1 with (fail)
  obtain ⟨g, hg⟩ : ∃ g, g = w.heap.size := ⟨_, rfl⟩
  refine gen_code (F := PST w g 28) (by
    rw [hg]
    exact ⟨RR.new _ _ _, (Below.refl _ w).alloc (Nat.le_refl _) _, Nat.le_refl _⟩) ?_
  rw [← hg]
  intro w0 hp
  have HP := Lib.hid hp
  clear hg hp
  go_upto_region 8 with (first | (go_at_call 26; (first | ((with_reducible refine (HC1.out _).mono ?_); rintro e wa ⟨rfl, hb⟩; have HB1 := Lib.hid hb; clear hb) | ((with_reducible refine (HC2.out _).mono ?_); rintro e wb ⟨rfl, hb⟩; have HB2 := Lib.hid hb; clear hb))) | (go_at_call 11; (refine (HR.out _).mono ?_); rintro e wc ⟨rfl, hb⟩; have HB3 := Lib.hid hb; clear hb; have HP3 := Lib.hid (((HP.out.step HB1.out).step HB2.out).step HB3.out)) | (go_at_call 28; (first | ((with_reducible refine (HL1.out _).mono ?_); clear HL1; rintro e we ⟨rfl, hb⟩; have HB5 := Lib.hid hb; clear hb) | ((with_reducible refine (HL2.out _).mono ?_); clear HL2; rintro e wf ⟨rfl, hb⟩; have HB6 := Lib.hid hb; clear hb; have HP6 := Lib.hid ((HP3.out.step HB5.out).step HB6.out)))) | (refine wpList_store_row (by rfl) 28 _ _ (by rfl) wf.heap.size (refC a r2 true zs32) (by rfl) (by rfl) 28 ref0 (RR.new _ _ _) HIC.out (by rw [refC_size _ _ _ d32_zs]; rfl) (refC_one _ _ _ _) ?_))
  obtain ⟨g2, hg2⟩ : ∃ g, g = wf.heap.size := ⟨_, rfl⟩
  refine gen_code (F := PS2 w g g2 a r2 true) (by
    rw [hg2]
    exact PS2.mk HP6.out (by rfl)) ?_
  rw [← hg2]
  intro w2 hp2
  have HP2 := Lib.hid hp2
  clear hg2 hp2
  go_upto_region 11 with (first | (go_at_call 29; (refine (HD.out _).mono ?_); rintro e wq ⟨rfl, hb⟩; have HBq := Lib.hid hb; clear hb) | (refine wpList_store_row (by rfl) 26 _ _ (by rfl) wq.heap.size (cellsOf d).toArray (by rfl) (by rfl) 26 (cellsOf zs32).toArray (RR.new _ _ _) HI32.out HS32.out (cells_one _) ?_))
  obtain ⟨g3, hg3⟩ : ∃ g, g = wq.heap.size := ⟨_, rfl⟩
  refine gen_code (F := PS3 w 28 26 g g2 g3 a r2 true zs32 d) (by
    rw [hg3]
    obtain ⟨q1, q2, q3, q4, q5, q6⟩ := HP2.out
    exact PS3.mk (q1.below HBq.out q1.lt) (q2.below HBq.out q2.lt) (q3.trans (HBq.out.mono q3.size)) q4 q5 q6 d (by rfl)) ?_
  rw [← hg3]
  intro w3 hp3
  have HP3' := Lib.hid hp3
  clear hg3 hp3
  go_upto_region 14 with (first | (refine wpList_load_row (by rfl) 26 _ (by rfl) g3 (by rfl) 26 (cellsOf d).toArray (0, 0) _ HP3'.out.2.2.1 Tryd.underlying26 (by rfl) HI32.out ?_) | (refine wpList_store_mid (by rfl) 26 _ _ (by rfl) g2 3 (cellsOf d).toArray (by rfl) (by rfl) (HP3'.out.2.1.thereR 3 _ (by rw [refC_size _ _ _ d32_zs, cells32 HDD.out]; decide)) HI32.out (cells_one _) ?_))
  refine gen_code (F := PS3 w 28 26 g g2 g3 a r2 true d d) (by
    obtain ⟨q1, q2, q3, q4, q5, q6, q7, q8⟩ := HP3'.out
    exact ⟨q1.otherCells q7 _ _, q2.setDig d32_zs HDD.out, q3.otherCells (Ne.symm q8) _ _, (Only.setCells _ _ (Only.refl g2 w3)).below' q4 q6, q5, q6, q7, q8⟩) ?_
  intro w4 hp4
  have HP4' := Lib.hid hp4
  clear hp4
  go_wp2_with (first | (refine wpList_load_row (by rfl) 28 _ (by rfl) g2 (by rfl) 28 (refC a r2 true d) (0, 0) _ HP4'.out.2.1 Tryd.underlying28 (by rfl) HID.out ?_) | (refine wpList_store_row (by rfl) 28 _ _ (by rfl) g (refC a r2 true d) (by rfl) (by rfl) 28 ref0 HP4'.out.1 HID.out HSD.out (refC_one _ _ _ _) ?_))
  exact bodyPost_ret (results_row_tmp rfl _ _ g 28 (refC a r2 true d) (0, 0) _ (by rfl) HP4'.out.1.setRow Tryd.underlying28 (by rfl) HID.out) rfl ⟨rfl, HP4'.out.2.2.2.1.setRow HP4'.out.2.2.2.2.1 _⟩
set_option maxRecDepth 100000 in
set_option maxHeartbeats 8000000 in
theorem np_pin10 (l p1 r1 a r2 : List UInt8) (d : List Nat) (hd : D32 d) (w : World)
    (HC1 : Hid (∀ W, Calls Tryd.prog 26 #[.string (T l), .string ⟨#[64]⟩] W fun e w' => e = .returned (.tuple #[.string (T p1), .string (T r1), .bool true]) ∧ Below W.heap.size W w'))
    (HC2 : Hid (∀ W, Calls Tryd.prog 26 #[.string (T p1), .string ⟨#[58]⟩] W fun e w' => e = .returned (.tuple #[.string (T a), .string (T r2), .bool true]) ∧ Below W.heap.size W w'))
    (HR : Hid (∀ W, Calls Tryd.prog 11 #[.string (T a)] W fun e w' => e = .returned (.bool true) ∧ Below W.heap.size W w'))
    (HT : Hid (∀ W, Calls Tryd.prog 13 #[.string (T r2)] W fun e w' => e = .returned (.bool true) ∧ Below W.heap.size W w'))
    (HL1 : Hid (∀ W, Calls Tryd.prog 28 #[.string (T a)] W fun e w' => e = .returned (.string (T a)) ∧ Below W.heap.size W w'))
    (HL2 : Hid (∀ W, Calls Tryd.prog 28 #[.string (T r2)] W fun e w' => e = .returned (.string (T r2)) ∧ Below W.heap.size W w'))
    (HD : Hid (∀ W, Calls Tryd.prog 29 #[.string (T r1)] W fun e w' => e = .returned (.tuple #[.agg (cellsOf d).toArray, .int .i64 10]) ∧ Below W.heap.size W w')) :
    Calls Tryd.prog 17 #[.string (T l)] w fun e w' => e = .returned (.tuple #[.agg ref0, .int .i64 20]) ∧ Below w.heap.size w w' := by
  have HDD := Lib.hid hd
  clear hd
  have HI := Lib.hid (show (Tryd.prog.info? 28).map (·.size) = some ref0.size from by rw [show ref0.size = 35 from refC_size _ _ _ d32_zs]; exact info_r1)
  have HIC := Lib.hid (show (Tryd.prog.info? 28).map (·.size) = some (refC a r2 true zs32).size from by rw [refC_size _ _ _ d32_zs]; exact info_r1)
  have HID := Lib.hid (show (Tryd.prog.info? 28).map (·.size) = some (refC a r2 true d).size from by rw [refC_size _ _ _ HDD.out]; exact info_r1)
  have HI32 := Lib.hid (show (Tryd.prog.info? 26).map (·.size) = some (cellsOf d).toArray.size from by rw [cells32 HDD.out]; exact info_dg)
  have HS32 := Lib.hid (show (cellsOf zs32).toArray.size = (cellsOf d).toArray.size from by rw [cells32 HDD.out]; rfl)
  have HSD := Lib.hid (show ref0.size = (refC a r2 true d).size from by rw [refC_size _ _ _ HDD.out]; rfl)
  go_enter Tryd.func17, Tryd.ntmps17
  go_upto_region 1 with (fail)
  obtain ⟨g, hg⟩ : ∃ g, g = w.heap.size := ⟨_, rfl⟩
  refine gen_code (F := PST w g 28) (by
    rw [hg]
    exact ⟨RR.new _ _ _, (Below.refl _ w).alloc (Nat.le_refl _) _, Nat.le_refl _⟩) ?_
  rw [← hg]
  intro w0 hp
  have HP := Lib.hid hp
  clear hg hp
  go_upto_region 8 with (first | (go_at_call 26; (first | ((with_reducible refine (HC1.out _).mono ?_); rintro e wa ⟨rfl, hb⟩; have HB1 := Lib.hid hb; clear hb) | ((with_reducible refine (HC2.out _).mono ?_); rintro e wb ⟨rfl, hb⟩; have HB2 := Lib.hid hb; clear hb))) | (go_at_call 11; (refine (HR.out _).mono ?_); rintro e wc ⟨rfl, hb⟩; have HB3 := Lib.hid hb; clear hb; have HP3 := Lib.hid (((HP.out.step HB1.out).step HB2.out).step HB3.out)) | (go_at_call 13; (refine (HT.out _).mono ?_); rintro e wd ⟨rfl, hb⟩; have HB4 := Lib.hid hb; clear hb; have HP4 := Lib.hid (HP3.out.step HB4.out)) | (go_at_call 28; (first | ((with_reducible refine (HL1.out _).mono ?_); clear HL1; rintro e we ⟨rfl, hb⟩; have HB5 := Lib.hid hb; clear hb) | ((with_reducible refine (HL2.out _).mono ?_); clear HL2; rintro e wf ⟨rfl, hb⟩; have HB6 := Lib.hid hb; clear hb; have HP6 := Lib.hid ((HP4.out.step HB5.out).step HB6.out)))) | (refine wpList_store_row (by rfl) 28 _ _ (by rfl) wf.heap.size (refC a r2 true zs32) (by rfl) (by rfl) 28 ref0 (RR.new _ _ _) HIC.out (by rw [refC_size _ _ _ d32_zs]; rfl) (refC_one _ _ _ _) ?_))
  obtain ⟨g2, hg2⟩ : ∃ g, g = wf.heap.size := ⟨_, rfl⟩
  refine gen_code (F := PS2 w g g2 a r2 true) (by
    rw [hg2]
    exact PS2.mk HP6.out (by rfl)) ?_
  rw [← hg2]
  intro w2 hp2
  have HP2 := Lib.hid hp2
  clear hg2 hp2
  go_upto_region 11 with (first | (go_at_call 29; (refine (HD.out _).mono ?_); rintro e wq ⟨rfl, hb⟩; have HBq := Lib.hid hb; clear hb) | (refine wpList_store_row (by rfl) 26 _ _ (by rfl) wq.heap.size (cellsOf d).toArray (by rfl) (by rfl) 26 (cellsOf zs32).toArray (RR.new _ _ _) HI32.out HS32.out (cells_one _) ?_))
  obtain ⟨g3, hg3⟩ : ∃ g, g = wq.heap.size := ⟨_, rfl⟩
  refine gen_code (F := PS3 w 28 26 g g2 g3 a r2 true zs32 d) (by
    rw [hg3]
    obtain ⟨q1, q2, q3, q4, q5, q6⟩ := HP2.out
    exact PS3.mk (q1.below HBq.out q1.lt) (q2.below HBq.out q2.lt) (q3.trans (HBq.out.mono q3.size)) q4 q5 q6 d (by rfl)) ?_
  rw [← hg3]
  intro w3 hp3
  have HP3' := Lib.hid hp3
  clear hg3 hp3
  go_wp2_with (refine wpList_store_row (by rfl) 28 _ _ (by rfl) g ref0 (by rfl) (by rfl) 28 ref0 HP3'.out.1 HI.out rfl (refC_one _ _ _ _) ?_)
  exact bodyPost_ret (results_row_tmp rfl _ _ g 28 ref0 (0, 0) _ (by rfl) HP3'.out.1.setRow Tryd.underlying28 (by rfl) HI.out) rfl ⟨rfl, HP3'.out.2.2.2.1.setRow HP3'.out.2.2.2.2.1 _⟩
set_option maxRecDepth 100000 in
set_option maxHeartbeats 8000000 in
theorem np_pin11 (l p1 r1 a r2 : List UInt8) (d : List Nat) (hd : D32 d) (w : World)
    (HC1 : Hid (∀ W, Calls Tryd.prog 26 #[.string (T l), .string ⟨#[64]⟩] W fun e w' => e = .returned (.tuple #[.string (T p1), .string (T r1), .bool true]) ∧ Below W.heap.size W w'))
    (HC2 : Hid (∀ W, Calls Tryd.prog 26 #[.string (T p1), .string ⟨#[58]⟩] W fun e w' => e = .returned (.tuple #[.string (T a), .string (T r2), .bool true]) ∧ Below W.heap.size W w'))
    (HR : Hid (∀ W, Calls Tryd.prog 11 #[.string (T a)] W fun e w' => e = .returned (.bool true) ∧ Below W.heap.size W w'))
    (HT : Hid (∀ W, Calls Tryd.prog 13 #[.string (T r2)] W fun e w' => e = .returned (.bool true) ∧ Below W.heap.size W w'))
    (HL1 : Hid (∀ W, Calls Tryd.prog 28 #[.string (T a)] W fun e w' => e = .returned (.string (T a)) ∧ Below W.heap.size W w'))
    (HL2 : Hid (∀ W, Calls Tryd.prog 28 #[.string (T r2)] W fun e w' => e = .returned (.string (T r2)) ∧ Below W.heap.size W w'))
    (HD : Hid (∀ W, Calls Tryd.prog 29 #[.string (T r1)] W fun e w' => e = .returned (.tuple #[.agg (cellsOf d).toArray, .int .i64 0]) ∧ Below W.heap.size W w')) :
    Calls Tryd.prog 17 #[.string (T l)] w fun e w' => e = .returned (.tuple #[.agg (refC a r2 true d), .int .i64 0]) ∧ Below w.heap.size w w' := by
  have HDD := Lib.hid hd
  clear hd
  have HI := Lib.hid (show (Tryd.prog.info? 28).map (·.size) = some ref0.size from by rw [show ref0.size = 35 from refC_size _ _ _ d32_zs]; exact info_r1)
  have HIC := Lib.hid (show (Tryd.prog.info? 28).map (·.size) = some (refC a r2 true zs32).size from by rw [refC_size _ _ _ d32_zs]; exact info_r1)
  have HID := Lib.hid (show (Tryd.prog.info? 28).map (·.size) = some (refC a r2 true d).size from by rw [refC_size _ _ _ HDD.out]; exact info_r1)
  have HI32 := Lib.hid (show (Tryd.prog.info? 26).map (·.size) = some (cellsOf d).toArray.size from by rw [cells32 HDD.out]; exact info_dg)
  have HS32 := Lib.hid (show (cellsOf zs32).toArray.size = (cellsOf d).toArray.size from by rw [cells32 HDD.out]; rfl)
  have HSD := Lib.hid (show ref0.size = (refC a r2 true d).size from by rw [refC_size _ _ _ HDD.out]; rfl)
  go_enter Tryd.func17, Tryd.ntmps17
  go_upto_region 1 with (fail)
  obtain ⟨g, hg⟩ : ∃ g, g = w.heap.size := ⟨_, rfl⟩
  refine gen_code (F := PST w g 28) (by
    rw [hg]
    exact ⟨RR.new _ _ _, (Below.refl _ w).alloc (Nat.le_refl _) _, Nat.le_refl _⟩) ?_
  rw [← hg]
  intro w0 hp
  have HP := Lib.hid hp
  clear hg hp
  go_upto_region 8 with (first | (go_at_call 26; (first | ((with_reducible refine (HC1.out _).mono ?_); rintro e wa ⟨rfl, hb⟩; have HB1 := Lib.hid hb; clear hb) | ((with_reducible refine (HC2.out _).mono ?_); rintro e wb ⟨rfl, hb⟩; have HB2 := Lib.hid hb; clear hb))) | (go_at_call 11; (refine (HR.out _).mono ?_); rintro e wc ⟨rfl, hb⟩; have HB3 := Lib.hid hb; clear hb; have HP3 := Lib.hid (((HP.out.step HB1.out).step HB2.out).step HB3.out)) | (go_at_call 13; (refine (HT.out _).mono ?_); rintro e wd ⟨rfl, hb⟩; have HB4 := Lib.hid hb; clear hb; have HP4 := Lib.hid (HP3.out.step HB4.out)) | (go_at_call 28; (first | ((with_reducible refine (HL1.out _).mono ?_); clear HL1; rintro e we ⟨rfl, hb⟩; have HB5 := Lib.hid hb; clear hb) | ((with_reducible refine (HL2.out _).mono ?_); clear HL2; rintro e wf ⟨rfl, hb⟩; have HB6 := Lib.hid hb; clear hb; have HP6 := Lib.hid ((HP4.out.step HB5.out).step HB6.out)))) | (refine wpList_store_row (by rfl) 28 _ _ (by rfl) wf.heap.size (refC a r2 true zs32) (by rfl) (by rfl) 28 ref0 (RR.new _ _ _) HIC.out (by rw [refC_size _ _ _ d32_zs]; rfl) (refC_one _ _ _ _) ?_))
  obtain ⟨g2, hg2⟩ : ∃ g, g = wf.heap.size := ⟨_, rfl⟩
  refine gen_code (F := PS2 w g g2 a r2 true) (by
    rw [hg2]
    exact PS2.mk HP6.out (by rfl)) ?_
  rw [← hg2]
  intro w2 hp2
  have HP2 := Lib.hid hp2
  clear hg2 hp2
  go_upto_region 11 with (first | (go_at_call 29; (refine (HD.out _).mono ?_); rintro e wq ⟨rfl, hb⟩; have HBq := Lib.hid hb; clear hb) | (refine wpList_store_row (by rfl) 26 _ _ (by rfl) wq.heap.size (cellsOf d).toArray (by rfl) (by rfl) 26 (cellsOf zs32).toArray (RR.new _ _ _) HI32.out HS32.out (cells_one _) ?_))
  obtain ⟨g3, hg3⟩ : ∃ g, g = wq.heap.size := ⟨_, rfl⟩
  refine gen_code (F := PS3 w 28 26 g g2 g3 a r2 true zs32 d) (by
    rw [hg3]
    obtain ⟨q1, q2, q3, q4, q5, q6⟩ := HP2.out
    exact PS3.mk (q1.below HBq.out q1.lt) (q2.below HBq.out q2.lt) (q3.trans (HBq.out.mono q3.size)) q4 q5 q6 d (by rfl)) ?_
  rw [← hg3]
  intro w3 hp3
  have HP3' := Lib.hid hp3
  clear hg3 hp3
  go_upto_region 14 with (first | (refine wpList_load_row (by rfl) 26 _ (by rfl) g3 (by rfl) 26 (cellsOf d).toArray (0, 0) _ HP3'.out.2.2.1 Tryd.underlying26 (by rfl) HI32.out ?_) | (refine wpList_store_mid (by rfl) 26 _ _ (by rfl) g2 3 (cellsOf d).toArray (by rfl) (by rfl) (HP3'.out.2.1.thereR 3 _ (by rw [refC_size _ _ _ d32_zs, cells32 HDD.out]; decide)) HI32.out (cells_one _) ?_))
  refine gen_code (F := PS3 w 28 26 g g2 g3 a r2 true d d) (by
    obtain ⟨q1, q2, q3, q4, q5, q6, q7, q8⟩ := HP3'.out
    exact ⟨q1.otherCells q7 _ _, q2.setDig d32_zs HDD.out, q3.otherCells (Ne.symm q8) _ _, (Only.setCells _ _ (Only.refl g2 w3)).below' q4 q6, q5, q6, q7, q8⟩) ?_
  intro w4 hp4
  have HP4' := Lib.hid hp4
  clear hp4
  go_wp2_with (first | (refine wpList_load_row (by rfl) 28 _ (by rfl) g2 (by rfl) 28 (refC a r2 true d) (0, 0) _ HP4'.out.2.1 Tryd.underlying28 (by rfl) HID.out ?_) | (refine wpList_store_row (by rfl) 28 _ _ (by rfl) g (refC a r2 true d) (by rfl) (by rfl) 28 ref0 HP4'.out.1 HID.out HSD.out (refC_one _ _ _ _) ?_))
  exact bodyPost_ret (results_row_tmp rfl _ _ g 28 (refC a r2 true d) (0, 0) _ (by rfl) HP4'.out.1.setRow Tryd.underlying28 (by rfl) HID.out) rfl ⟨rfl, HP4'.out.2.2.2.1.setRow HP4'.out.2.2.2.2.1 _⟩
end Go.Proofs.YtjoomfikfbbnmaaDoor
