/-
  The walks over the document's Parse of a reference.
-/
import Derived.Test.YtjoomfikfbbnmaaDoorNme
import Derived.Test.YtjoomfikfbbnmaaDoorNmg
namespace Go.Proofs.YtjoomfikfbbnmaaDoor
set_option linter.unusedVariables false
open Go.RowKit Go.Proofs.Nm
/-- the reference that is being made, beside the result's box -/
def PR2 (w : World) (t : TypeId) (g g2 : Nat) (a r : List UInt8) (f : Bool) (x : List Nat) (W : World) : Prop := RR W g t ref0 ∧ RR W g2 t (refC a r f x) ∧ Below w.heap.size w W ∧ w.heap.size ≤ g ∧ w.heap.size ≤ g2 ∧ g ≠ g2
theorem PR2.mk {w W : World} {t : TypeId} {g : Nat} {a r : List UInt8} {f : Bool} {x : List Nat} (h : PST w g t W) {O : Obj} (hO : O = .cells ref0 t (0, 0)) : PR2 w t g W.heap.size a r f x ((W.alloc O).setRow W.heap.size (refC a r f x)) := by
  subst hO
  have hlt := h.1.lt
  refine ⟨(h.1.below ((Below.refl _ W).alloc (Nat.le_refl _) _) hlt).other (by omega), (RR.new W _ _).setRow, ?_, h.2.2, h.2.1.size, by omega⟩
  exact (h.2.1.alloc h.2.1.size _).setRow h.2.1.size _
theorem PR2.tag {w W : World} {t : TypeId} {g g2 : Nat} {a b : List UInt8} {f : Bool} {x : List Nat} (h : PR2 w t g g2 a b f x W) (r : List UInt8) : PR2 w t g g2 a r f x (W.setCell ⟨g2, 1, none⟩ (.string (T r))) :=
  ⟨h.1.otherCells h.2.2.2.2.2 1 [.string (T r)], h.2.1.setTag r, h.2.2.1.setCell (p := ⟨g2, 1, none⟩) h.2.2.2.2.1 _, h.2.2.2.1, h.2.2.2.2.1, h.2.2.2.2.2⟩
theorem PS3.pin {w W : World} {t u : TypeId} {g g2 g3 : Nat} {a r : List UInt8} {f : Bool} {x d : List Nat} (h : PS3 w t u g g2 g3 a r f x d W) : PS3 w t u g g2 g3 a r true x d (W.setCell ⟨g2, 2, none⟩ (.bool true)) := by
  obtain ⟨q1, q2, q3, q4, q5, q6, q7, q8⟩ := h
  exact ⟨q1.otherCells q7 2 [.bool true], q2.setPin true, q3.otherCells (Ne.symm q8) 2 [.bool true], q4.setCell (p := ⟨g2, 2, none⟩) q6 _, q5, q6, q7, q8⟩
set_option maxRecDepth 100000 in
set_option maxHeartbeats 8000000 in
theorem rp_name (l p1 r1 a r2 : List UInt8) (d : List Nat) (hd : D32 d) (w : World) (hl : l.length ≤ 140737488351232)
    (HF1 : Hid (∀ W, Calls Tryd.prog 30 #[.string (T l), .int .u8 64] W fun e w' => e = .returned (.int .i64 (p1.length : Nat)) ∧ W = w'))
    (HF2 : Hid (∀ W, Calls Tryd.prog 30 #[.string (T p1), .int .u8 58] W fun e w' => e = .returned (.int .i64 (a.length : Nat)) ∧ W = w'))
    (HR : Hid (∀ W, Calls Tryd.prog 12 #[.string (T a)] W fun e w' => e = .returned (.bool false) ∧ W = w'))
    (hX1 : (T l).extract 0 p1.length = T p1) (hY1 : (T p1).extract 0 a.length = T a) (hpl : p1.length ≤ l.length) (hal : a.length ≤ p1.length) :
    Calls Tryd.prog 18 #[.string (T l)] w fun e w' => e = .returned (.tuple #[.agg ref0, .int .i64 70]) ∧ Below w.heap.size w w' := by
  have HDD := Lib.hid hd
  clear hd
  have HI := Lib.hid (show (Tryd.prog.info? 33).map (·.size) = some ref0.size from by rw [show ref0.size = 35 from refC_size _ _ _ d32_zs]; exact info_r2)
  have HIA := Lib.hid (show (Tryd.prog.info? 33).map (·.size) = some (refC a [] false zs32).size from by rw [refC_size _ _ _ d32_zs]; exact info_r2)
  have HIE := Lib.hid (show (Tryd.prog.info? 33).map (·.size) = some (ref0).size from by rw [show ref0.size = 35 from refC_size _ _ _ d32_zs]; exact info_r2)
  have HSE := Lib.hid (show ref0.size = (ref0).size from by rfl)
  go_enter Tryd.func18, Tryd.ntmps18
  go_upto_region 1 with (fail)
  obtain ⟨g, hg⟩ : ∃ g, g = w.heap.size := ⟨_, rfl⟩
  refine gen_code (F := PST w g 33) (by
    rw [hg]
    exact ⟨RR.new _ _ _, (Below.refl _ w).alloc (Nat.le_refl _) _, Nat.le_refl _⟩) ?_
  rw [← hg]
  intro w0 hp0
  have HP := Lib.hid hp0
  clear hg hp0
  go_upto_region 5 with (first | (go_at_call 30; (first | ((with_reducible refine (HF1.out _).mono ?_); clear HF1; rintro e wa ⟨rfl, rfl⟩) | ((with_reducible refine (HF2.out _).mono ?_); clear HF2; rintro e wb ⟨rfl, rfl⟩))) | (refine wpList_store_row (by rfl) 33 _ _ (by rfl) w0.heap.size (refC a [] false zs32) (by rfl) (by rfl) 33 ref0 (RR.new _ _ _) HIA.out (by rw [refC_size _ _ _ d32_zs]; rfl) (refC_one _ _ _ _) ?_))
  obtain ⟨g2, hg2⟩ : ∃ g, g = w0.heap.size := ⟨_, rfl⟩
  refine gen_code (F := PR2 w 33 g g2 a [] false zs32) (by
    rw [hg2]
    exact PR2.mk HP.out (by rfl)) ?_
  rw [← hg2]
  intro w2 hp2
  have HP2 := Lib.hid hp2
  clear hg2 hp2
  have k0 := HP2.out.2.1.cellq 0
  have k1 := HP2.out.2.1.cellq 1
  have z1 := HP2.out.2.1.fz 1
  rw [show (refC a [] false zs32)[0]? = some (.string (T a)) from rfl] at k0
  rw [show (refC a [] false zs32)[1]? = some (.string (T [])) from rfl] at k1
  go_wp2_with (first | (go_at_call 12; (refine (HR.out _).mono ?_); rintro e wc ⟨rfl, rfl⟩) | (refine wpList_store_row (by rfl) 33 _ _ (by rfl) g ref0 (by rfl) (by rfl) 33 ref0 HP2.out.1 HI.out rfl (refC_one _ _ _ _) ?_))
  exact bodyPost_ret (results_row_tmp rfl _ _ g 33 ref0 (0, 0) _ (by rfl) HP2.out.1.setRow Tryd.underlying33 (by rfl) HI.out) rfl ⟨rfl, HP2.out.2.2.1.setRow HP2.out.2.2.2.1 _⟩
set_option maxRecDepth 100000 in
set_option maxHeartbeats 8000000 in
theorem rp_tag (l p1 r1 a r2 : List UInt8) (d : List Nat) (hd : D32 d) (w : World) (hl : l.length ≤ 140737488351232)
    (HF1 : Hid (∀ W, Calls Tryd.prog 30 #[.string (T l), .int .u8 64] W fun e w' => e = .returned (.int .i64 (p1.length : Nat)) ∧ W = w'))
    (HF2 : Hid (∀ W, Calls Tryd.prog 30 #[.string (T p1), .int .u8 58] W fun e w' => e = .returned (.int .i64 (a.length : Nat)) ∧ W = w'))
    (HR : Hid (∀ W, Calls Tryd.prog 12 #[.string (T a)] W fun e w' => e = .returned (.bool true) ∧ W = w'))
    (hX1 : (T l).extract 0 p1.length = T p1) (hY1 : (T p1).extract 0 a.length = T a) (hpl : p1.length ≤ l.length) (hal : a.length ≤ p1.length)
    (hY2 : (T p1).extract (a.length + 1) p1.length = T r2) (ha : (a.length : Int) < (p1.length : Int))
    (HT : Hid (∀ W, Calls Tryd.prog 14 #[.string (T r2)] W fun e w' => e = .returned (.bool false) ∧ W = w')) :
    Calls Tryd.prog 18 #[.string (T l)] w fun e w' => e = .returned (.tuple #[.agg ref0, .int .i64 71]) ∧ Below w.heap.size w w' := by
  have HDD := Lib.hid hd
  clear hd
  have HI := Lib.hid (show (Tryd.prog.info? 33).map (·.size) = some ref0.size from by rw [show ref0.size = 35 from refC_size _ _ _ d32_zs]; exact info_r2)
  have HIA := Lib.hid (show (Tryd.prog.info? 33).map (·.size) = some (refC a [] false zs32).size from by rw [refC_size _ _ _ d32_zs]; exact info_r2)
  have HIE := Lib.hid (show (Tryd.prog.info? 33).map (·.size) = some (ref0).size from by rw [show ref0.size = 35 from refC_size _ _ _ d32_zs]; exact info_r2)
  have HSE := Lib.hid (show ref0.size = (ref0).size from by rfl)
  go_enter Tryd.func18, Tryd.ntmps18
  go_upto_region 1 with (fail)
  obtain ⟨g, hg⟩ : ∃ g, g = w.heap.size := ⟨_, rfl⟩
  refine gen_code (F := PST w g 33) (by
    rw [hg]
    exact ⟨RR.new _ _ _, (Below.refl _ w).alloc (Nat.le_refl _) _, Nat.le_refl _⟩) ?_
  rw [← hg]
  intro w0 hp0
  have HP := Lib.hid hp0
  clear hg hp0
  go_upto_region 5 with (first | (go_at_call 30; (first | ((with_reducible refine (HF1.out _).mono ?_); clear HF1; rintro e wa ⟨rfl, rfl⟩) | ((with_reducible refine (HF2.out _).mono ?_); clear HF2; rintro e wb ⟨rfl, rfl⟩))) | (refine wpList_store_row (by rfl) 33 _ _ (by rfl) w0.heap.size (refC a [] false zs32) (by rfl) (by rfl) 33 ref0 (RR.new _ _ _) HIA.out (by rw [refC_size _ _ _ d32_zs]; rfl) (refC_one _ _ _ _) ?_))
  obtain ⟨g2, hg2⟩ : ∃ g, g = w0.heap.size := ⟨_, rfl⟩
  refine gen_code (F := PR2 w 33 g g2 a [] false zs32) (by
    rw [hg2]
    exact PR2.mk HP.out (by rfl)) ?_
  rw [← hg2]
  intro w2 hp2
  have HP2 := Lib.hid hp2
  clear hg2 hp2
  have k0 := HP2.out.2.1.cellq 0
  have k1 := HP2.out.2.1.cellq 1
  have z1 := HP2.out.2.1.fz 1
  rw [show (refC a [] false zs32)[0]? = some (.string (T a)) from rfl] at k0
  rw [show (refC a [] false zs32)[1]? = some (.string (T [])) from rfl] at k1
  go_upto_region 9 with (go_at_call 12; (refine (HR.out _).mono ?_); rintro e wc ⟨rfl, rfl⟩)
  refine gen_code (F := PR2 w 33 g g2 a r2 false zs32) (HP2.out.tag r2) ?_
  intro w3 hp3
  have HP3 := Lib.hid hp3
  clear hp3 k0 k1 z1
  have k1 := HP3.out.2.1.cellq 1
  rw [show (refC a r2 false zs32)[1]? = some (.string (T r2)) from rfl] at k1
  go_wp2_with (first | (go_at_call 14; (refine (HT.out _).mono ?_); rintro e wd ⟨rfl, rfl⟩) | (refine wpList_store_row (by rfl) 33 _ _ (by rfl) g ref0 (by rfl) (by rfl) 33 ref0 HP3.out.1 HI.out rfl (refC_one _ _ _ _) ?_))
  exact bodyPost_ret (results_row_tmp rfl _ _ g 33 ref0 (0, 0) _ (by rfl) HP3.out.1.setRow Tryd.underlying33 (by rfl) HI.out) rfl ⟨rfl, HP3.out.2.2.1.setRow HP3.out.2.2.2.1 _⟩
set_option maxRecDepth 100000 in
set_option maxHeartbeats 8000000 in
theorem rp_ok0 (l p1 r1 a r2 : List UInt8) (d : List Nat) (hd : D32 d) (w : World) (hl : l.length ≤ 140737488351232)
    (HF1 : Hid (∀ W, Calls Tryd.prog 30 #[.string (T l), .int .u8 64] W fun e w' => e = .returned (.int .i64 (p1.length : Nat)) ∧ W = w'))
    (HF2 : Hid (∀ W, Calls Tryd.prog 30 #[.string (T p1), .int .u8 58] W fun e w' => e = .returned (.int .i64 (a.length : Nat)) ∧ W = w'))
    (HR : Hid (∀ W, Calls Tryd.prog 12 #[.string (T a)] W fun e w' => e = .returned (.bool true) ∧ W = w'))
    (hX1 : (T l).extract 0 p1.length = T p1) (hY1 : (T p1).extract 0 a.length = T a) (hpl : p1.length ≤ l.length) (hal : a.length ≤ p1.length)
    (ha : (p1.length : Int) ≤ (a.length : Int)) (hr2 : r2 = [])
    (hp : (l.length : Int) ≤ (p1.length : Int)) :
    Calls Tryd.prog 18 #[.string (T l)] w fun e w' => e = .returned (.tuple #[.agg (refC a r2 false zs32), .int .i64 0]) ∧ Below w.heap.size w w' := by
  subst hr2
  have HDD := Lib.hid hd
  clear hd
  have HI := Lib.hid (show (Tryd.prog.info? 33).map (·.size) = some ref0.size from by rw [show ref0.size = 35 from refC_size _ _ _ d32_zs]; exact info_r2)
  have HIA := Lib.hid (show (Tryd.prog.info? 33).map (·.size) = some (refC a [] false zs32).size from by rw [refC_size _ _ _ d32_zs]; exact info_r2)
  have HIE := Lib.hid (show (Tryd.prog.info? 33).map (·.size) = some ((refC a [] false zs32)).size from by rw [refC_size _ _ _ d32_zs]; exact info_r2)
  have HSE := Lib.hid (show ref0.size = ((refC a [] false zs32)).size from by rw [refC_size _ _ _ d32_zs]; rfl)
  go_enter Tryd.func18, Tryd.ntmps18
  go_upto_region 1 with (fail)
  obtain ⟨g, hg⟩ : ∃ g, g = w.heap.size := ⟨_, rfl⟩
  refine gen_code (F := PST w g 33) (by
    rw [hg]
    exact ⟨RR.new _ _ _, (Below.refl _ w).alloc (Nat.le_refl _) _, Nat.le_refl _⟩) ?_
  rw [← hg]
  intro w0 hp0
  have HP := Lib.hid hp0
  clear hg hp0
  go_upto_region 5 with (first | (go_at_call 30; (first | ((with_reducible refine (HF1.out _).mono ?_); clear HF1; rintro e wa ⟨rfl, rfl⟩) | ((with_reducible refine (HF2.out _).mono ?_); clear HF2; rintro e wb ⟨rfl, rfl⟩))) | (refine wpList_store_row (by rfl) 33 _ _ (by rfl) w0.heap.size (refC a [] false zs32) (by rfl) (by rfl) 33 ref0 (RR.new _ _ _) HIA.out (by rw [refC_size _ _ _ d32_zs]; rfl) (refC_one _ _ _ _) ?_))
  obtain ⟨g2, hg2⟩ : ∃ g, g = w0.heap.size := ⟨_, rfl⟩
  refine gen_code (F := PR2 w 33 g g2 a [] false zs32) (by
    rw [hg2]
    exact PR2.mk HP.out (by rfl)) ?_
  rw [← hg2]
  intro w2 hp2
  have HP2 := Lib.hid hp2
  clear hg2 hp2
  have k0 := HP2.out.2.1.cellq 0
  have k1 := HP2.out.2.1.cellq 1
  have z1 := HP2.out.2.1.fz 1
  rw [show (refC a [] false zs32)[0]? = some (.string (T a)) from rfl] at k0
  rw [show (refC a [] false zs32)[1]? = some (.string (T [])) from rfl] at k1
  go_wp2_with (first | (go_at_call 12; (refine (HR.out _).mono ?_); rintro e wc ⟨rfl, rfl⟩) | (refine wpList_load_row (by rfl) 33 _ (by rfl) g2 (by rfl) 33 (refC a [] false zs32) (0, 0) _ HP2.out.2.1 Tryd.underlying33 (by rfl) HIE.out ?_) | (refine wpList_store_row (by rfl) 33 _ _ (by rfl) g (refC a [] false zs32) (by rfl) (by rfl) 33 ref0 HP2.out.1 HIE.out HSE.out (refC_one _ _ _ _) ?_))
  exact bodyPost_ret (results_row_tmp rfl _ _ g 33 (refC a [] false zs32) (0, 0) _ (by rfl) HP2.out.1.setRow Tryd.underlying33 (by rfl) HIE.out) rfl ⟨rfl, HP2.out.2.2.1.setRow HP2.out.2.2.2.1 _⟩
set_option maxRecDepth 100000 in
set_option maxHeartbeats 8000000 in
theorem rp_ok1 (l p1 r1 a r2 : List UInt8) (d : List Nat) (hd : D32 d) (w : World) (hl : l.length ≤ 140737488351232)
    (HF1 : Hid (∀ W, Calls Tryd.prog 30 #[.string (T l), .int .u8 64] W fun e w' => e = .returned (.int .i64 (p1.length : Nat)) ∧ W = w'))
    (HF2 : Hid (∀ W, Calls Tryd.prog 30 #[.string (T p1), .int .u8 58] W fun e w' => e = .returned (.int .i64 (a.length : Nat)) ∧ W = w'))
    (HR : Hid (∀ W, Calls Tryd.prog 12 #[.string (T a)] W fun e w' => e = .returned (.bool true) ∧ W = w'))
    (hX1 : (T l).extract 0 p1.length = T p1) (hY1 : (T p1).extract 0 a.length = T a) (hpl : p1.length ≤ l.length) (hal : a.length ≤ p1.length)
    (hY2 : (T p1).extract (a.length + 1) p1.length = T r2) (ha : (a.length : Int) < (p1.length : Int))
    (HT : Hid (∀ W, Calls Tryd.prog 14 #[.string (T r2)] W fun e w' => e = .returned (.bool true) ∧ W = w'))
    (hp : (l.length : Int) ≤ (p1.length : Int)) :
    Calls Tryd.prog 18 #[.string (T l)] w fun e w' => e = .returned (.tuple #[.agg (refC a r2 false zs32), .int .i64 0]) ∧ Below w.heap.size w w' := by
  have HDD := Lib.hid hd
  clear hd
  have HI := Lib.hid (show (Tryd.prog.info? 33).map (·.size) = some ref0.size from by rw [show ref0.size = 35 from refC_size _ _ _ d32_zs]; exact info_r2)
  have HIA := Lib.hid (show (Tryd.prog.info? 33).map (·.size) = some (refC a [] false zs32).size from by rw [refC_size _ _ _ d32_zs]; exact info_r2)
  have HIE := Lib.hid (show (Tryd.prog.info? 33).map (·.size) = some ((refC a r2 false zs32)).size from by rw [refC_size _ _ _ d32_zs]; exact info_r2)
  have HSE := Lib.hid (show ref0.size = ((refC a r2 false zs32)).size from by rw [refC_size _ _ _ d32_zs]; rfl)
  go_enter Tryd.func18, Tryd.ntmps18
  go_upto_region 1 with (fail)
  obtain ⟨g, hg⟩ : ∃ g, g = w.heap.size := ⟨_, rfl⟩
  refine gen_code (F := PST w g 33) (by
    rw [hg]
    exact ⟨RR.new _ _ _, (Below.refl _ w).alloc (Nat.le_refl _) _, Nat.le_refl _⟩) ?_
  rw [← hg]
  intro w0 hp0
  have HP := Lib.hid hp0
  clear hg hp0
  go_upto_region 5 with (first | (go_at_call 30; (first | ((with_reducible refine (HF1.out _).mono ?_); clear HF1; rintro e wa ⟨rfl, rfl⟩) | ((with_reducible refine (HF2.out _).mono ?_); clear HF2; rintro e wb ⟨rfl, rfl⟩))) | (refine wpList_store_row (by rfl) 33 _ _ (by rfl) w0.heap.size (refC a [] false zs32) (by rfl) (by rfl) 33 ref0 (RR.new _ _ _) HIA.out (by rw [refC_size _ _ _ d32_zs]; rfl) (refC_one _ _ _ _) ?_))
  obtain ⟨g2, hg2⟩ : ∃ g, g = w0.heap.size := ⟨_, rfl⟩
  refine gen_code (F := PR2 w 33 g g2 a [] false zs32) (by
    rw [hg2]
    exact PR2.mk HP.out (by rfl)) ?_
  rw [← hg2]
  intro w2 hp2
  have HP2 := Lib.hid hp2
  clear hg2 hp2
  have k0 := HP2.out.2.1.cellq 0
  have k1 := HP2.out.2.1.cellq 1
  have z1 := HP2.out.2.1.fz 1
  rw [show (refC a [] false zs32)[0]? = some (.string (T a)) from rfl] at k0
  rw [show (refC a [] false zs32)[1]? = some (.string (T [])) from rfl] at k1
  go_upto_region 9 with (go_at_call 12; (refine (HR.out _).mono ?_); rintro e wc ⟨rfl, rfl⟩)
  refine gen_code (F := PR2 w 33 g g2 a r2 false zs32) (HP2.out.tag r2) ?_
  intro w3 hp3
  have HP3 := Lib.hid hp3
  clear hp3 k0 k1 z1
  have k1 := HP3.out.2.1.cellq 1
  rw [show (refC a r2 false zs32)[1]? = some (.string (T r2)) from rfl] at k1
  go_wp2_with (first | (go_at_call 14; (refine (HT.out _).mono ?_); rintro e wd ⟨rfl, rfl⟩) | (refine wpList_load_row (by rfl) 33 _ (by rfl) g2 (by rfl) 33 (refC a r2 false zs32) (0, 0) _ HP3.out.2.1 Tryd.underlying33 (by rfl) HIE.out ?_) | (refine wpList_store_row (by rfl) 33 _ _ (by rfl) g (refC a r2 false zs32) (by rfl) (by rfl) 33 ref0 HP3.out.1 HIE.out HSE.out (refC_one _ _ _ _) ?_))
  exact bodyPost_ret (results_row_tmp rfl _ _ g 33 (refC a r2 false zs32) (0, 0) _ (by rfl) HP3.out.1.setRow Tryd.underlying33 (by rfl) HIE.out) rfl ⟨rfl, HP3.out.2.2.1.setRow HP3.out.2.2.2.1 _⟩
set_option maxRecDepth 100000 in
set_option maxHeartbeats 8000000 in
theorem rp_no0 (l p1 r1 a r2 : List UInt8) (d : List Nat) (hd : D32 d) (w : World) (hl : l.length ≤ 140737488351232)
    (HF1 : Hid (∀ W, Calls Tryd.prog 30 #[.string (T l), .int .u8 64] W fun e w' => e = .returned (.int .i64 (p1.length : Nat)) ∧ W = w'))
    (HF2 : Hid (∀ W, Calls Tryd.prog 30 #[.string (T p1), .int .u8 58] W fun e w' => e = .returned (.int .i64 (a.length : Nat)) ∧ W = w'))
    (HR : Hid (∀ W, Calls Tryd.prog 12 #[.string (T a)] W fun e w' => e = .returned (.bool true) ∧ W = w'))
    (hX1 : (T l).extract 0 p1.length = T p1) (hY1 : (T p1).extract 0 a.length = T a) (hpl : p1.length ≤ l.length) (hal : a.length ≤ p1.length)
    (ha : (p1.length : Int) ≤ (a.length : Int)) (hr2 : r2 = [])
    (hX2 : (T l).extract (p1.length + 1) l.length = T r1) (hp : (p1.length : Int) < (l.length : Int))
    (HD : Hid (∀ W, Calls Tryd.prog 31 #[.string (T r1)] W fun e w' => e = .returned (.tuple #[.agg (cellsOf d).toArray, .bool false]) ∧ Below W.heap.size W w')) :
    Calls Tryd.prog 18 #[.string (T l)] w fun e w' => e = .returned (.tuple #[.agg ref0, .int .i64 20]) ∧ Below w.heap.size w w' := by
  subst hr2
  have HDD := Lib.hid hd
  clear hd
  have HI := Lib.hid (show (Tryd.prog.info? 33).map (·.size) = some ref0.size from by rw [show ref0.size = 35 from refC_size _ _ _ d32_zs]; exact info_r2)
  have HIA := Lib.hid (show (Tryd.prog.info? 33).map (·.size) = some (refC a [] false zs32).size from by rw [refC_size _ _ _ d32_zs]; exact info_r2)
  have HIE := Lib.hid (show (Tryd.prog.info? 33).map (·.size) = some (ref0).size from by rw [show ref0.size = 35 from refC_size _ _ _ d32_zs]; exact info_r2)
  have HSE := Lib.hid (show ref0.size = (ref0).size from by rfl)
  go_enter Tryd.func18, Tryd.ntmps18
  go_upto_region 1 with (fail)
  obtain ⟨g, hg⟩ : ∃ g, g = w.heap.size := ⟨_, rfl⟩
  refine gen_code (F := PST w g 33) (by
    rw [hg]
    exact ⟨RR.new _ _ _, (Below.refl _ w).alloc (Nat.le_refl _) _, Nat.le_refl _⟩) ?_
  rw [← hg]
  intro w0 hp0
  have HP := Lib.hid hp0
  clear hg hp0
  go_upto_region 5 with (first | (go_at_call 30; (first | ((with_reducible refine (HF1.out _).mono ?_); clear HF1; rintro e wa ⟨rfl, rfl⟩) | ((with_reducible refine (HF2.out _).mono ?_); clear HF2; rintro e wb ⟨rfl, rfl⟩))) | (refine wpList_store_row (by rfl) 33 _ _ (by rfl) w0.heap.size (refC a [] false zs32) (by rfl) (by rfl) 33 ref0 (RR.new _ _ _) HIA.out (by rw [refC_size _ _ _ d32_zs]; rfl) (refC_one _ _ _ _) ?_))
  obtain ⟨g2, hg2⟩ : ∃ g, g = w0.heap.size := ⟨_, rfl⟩
  refine gen_code (F := PR2 w 33 g g2 a [] false zs32) (by
    rw [hg2]
    exact PR2.mk HP.out (by rfl)) ?_
  rw [← hg2]
  intro w2 hp2
  have HP2 := Lib.hid hp2
  clear hg2 hp2
  have k0 := HP2.out.2.1.cellq 0
  have k1 := HP2.out.2.1.cellq 1
  have z1 := HP2.out.2.1.fz 1
  rw [show (refC a [] false zs32)[0]? = some (.string (T a)) from rfl] at k0
  rw [show (refC a [] false zs32)[1]? = some (.string (T [])) from rfl] at k1
  have HI32 := Lib.hid (show (Tryd.prog.info? 25).map (·.size) = some (cellsOf d).toArray.size from by rw [cells32 HDD.out]; exact info_dr)
  have HS32 := Lib.hid (show (cellsOf zs32).toArray.size = (cellsOf d).toArray.size from by rw [cells32 HDD.out]; rfl)
  go_upto_region 13 with (first | (go_at_call 12; (refine (HR.out _).mono ?_); rintro e wc ⟨rfl, rfl⟩) | (go_at_call 31; (refine (HD.out _).mono ?_); rintro e wq ⟨rfl, hb⟩; have HBq := Lib.hid hb; clear hb) | (refine wpList_store_row (by rfl) 25 _ _ (by rfl) wq.heap.size (cellsOf d).toArray (by rfl) (by rfl) 25 (cellsOf zs32).toArray (RR.new _ _ _) HI32.out HS32.out (cells_one _) ?_))
  obtain ⟨g3, hg3⟩ : ∃ g, g = wq.heap.size := ⟨_, rfl⟩
  refine gen_code (F := PS3 w 33 25 g g2 g3 a [] false zs32 d) (by
    rw [hg3]
    obtain ⟨q1, q2, q3, q4, q5, q6⟩ := HP2.out
    exact PS3.mk (q1.below HBq.out q1.lt) (q2.below HBq.out q2.lt) (q3.trans (HBq.out.mono q3.size)) q4 q5 q6 d (by rfl)) ?_
  rw [← hg3]
  intro w4 hp4
  have HP4 := Lib.hid hp4
  clear hg3 hp4
  clear k0 k1 z1
  go_wp2_with (first | (refine wpList_store_row (by rfl) 33 _ _ (by rfl) g ref0 (by rfl) (by rfl) 33 ref0 HP4.out.1 HI.out rfl (refC_one _ _ _ _) ?_))
  exact bodyPost_ret (results_row_tmp rfl _ _ g 33 ref0 (0, 0) _ (by rfl) HP4.out.1.setRow Tryd.underlying33 (by rfl) HI.out) rfl ⟨rfl, HP4.out.2.2.2.1.setRow HP4.out.2.2.2.2.1 _⟩
set_option maxRecDepth 100000 in
set_option maxHeartbeats 8000000 in
theorem rp_no1 (l p1 r1 a r2 : List UInt8) (d : List Nat) (hd : D32 d) (w : World) (hl : l.length ≤ 140737488351232)
    (HF1 : Hid (∀ W, Calls Tryd.prog 30 #[.string (T l), .int .u8 64] W fun e w' => e = .returned (.int .i64 (p1.length : Nat)) ∧ W = w'))
    (HF2 : Hid (∀ W, Calls Tryd.prog 30 #[.string (T p1), .int .u8 58] W fun e w' => e = .returned (.int .i64 (a.length : Nat)) ∧ W = w'))
    (HR : Hid (∀ W, Calls Tryd.prog 12 #[.string (T a)] W fun e w' => e = .returned (.bool true) ∧ W = w'))
    (hX1 : (T l).extract 0 p1.length = T p1) (hY1 : (T p1).extract 0 a.length = T a) (hpl : p1.length ≤ l.length) (hal : a.length ≤ p1.length)
    (hY2 : (T p1).extract (a.length + 1) p1.length = T r2) (ha : (a.length : Int) < (p1.length : Int))
    (HT : Hid (∀ W, Calls Tryd.prog 14 #[.string (T r2)] W fun e w' => e = .returned (.bool true) ∧ W = w'))
    (hX2 : (T l).extract (p1.length + 1) l.length = T r1) (hp : (p1.length : Int) < (l.length : Int))
    (HD : Hid (∀ W, Calls Tryd.prog 31 #[.string (T r1)] W fun e w' => e = .returned (.tuple #[.agg (cellsOf d).toArray, .bool false]) ∧ Below W.heap.size W w')) :
    Calls Tryd.prog 18 #[.string (T l)] w fun e w' => e = .returned (.tuple #[.agg ref0, .int .i64 20]) ∧ Below w.heap.size w w' := by
  have HDD := Lib.hid hd
  clear hd
  have HI := Lib.hid (show (Tryd.prog.info? 33).map (·.size) = some ref0.size from by rw [show ref0.size = 35 from refC_size _ _ _ d32_zs]; exact info_r2)
  have HIA := Lib.hid (show (Tryd.prog.info? 33).map (·.size) = some (refC a [] false zs32).size from by rw [refC_size _ _ _ d32_zs]; exact info_r2)
  have HIE := Lib.hid (show (Tryd.prog.info? 33).map (·.size) = some (ref0).size from by rw [show ref0.size = 35 from refC_size _ _ _ d32_zs]; exact info_r2)
  have HSE := Lib.hid (show ref0.size = (ref0).size from by rfl)
  go_enter Tryd.func18, Tryd.ntmps18
  go_upto_region 1 with (fail)
  obtain ⟨g, hg⟩ : ∃ g, g = w.heap.size := ⟨_, rfl⟩
  refine gen_code (F := PST w g 33) (by
    rw [hg]
    exact ⟨RR.new _ _ _, (Below.refl _ w).alloc (Nat.le_refl _) _, Nat.le_refl _⟩) ?_
  rw [← hg]
  intro w0 hp0
  have HP := Lib.hid hp0
  clear hg hp0
  go_upto_region 5 with (first | (go_at_call 30; (first | ((with_reducible refine (HF1.out _).mono ?_); clear HF1; rintro e wa ⟨rfl, rfl⟩) | ((with_reducible refine (HF2.out _).mono ?_); clear HF2; rintro e wb ⟨rfl, rfl⟩))) | (refine wpList_store_row (by rfl) 33 _ _ (by rfl) w0.heap.size (refC a [] false zs32) (by rfl) (by rfl) 33 ref0 (RR.new _ _ _) HIA.out (by rw [refC_size _ _ _ d32_zs]; rfl) (refC_one _ _ _ _) ?_))
  obtain ⟨g2, hg2⟩ : ∃ g, g = w0.heap.size := ⟨_, rfl⟩
  refine gen_code (F := PR2 w 33 g g2 a [] false zs32) (by
    rw [hg2]
    exact PR2.mk HP.out (by rfl)) ?_
  rw [← hg2]
  intro w2 hp2
  have HP2 := Lib.hid hp2
  clear hg2 hp2
  have k0 := HP2.out.2.1.cellq 0
  have k1 := HP2.out.2.1.cellq 1
  have z1 := HP2.out.2.1.fz 1
  rw [show (refC a [] false zs32)[0]? = some (.string (T a)) from rfl] at k0
  rw [show (refC a [] false zs32)[1]? = some (.string (T [])) from rfl] at k1
  go_upto_region 9 with (go_at_call 12; (refine (HR.out _).mono ?_); rintro e wc ⟨rfl, rfl⟩)
  refine gen_code (F := PR2 w 33 g g2 a r2 false zs32) (HP2.out.tag r2) ?_
  intro w3 hp3
  have HP3 := Lib.hid hp3
  clear hp3 k0 k1 z1
  have k1 := HP3.out.2.1.cellq 1
  rw [show (refC a r2 false zs32)[1]? = some (.string (T r2)) from rfl] at k1
  have HI32 := Lib.hid (show (Tryd.prog.info? 25).map (·.size) = some (cellsOf d).toArray.size from by rw [cells32 HDD.out]; exact info_dr)
  have HS32 := Lib.hid (show (cellsOf zs32).toArray.size = (cellsOf d).toArray.size from by rw [cells32 HDD.out]; rfl)
  go_upto_region 13 with (first | (go_at_call 14; (refine (HT.out _).mono ?_); rintro e wd ⟨rfl, rfl⟩) | (go_at_call 31; (refine (HD.out _).mono ?_); rintro e wq ⟨rfl, hb⟩; have HBq := Lib.hid hb; clear hb) | (refine wpList_store_row (by rfl) 25 _ _ (by rfl) wq.heap.size (cellsOf d).toArray (by rfl) (by rfl) 25 (cellsOf zs32).toArray (RR.new _ _ _) HI32.out HS32.out (cells_one _) ?_))
  obtain ⟨g3, hg3⟩ : ∃ g, g = wq.heap.size := ⟨_, rfl⟩
  refine gen_code (F := PS3 w 33 25 g g2 g3 a r2 false zs32 d) (by
    rw [hg3]
    obtain ⟨q1, q2, q3, q4, q5, q6⟩ := HP3.out
    exact PS3.mk (q1.below HBq.out q1.lt) (q2.below HBq.out q2.lt) (q3.trans (HBq.out.mono q3.size)) q4 q5 q6 d (by rfl)) ?_
  rw [← hg3]
  intro w4 hp4
  have HP4 := Lib.hid hp4
  clear hg3 hp4
  clear k1
  go_wp2_with (first | (refine wpList_store_row (by rfl) 33 _ _ (by rfl) g ref0 (by rfl) (by rfl) 33 ref0 HP4.out.1 HI.out rfl (refC_one _ _ _ _) ?_))
  exact bodyPost_ret (results_row_tmp rfl _ _ g 33 ref0 (0, 0) _ (by rfl) HP4.out.1.setRow Tryd.underlying33 (by rfl) HI.out) rfl ⟨rfl, HP4.out.2.2.2.1.setRow HP4.out.2.2.2.2.1 _⟩
set_option maxRecDepth 100000 in
set_option maxHeartbeats 8000000 in
theorem rp_yes0 (l p1 r1 a r2 : List UInt8) (d : List Nat) (hd : D32 d) (w : World) (hl : l.length ≤ 140737488351232)
    (HF1 : Hid (∀ W, Calls Tryd.prog 30 #[.string (T l), .int .u8 64] W fun e w' => e = .returned (.int .i64 (p1.length : Nat)) ∧ W = w'))
    (HF2 : Hid (∀ W, Calls Tryd.prog 30 #[.string (T p1), .int .u8 58] W fun e w' => e = .returned (.int .i64 (a.length : Nat)) ∧ W = w'))
    (HR : Hid (∀ W, Calls Tryd.prog 12 #[.string (T a)] W fun e w' => e = .returned (.bool true) ∧ W = w'))
    (hX1 : (T l).extract 0 p1.length = T p1) (hY1 : (T p1).extract 0 a.length = T a) (hpl : p1.length ≤ l.length) (hal : a.length ≤ p1.length)
    (ha : (p1.length : Int) ≤ (a.length : Int)) (hr2 : r2 = [])
    (hX2 : (T l).extract (p1.length + 1) l.length = T r1) (hp : (p1.length : Int) < (l.length : Int))
    (HD : Hid (∀ W, Calls Tryd.prog 31 #[.string (T r1)] W fun e w' => e = .returned (.tuple #[.agg (cellsOf d).toArray, .bool true]) ∧ Below W.heap.size W w')) :
    Calls Tryd.prog 18 #[.string (T l)] w fun e w' => e = .returned (.tuple #[.agg (refC a r2 true d), .int .i64 0]) ∧ Below w.heap.size w w' := by
  subst hr2
  have HDD := Lib.hid hd
  clear hd
  have HI := Lib.hid (show (Tryd.prog.info? 33).map (·.size) = some ref0.size from by rw [show ref0.size = 35 from refC_size _ _ _ d32_zs]; exact info_r2)
  have HIA := Lib.hid (show (Tryd.prog.info? 33).map (·.size) = some (refC a [] false zs32).size from by rw [refC_size _ _ _ d32_zs]; exact info_r2)
  have HIE := Lib.hid (show (Tryd.prog.info? 33).map (·.size) = some ((refC a [] true d)).size from by rw [refC_size _ _ _ HDD.out]; exact info_r2)
  have HSE := Lib.hid (show ref0.size = ((refC a [] true d)).size from by rw [refC_size _ _ _ HDD.out]; rfl)
  go_enter Tryd.func18, Tryd.ntmps18
  go_upto_region 1 with (fail)
  obtain ⟨g, hg⟩ : ∃ g, g = w.heap.size := ⟨_, rfl⟩
  refine gen_code (F := PST w g 33) (by
    rw [hg]
    exact ⟨RR.new _ _ _, (Below.refl _ w).alloc (Nat.le_refl _) _, Nat.le_refl _⟩) ?_
  rw [← hg]
  intro w0 hp0
  have HP := Lib.hid hp0
  clear hg hp0
  go_upto_region 5 with (first | (go_at_call 30; (first | ((with_reducible refine (HF1.out _).mono ?_); clear HF1; rintro e wa ⟨rfl, rfl⟩) | ((with_reducible refine (HF2.out _).mono ?_); clear HF2; rintro e wb ⟨rfl, rfl⟩))) | (refine wpList_store_row (by rfl) 33 _ _ (by rfl) w0.heap.size (refC a [] false zs32) (by rfl) (by rfl) 33 ref0 (RR.new _ _ _) HIA.out (by rw [refC_size _ _ _ d32_zs]; rfl) (refC_one _ _ _ _) ?_))
  obtain ⟨g2, hg2⟩ : ∃ g, g = w0.heap.size := ⟨_, rfl⟩
  refine gen_code (F := PR2 w 33 g g2 a [] false zs32) (by
    rw [hg2]
    exact PR2.mk HP.out (by rfl)) ?_
  rw [← hg2]
  intro w2 hp2
  have HP2 := Lib.hid hp2
  clear hg2 hp2
  have k0 := HP2.out.2.1.cellq 0
  have k1 := HP2.out.2.1.cellq 1
  have z1 := HP2.out.2.1.fz 1
  rw [show (refC a [] false zs32)[0]? = some (.string (T a)) from rfl] at k0
  rw [show (refC a [] false zs32)[1]? = some (.string (T [])) from rfl] at k1
  have HI32 := Lib.hid (show (Tryd.prog.info? 25).map (·.size) = some (cellsOf d).toArray.size from by rw [cells32 HDD.out]; exact info_dr)
  have HS32 := Lib.hid (show (cellsOf zs32).toArray.size = (cellsOf d).toArray.size from by rw [cells32 HDD.out]; rfl)
  go_upto_region 13 with (first | (go_at_call 12; (refine (HR.out _).mono ?_); rintro e wc ⟨rfl, rfl⟩) | (go_at_call 31; (refine (HD.out _).mono ?_); rintro e wq ⟨rfl, hb⟩; have HBq := Lib.hid hb; clear hb) | (refine wpList_store_row (by rfl) 25 _ _ (by rfl) wq.heap.size (cellsOf d).toArray (by rfl) (by rfl) 25 (cellsOf zs32).toArray (RR.new _ _ _) HI32.out HS32.out (cells_one _) ?_))
  obtain ⟨g3, hg3⟩ : ∃ g, g = wq.heap.size := ⟨_, rfl⟩
  refine gen_code (F := PS3 w 33 25 g g2 g3 a [] false zs32 d) (by
    rw [hg3]
    obtain ⟨q1, q2, q3, q4, q5, q6⟩ := HP2.out
    exact PS3.mk (q1.below HBq.out q1.lt) (q2.below HBq.out q2.lt) (q3.trans (HBq.out.mono q3.size)) q4 q5 q6 d (by rfl)) ?_
  rw [← hg3]
  intro w4 hp4
  have HP4 := Lib.hid hp4
  clear hg3 hp4
  clear k0 k1 z1
  have k2 := HP4.out.2.1.cellq 2
  have z2 := HP4.out.2.1.fz 2
  rw [show (refC a [] false zs32)[2]? = some (.bool false) from rfl] at k2
  go_upto_region 16 with (fail)
  refine gen_code (F := PS3 w 33 25 g g2 g3 a [] true zs32 d) (HP4.out.pin) ?_
  intro w5 hp5
  have HP5 := Lib.hid hp5
  clear hp5 k2 z2
  go_upto_region 17 with (first | (refine wpList_load_row (by rfl) 25 _ (by rfl) g3 (by rfl) 25 (cellsOf d).toArray (0, 0) _ HP5.out.2.2.1 Tryd.underlying25 (by rfl) HI32.out ?_) | (refine wpList_store_mid (by rfl) 25 _ _ (by rfl) g2 3 (cellsOf d).toArray (by rfl) (by rfl) (HP5.out.2.1.thereR 3 _ (by rw [refC_size _ _ _ d32_zs, cells32 HDD.out]; decide)) HI32.out (cells_one _) ?_))
  refine gen_code (F := PS3 w 33 25 g g2 g3 a [] true d d) (by
    obtain ⟨q1, q2, q3, q4, q5, q6, q7, q8⟩ := HP5.out
    exact ⟨q1.otherCells q7 _ _, q2.setDig d32_zs HDD.out, q3.otherCells (Ne.symm q8) _ _, (Only.setCells _ _ (Only.refl g2 w5)).below' q4 q6, q5, q6, q7, q8⟩) ?_
  intro w6 hp6
  have HP6 := Lib.hid hp6
  clear hp6
  go_wp2_with (first | (refine wpList_load_row (by rfl) 33 _ (by rfl) g2 (by rfl) 33 (refC a [] true d) (0, 0) _ HP6.out.2.1 Tryd.underlying33 (by rfl) HIE.out ?_) | (refine wpList_store_row (by rfl) 33 _ _ (by rfl) g (refC a [] true d) (by rfl) (by rfl) 33 ref0 HP6.out.1 HIE.out HSE.out (refC_one _ _ _ _) ?_))
  exact bodyPost_ret (results_row_tmp rfl _ _ g 33 (refC a [] true d) (0, 0) _ (by rfl) HP6.out.1.setRow Tryd.underlying33 (by rfl) HIE.out) rfl ⟨rfl, HP6.out.2.2.2.1.setRow HP6.out.2.2.2.2.1 _⟩
set_option maxRecDepth 100000 in
set_option maxHeartbeats 8000000 in
theorem rp_yes1 (l p1 r1 a r2 : List UInt8) (d : List Nat) (hd : D32 d) (w : World) (hl : l.length ≤ 140737488351232)
    (HF1 : Hid (∀ W, Calls Tryd.prog 30 #[.string (T l), .int .u8 64] W fun e w' => e = .returned (.int .i64 (p1.length : Nat)) ∧ W = w'))
    (HF2 : Hid (∀ W, Calls Tryd.prog 30 #[.string (T p1), .int .u8 58] W fun e w' => e = .returned (.int .i64 (a.length : Nat)) ∧ W = w'))
    (HR : Hid (∀ W, Calls Tryd.prog 12 #[.string (T a)] W fun e w' => e = .returned (.bool true) ∧ W = w'))
    (hX1 : (T l).extract 0 p1.length = T p1) (hY1 : (T p1).extract 0 a.length = T a) (hpl : p1.length ≤ l.length) (hal : a.length ≤ p1.length)
    (hY2 : (T p1).extract (a.length + 1) p1.length = T r2) (ha : (a.length : Int) < (p1.length : Int))
    (HT : Hid (∀ W, Calls Tryd.prog 14 #[.string (T r2)] W fun e w' => e = .returned (.bool true) ∧ W = w'))
    (hX2 : (T l).extract (p1.length + 1) l.length = T r1) (hp : (p1.length : Int) < (l.length : Int))
    (HD : Hid (∀ W, Calls Tryd.prog 31 #[.string (T r1)] W fun e w' => e = .returned (.tuple #[.agg (cellsOf d).toArray, .bool true]) ∧ Below W.heap.size W w')) :
    Calls Tryd.prog 18 #[.string (T l)] w fun e w' => e = .returned (.tuple #[.agg (refC a r2 true d), .int .i64 0]) ∧ Below w.heap.size w w' := by
  have HDD := Lib.hid hd
  clear hd
  have HI := Lib.hid (show (Tryd.prog.info? 33).map (·.size) = some ref0.size from by rw [show ref0.size = 35 from refC_size _ _ _ d32_zs]; exact info_r2)
  have HIA := Lib.hid (show (Tryd.prog.info? 33).map (·.size) = some (refC a [] false zs32).size from by rw [refC_size _ _ _ d32_zs]; exact info_r2)
  have HIE := Lib.hid (show (Tryd.prog.info? 33).map (·.size) = some ((refC a r2 true d)).size from by rw [refC_size _ _ _ HDD.out]; exact info_r2)
  have HSE := Lib.hid (show ref0.size = ((refC a r2 true d)).size from by rw [refC_size _ _ _ HDD.out]; rfl)
  go_enter Tryd.func18, Tryd.ntmps18
  go_upto_region 1 with (fail)
  obtain ⟨g, hg⟩ : ∃ g, g = w.heap.size := ⟨_, rfl⟩
  refine gen_code (F := PST w g 33) (by
    rw [hg]
    exact ⟨RR.new _ _ _, (Below.refl _ w).alloc (Nat.le_refl _) _, Nat.le_refl _⟩) ?_
  rw [← hg]
  intro w0 hp0
  have HP := Lib.hid hp0
  clear hg hp0
  go_upto_region 5 with (first | (go_at_call 30; (first | ((with_reducible refine (HF1.out _).mono ?_); clear HF1; rintro e wa ⟨rfl, rfl⟩) | ((with_reducible refine (HF2.out _).mono ?_); clear HF2; rintro e wb ⟨rfl, rfl⟩))) | (refine wpList_store_row (by rfl) 33 _ _ (by rfl) w0.heap.size (refC a [] false zs32) (by rfl) (by rfl) 33 ref0 (RR.new _ _ _) HIA.out (by rw [refC_size _ _ _ d32_zs]; rfl) (refC_one _ _ _ _) ?_))
  obtain ⟨g2, hg2⟩ : ∃ g, g = w0.heap.size := ⟨_, rfl⟩
  refine gen_code (F := PR2 w 33 g g2 a [] false zs32) (by
    rw [hg2]
    exact PR2.mk HP.out (by rfl)) ?_
  rw [← hg2]
  intro w2 hp2
  have HP2 := Lib.hid hp2
  clear hg2 hp2
  have k0 := HP2.out.2.1.cellq 0
  have k1 := HP2.out.2.1.cellq 1
  have z1 := HP2.out.2.1.fz 1
  rw [show (refC a [] false zs32)[0]? = some (.string (T a)) from rfl] at k0
  rw [show (refC a [] false zs32)[1]? = some (.string (T [])) from rfl] at k1
  go_upto_region 9 with (go_at_call 12; (refine (HR.out _).mono ?_); rintro e wc ⟨rfl, rfl⟩)
  refine gen_code (F := PR2 w 33 g g2 a r2 false zs32) (HP2.out.tag r2) ?_
  intro w3 hp3
  have HP3 := Lib.hid hp3
  clear hp3 k0 k1 z1
  have k1 := HP3.out.2.1.cellq 1
  rw [show (refC a r2 false zs32)[1]? = some (.string (T r2)) from rfl] at k1
  have HI32 := Lib.hid (show (Tryd.prog.info? 25).map (·.size) = some (cellsOf d).toArray.size from by rw [cells32 HDD.out]; exact info_dr)
  have HS32 := Lib.hid (show (cellsOf zs32).toArray.size = (cellsOf d).toArray.size from by rw [cells32 HDD.out]; rfl)
  go_upto_region 13 with (first | (go_at_call 14; (refine (HT.out _).mono ?_); rintro e wd ⟨rfl, rfl⟩) | (go_at_call 31; (refine (HD.out _).mono ?_); rintro e wq ⟨rfl, hb⟩; have HBq := Lib.hid hb; clear hb) | (refine wpList_store_row (by rfl) 25 _ _ (by rfl) wq.heap.size (cellsOf d).toArray (by rfl) (by rfl) 25 (cellsOf zs32).toArray (RR.new _ _ _) HI32.out HS32.out (cells_one _) ?_))
  obtain ⟨g3, hg3⟩ : ∃ g, g = wq.heap.size := ⟨_, rfl⟩
  refine gen_code (F := PS3 w 33 25 g g2 g3 a r2 false zs32 d) (by
    rw [hg3]
    obtain ⟨q1, q2, q3, q4, q5, q6⟩ := HP3.out
    exact PS3.mk (q1.below HBq.out q1.lt) (q2.below HBq.out q2.lt) (q3.trans (HBq.out.mono q3.size)) q4 q5 q6 d (by rfl)) ?_
  rw [← hg3]
  intro w4 hp4
  have HP4 := Lib.hid hp4
  clear hg3 hp4
  clear k1
  have k2 := HP4.out.2.1.cellq 2
  have z2 := HP4.out.2.1.fz 2
  rw [show (refC a r2 false zs32)[2]? = some (.bool false) from rfl] at k2
  go_upto_region 16 with (fail)
  refine gen_code (F := PS3 w 33 25 g g2 g3 a r2 true zs32 d) (HP4.out.pin) ?_
  intro w5 hp5
  have HP5 := Lib.hid hp5
  clear hp5 k2 z2
  go_upto_region 17 with (first | (refine wpList_load_row (by rfl) 25 _ (by rfl) g3 (by rfl) 25 (cellsOf d).toArray (0, 0) _ HP5.out.2.2.1 Tryd.underlying25 (by rfl) HI32.out ?_) | (refine wpList_store_mid (by rfl) 25 _ _ (by rfl) g2 3 (cellsOf d).toArray (by rfl) (by rfl) (HP5.out.2.1.thereR 3 _ (by rw [refC_size _ _ _ d32_zs, cells32 HDD.out]; decide)) HI32.out (cells_one _) ?_))
  refine gen_code (F := PS3 w 33 25 g g2 g3 a r2 true d d) (by
    obtain ⟨q1, q2, q3, q4, q5, q6, q7, q8⟩ := HP5.out
    exact ⟨q1.otherCells q7 _ _, q2.setDig d32_zs HDD.out, q3.otherCells (Ne.symm q8) _ _, (Only.setCells _ _ (Only.refl g2 w5)).below' q4 q6, q5, q6, q7, q8⟩) ?_
  intro w6 hp6
  have HP6 := Lib.hid hp6
  clear hp6
  go_wp2_with (first | (refine wpList_load_row (by rfl) 33 _ (by rfl) g2 (by rfl) 33 (refC a r2 true d) (0, 0) _ HP6.out.2.1 Tryd.underlying33 (by rfl) HIE.out ?_) | (refine wpList_store_row (by rfl) 33 _ _ (by rfl) g (refC a r2 true d) (by rfl) (by rfl) 33 ref0 HP6.out.1 HIE.out HSE.out (refC_one _ _ _ _) ?_))
  exact bodyPost_ret (results_row_tmp rfl _ _ g 33 (refC a r2 true d) (0, 0) _ (by rfl) HP6.out.1.setRow Tryd.underlying33 (by rfl) HIE.out) rfl ⟨rfl, HP6.out.2.2.2.1.setRow HP6.out.2.2.2.2.1 _⟩
end Go.Proofs.YtjoomfikfbbnmaaDoor
