/-
  Proof as it is called from without, and the document's; Extends of no leaves.
-/
import Derived.Test.YthnfbdmkdpokcaaDoorPrf
import Derived.Test.YthnfbdmkdpokcaaDoorExt
namespace Go.Proofs.YthnfbdmkdpokcaaDoor
open Go.RowKit
set_option linter.unusedVariables false
theorem Proof_no (n : Nat) (i : Int) (a : Option Addr) (cap : Nat) (w : World) (hi : i < 0 ∨ (n : Int) < i) :
    Calls Tryd.prog 27 #[.slice a n cap, .int .i64 i] w fun e w' => e = .returned (.tuple #[.slice none 0 0, .int .i64 1]) ∧ w = w' := by
  by_cases h0 : i < 0
  · clear hi
    go_enter Tryd.func27, Tryd.ntmps27
    go_wp2
    go_ret2
    exact ⟨rfl, rfl⟩
  · have q1 : (n : Int) < i := by omega
    clear hi
    go_enter Tryd.func27, Tryd.ntmps27
    go_wp2
    go_ret2
    exact ⟨rfl, rfl⟩
theorem Proof_zero (n : Nat) (a : Option Addr) (cap : Nat) (w : World) :
    Calls Tryd.prog 27 #[.slice a n cap, .int .i64 0] w (RetDs2 27 [] w) := by
  have q0 : ¬ (n : Int) < 0 := by omega
  go_enter Tryd.func27, Tryd.ntmps27
  go_wp2
  go_ret2
  exact ⟨_, rfl, OwnD.nil _ _ _, Below.refl _ _⟩
set_option maxRecDepth 100000 in
theorem Proof_ok (n i : Nat) (ds : Ds) (a : Option Addr) (cap : Nat) (w : World) (hnm : n ≤ 4398046511104) (hr : DR w a n ds) (h1 : 1 ≤ i) (hi : i ≤ n) (hlc : n ≤ cap) (hcm : cap ≤ 9223372036854775807) (ht : Tab w) :
    Calls Tryd.prog 27 #[.slice a n cap, .int .i64 (i : Int)] w (RetDs2 27 (partS ds i true) w) := by
  have HC := Lib.hid (prf_c n ds i true a cap w hnm hr h1 hi hlc hcm ht)
  have q0 : ¬ (i : Int) < 0 := by omega
  have q1 : ¬ (n : Int) < (i : Int) := by omega
  have q2 : ¬ i = 0 := by omega
  have q3 : ¬ (i : Int) = 0 := by omega
  have q4 : i ≤ n := hi
  clear hr ht hi h1
  go_enter Tryd.func27, Tryd.ntmps27
  go_wp2_with fail
  refine HC.out.mono ?_
  rintro e w1 ⟨v, rfl, hov, hb⟩
  have HO := Lib.hid hov
  have HB := Lib.hid hb
  clear hov hb
  go_wp2
  go_ret2
  exact ⟨_, rfl, HO.out, HB.out⟩
theorem rProof_zero (n : Nat) (a : Option Addr) (cap : Nat) (w : World) :
    Calls Tryd.prog 28 #[.slice a n cap, .int .i64 0] w (RetDs 26 [] w) := by
  go_enter Tryd.func28, Tryd.ntmps28
  go_wp2
  go_ret
  exact ⟨_, rfl, OwnD.nil _ _ _, Below.refl _ _⟩
set_option maxRecDepth 100000 in
theorem rProof_ok (n i : Nat) (ds : Ds) (a : Option Addr) (cap : Nat) (w : World) (hnm : n ≤ 4398046511104) (hr : DR w a n ds) (h1 : 1 ≤ i) (hi : i ≤ n) (hlc : n ≤ cap) (hcm : cap ≤ 9223372036854775807) (ht : Tab w) :
    Calls Tryd.prog 28 #[.slice a n cap, .int .i64 (i : Int)] w (RetDs 26 (partS ds i true) w) := by
  have HC := Lib.hid (rprf_c n ds i true a cap w hnm hr h1 hi hlc hcm ht)
  have q2 : ¬ i = 0 := by omega
  have q3 : ¬ (i : Int) = 0 := by omega
  clear hr ht hi h1
  go_enter Tryd.func28, Tryd.ntmps28
  go_wp2_with fail
  refine HC.out.mono ?_
  rintro e w1 ⟨v, rfl, hov, hb⟩
  have HO := Lib.hid hov
  have HB := Lib.hid hb
  clear hov hb
  go_wp2
  go_ret
  exact ⟨_, rfl, HO.out, HB.out⟩
end Go.Proofs.YthnfbdmkdpokcaaDoor
