/-
  Proof as it is called from without, and the document's; Extends of no leaves.
-/
import Derived.Test.YtoknjhpdbigbhaaDoorPrf
import Derived.Test.YtoknjhpdbigbhaaDoorExt
namespace Go.Proofs.YtoknjhpdbigbhaaDoor
open Go.RowKit
set_option linter.unusedVariables false
theorem rProof_zero (n : Nat) (a : Option Addr) (cap : Nat) (w : World) :
    Calls Tryd.prog 22 #[.slice a n cap, .int .i64 0] w (RetDs 31 [] w) := by
  go_enter Tryd.func22, Tryd.ntmps22
  go_wp2
  go_ret
  exact ⟨_, rfl, OwnD.nil _ _ _, Below.refl _ _⟩
set_option maxRecDepth 100000 in
theorem rProof_ok (n i : Nat) (ds : Ds) (a : Option Addr) (cap : Nat) (w : World) (hnm : n ≤ 4398046511104) (hr : DR w a n ds) (h1 : 1 ≤ i) (hi : i ≤ n) (hlc : n ≤ cap) (hcm : cap ≤ 9223372036854775807) (ht : Tab w) :
    Calls Tryd.prog 22 #[.slice a n cap, .int .i64 (i : Int)] w (RetDs 31 (partS ds i true) w) := by
  have HC := Lib.hid (rprf_c n ds i true a cap w hnm hr h1 hi hlc hcm ht)
  have q2 : ¬ i = 0 := by omega
  have q3 : ¬ (i : Int) = 0 := by omega
  clear hr ht hi h1
  go_enter Tryd.func22, Tryd.ntmps22
  go_wp2_with fail
  refine HC.out.mono ?_
  rintro e w1 ⟨v, rfl, hov, hb⟩
  have HO := Lib.hid hov
  have HB := Lib.hid hb
  clear hov hb
  go_wp2
  go_ret
  exact ⟨_, rfl, HO.out, HB.out⟩
end Go.Proofs.YtoknjhpdbigbhaaDoor
