/-
  The walk over DigestSums.
-/
import Derived.Test.YthnfbdmkdpokcabDoorRsu
import Derived.Test.YthnfbdmkdpokcabDoorNil
namespace Go.Proofs.YthnfbdmkdpokcabDoor
open Go.RowKit
set_option linter.unusedVariables false
set_option maxRecDepth 100000 in
set_option maxHeartbeats 1000000 in
theorem sums_c (a : Option Addr) (len cap : Nat) (z : List Nat) (w : World) (r : BytesIn w a len cap z) (ht : Tab w) :
    Calls Tryd.prog 3 #[.slice a len cap] w fun e w' => e = .returned (.bool true) ∧ Below w.heap.size w w' := by
  obtain ⟨hr, hnc, hlc, hcm⟩ := r
  have HR := Lib.hid hr
  have HT := Lib.hid ht
  have hpos := ht.pos
  have HBc := Lib.hid (Below.refl w.heap.size w)
  obtain ⟨D, hD⟩ : ∃ d, d = Sha.sum z := ⟨_, rfl⟩
  have HDS := Lib.hid (show ∀ W, Rd W a len z → Tab W → Calls Tryd.prog 9 #[.slice a len cap] W (DigRet D W) from fun W hW hT => by rw [hD]; exact dsum_c a len cap z W hW hlc (by omega) (by omega) hT)
  have HRS := Lib.hid (show ∀ W, Rd W a len z → Calls Tryd.prog 10 #[.slice a len cap] W (DigRet D W) from fun W hW => by rw [hD]; exact rsum_c z a len cap W hW (by omega))
  have HEQ2 := Lib.hid (fun W => eq_dig 25 32 Tryd.underlying25 W D D (by rw [hD, sum_len]) (by rw [hD, sum_len]) (by rw [hD]; exact sum_byte _) (by rw [hD]; exact sum_byte _))
  simp only [decide_true] at HEQ2
  have HGT := Lib.hid (show Tryd.prog.eqGuardType Tryd.prog.depth 25 = false by kernel_rfl)
  clear hr ht hnc hD
  go_enter Tryd.func3, Tryd.ntmps3
  go_wp2_with (first | (go_at_call 8; refine (awake2_c _ (HT.out.below HBc.out hpos)).mono ?_; rintro e wb ⟨rfl, hbb⟩; have HBc := Lib.hid (HBc.out.trans (hbb.mono HBc.out.size)); clear hbb) | (go_at_call 9; refine (HDS.out _ (HR.out.below HBc.out) (HT.out.below HBc.out hpos)).mono ?_; rintro e wb ⟨rfl, hbb⟩; have HBc := Lib.hid (HBc.out.trans (hbb.mono HBc.out.size)); clear hbb) | (go_at_call 10; refine (HRS.out _ (HR.out.below HBc.out)).mono ?_; rintro e wb ⟨rfl, hbb⟩; have HBc := Lib.hid (HBc.out.trans (hbb.mono HBc.out.size)); clear hbb) | (refine wpList_eqg 25 _ _ _ (by rfl) (by rfl) (cellsOf D).toArray (cellsOf D).toArray (by rfl) (by rfl) HGT.out true (HEQ2.out _) ?_))
  go_ret
  exact ⟨rfl, HBc.out⟩
end Go.Proofs.YthnfbdmkdpokcabDoor
