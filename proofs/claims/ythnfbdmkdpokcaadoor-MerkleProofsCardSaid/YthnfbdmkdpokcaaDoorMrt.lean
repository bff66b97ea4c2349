/-
  The walk over MerkleRoots.
-/
import Derived.Test.YthnfbdmkdpokcaaDoorLtf
namespace Go.Proofs.YthnfbdmkdpokcaaDoor
open Go.RowKit
set_option linter.unusedVariables false
/-- sums that came in -/
def DigsIn (W : World) (a : Option Addr) (n cap : Nat) (ds : Ds) : Prop := DR W a n ds ∧ (a = none → cap = 0) ∧ n ≤ cap ∧ cap ≤ 4398046510976
theorem OwnD.form {w : World} {B : Nat} {E : TypeId} {v : Value} {ds : Ds} (h : OwnD w B E v ds) (hd : ∀ d ∈ ds, D32 d) : ∃ a n cap, v = .slice a n cap ∧ ds.length = n ∧ n ≤ cap ∧ cap ≤ 9223372036854775807 ∧ (a = none → cap = 0) ∧ DR w a n ds := by
  obtain ⟨a, cap, h1, h2, h3, h4, h5⟩ := h.dr hd
  exact ⟨a, _, cap, h1, rfl, h2, h3, h4, h5⟩
set_option maxRecDepth 100000 in
set_option maxHeartbeats 1000000 in
theorem roots_c (a : Option Addr) (n cap : Nat) (ds : Ds) (pa : Option Addr) (pl pc : Nat) (z : List Nat) (w : World) (r : DigsIn w a n cap ds) (rp : BytesIn w pa pl pc z) (ht : Tab w) :
    Calls Tryd.prog 3 #[.slice a n cap, .slice pa pl pc] w fun e w' => e = .returned (.bool true) ∧ Below w.heap.size w w' := by
  obtain ⟨hr, hnil, hlc, hcm⟩ := r
  obtain ⟨hp, _, hplc, hpcm⟩ := rp
  have HP := Lib.hid hp
  have HT := Lib.hid ht
  have hpos := ht.pos
  obtain ⟨m, hm⟩ : ∃ m : Nat, m = min n 70 := ⟨_, rfl⟩
  have HCUT := Lib.hid (cut_c n m 70 ds a cap w hr hlc hnil (by omega) (by omega))
  obtain ⟨es, hes⟩ : ∃ es, es = ds.take m := ⟨_, rfl⟩
  rw [← hes] at HCUT
  have HES := Lib.hid (show ∀ d ∈ es, D32 d from by rw [hes]; exact d32_take hr.2.1 m)
  have hel : es.length ≤ 70 := by rw [hes, List.length_take]; omega
  have HGT := Lib.hid (show Tryd.prog.eqGuardType Tryd.prog.depth 27 = false by kernel_rfl)
  clear hr hp hnil ht hm hes
  go_enter Tryd.func3, Tryd.ntmps3
  go_wp2_with fail
  refine HCUT.out.mono ?_
  rintro e w1 ⟨v, rfl, hov, hb1⟩
  obtain ⟨a1, n1, c1, rfl, hn1, hc1, hc1m, hnil1, hr1⟩ := hov.form HES.out
  have HR := Lib.hid hr1
  have HBc := Lib.hid hb1
  have HTO := Lib.hid (fun W (hW : DR W a1 n1 es) => to_c n1 es a1 c1 W hW (by omega))
  obtain ⟨L, hL⟩ : ∃ L, L = leafS z := ⟨_, rfl⟩
  have HL := Lib.hid (show D32 L from by rw [hL]; exact d32_sum _)
  have HLF := Lib.hid (show ∀ W, Below w.heap.size w W → Calls Tryd.prog 15 #[.slice pa pl pc] W (DigRet L W) from fun W hW => by rw [hL]; exact leaf_c pa pl pc z W (HP.out.below hW) hplc (by omega) (by omega) (HT.out.below hW hpos))
  have HRL := Lib.hid (show ∀ W, Below w.heap.size w W → Calls Tryd.prog 16 #[.slice pa pl pc] W (DigRet L W) from fun W hW => by rw [hL]; exact rleaf_c pa pl pc z W (HP.out.below hW) (by omega))
  obtain ⟨R, hRR⟩ : ∃ R, R = rootS es := ⟨_, rfl⟩
  have HRD := Lib.hid (show D32 R from by rw [hRR]; exact d32_root _ HES.out)
  have HRT := Lib.hid (show ∀ W a2 n2 c2, n2 ≤ c2 → c2 ≤ 9223372036854775807 → DR W a2 n2 es → Tab W → Calls Tryd.prog 17 #[.slice a2 n2 c2] W (DigRet R W) from fun W a2 n2 c2 h1 h2 h3 h4 => by rw [hRR]; exact root_c n2 es a2 c2 W h3 h1 h2 h4)
  have HRR := Lib.hid (show ∀ W, DR W a1 n1 es → Calls Tryd.prog 19 #[.slice a1 n1 c1] W (DigRet R W) from fun W h => by rw [hRR]; exact rroot_c n1 es a1 c1 W h hc1 hc1m)
  have HEL := Lib.hid (fun W => eqD dtA W HL.out)
  have HER := Lib.hid (fun W => eqD dtA W HRD.out)
  clear hov hb1 hr1 hL hRR HCUT
  go_wp2_with (first | (go_at_call 14; refine (awake3_c _ (HT.out.below HBc.out hpos)).mono ?_; rintro e wb ⟨rfl, hbb⟩; have HR := Lib.hid (HR.out.below hbb); have HBc := Lib.hid (HBc.out.trans (hbb.mono HBc.out.size)); clear hbb) | (go_at_call 15; refine (HLF.out _ HBc.out).mono ?_; rintro e wb ⟨rfl, hbb⟩; have HR := Lib.hid (HR.out.below hbb); have HBc := Lib.hid (HBc.out.trans (hbb.mono HBc.out.size)); clear hbb) | (go_at_call 16; refine (HRL.out _ HBc.out).mono ?_; rintro e wb ⟨rfl, hbb⟩; have HR := Lib.hid (HR.out.below hbb); have HBc := Lib.hid (HBc.out.trans (hbb.mono HBc.out.size)); clear hbb) | (go_at_call 18; refine (HTO.out _ HR.out).mono ?_; rintro e wb ⟨v2, rfl, hov, hbb⟩; obtain ⟨a2, n2, c2, rfl, hn2, hc2, hc2m, hnil2, hr2⟩ := hov.form HES.out; have HR2 := Lib.hid hr2; have HR := Lib.hid (HR.out.below hbb); have HBc := Lib.hid (HBc.out.trans (hbb.mono HBc.out.size)); clear hbb hov hr2 hn2 hnil2) | (go_at_call 17; refine (HRT.out _ a2 n2 c2 hc2 hc2m HR2.out (HT.out.below HBc.out hpos)).mono ?_; rintro e wb ⟨rfl, hbb⟩; have HR := Lib.hid (HR.out.below hbb); have HBc := Lib.hid (HBc.out.trans (hbb.mono HBc.out.size)); clear hbb) | (go_at_call 19; refine (HRR.out _ HR.out).mono ?_; rintro e wb ⟨rfl, hbb⟩; have HBc := Lib.hid (HBc.out.trans (hbb.mono HBc.out.size)); clear hbb) | (refine wpList_eqg 27 _ _ _ (by rfl) (by rfl) (cellsOf L).toArray (cellsOf L).toArray (by rfl) (by rfl) HGT.out true (HEL.out _) ?_) | (refine wpList_eqg 27 _ _ _ (by rfl) (by rfl) (cellsOf R).toArray (cellsOf R).toArray (by rfl) (by rfl) HGT.out true (HER.out _) ?_))
  go_ret
  exact ⟨rfl, HBc.out⟩
end Go.Proofs.YthnfbdmkdpokcaaDoor
