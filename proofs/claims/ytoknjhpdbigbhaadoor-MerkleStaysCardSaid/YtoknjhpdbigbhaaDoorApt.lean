/-
  The walk over the document's Apart, where two lists of bytes with one sum are apart.
-/
import Derived.Test.YtoknjhpdbigbhaaDoorFnd
namespace Go.Proofs.YtoknjhpdbigbhaaDoor
open Go.RowKit
set_option linter.unusedVariables false
theorem wpList_neqg {P : Program} {ops : Array Oper} {Q : Exit → Act → World → Prop} {rest : List Oper} {o : Oper} {a : Act} {w : World} (t t' : TypeId) (x y : Operand) (ho : o.op = .binOp .neq t x y t') (hw : Region.wanted o (yielded ops a.tmps) = true) (xs ys : Array Value) (hx : a.eval x = .agg xs) (hy : a.eval y = .agg ys)
    (hm : P.eqGuardType P.depth t = false) (b : Bool) (hrun : (Op.equalIn 10000 t (.agg xs) (.agg ys)).run P w = .ok b w) (h : wpList P ops Q rest (a.put o.dst (.bool !b)) w) : wpList P ops Q (o :: rest) a w := by
  rw [wpList, if_pos hw]
  refine .inl ?_
  unfold Oper.wp execOp
  simp only [ho, hx, hy, Sem.run_bind, run_eqGuard_agg w .neq t x y xs ys hm, run_neq_struct, hrun, Result.andThen_ok, Sem.run_pure]
  exact h
set_option maxRecDepth 100000 in
set_option maxHeartbeats 2000000 in
theorem apart_c (ax ay : Option Addr) (n c d : Nat) (x y : List Nat) (w : World) (hx : Rd w ax n x) (hy : Rd w ay n y) (hs : Sha.sum x = Sha.sum y) (hne : x ≠ y) (hn : n ≤ 1000000) :
    Calls Tryd.prog 37 #[.slice ax n c, .slice ay n d] w fun e w' => e = .returned (.bool true) ∧ Below w.heap.size w w' := by
  have hlx := hx.1
  have hly := hy.1
  have hn0 : 0 < n := by
    apply Classical.byContradiction
    intro h
    exact hne ((List.eq_nil_of_length_eq_zero (by omega)).trans (List.eq_nil_of_length_eq_zero (by omega)).symm)
  have HX := Lib.hid hx
  have HY := Lib.hid hy
  have HNE := Lib.hid hne
  obtain ⟨D, hD⟩ : ∃ D, D = Sha.sum x := ⟨_, rfl⟩
  have HSX := Lib.hid (show ∀ W, Rd W ax n x → Calls Tryd.prog 29 #[.slice ax n c] W (DigRet D W) from fun W hW => by rw [hD]; exact rsum_c x ax n c W hW (by omega))
  have HSY := Lib.hid (show ∀ W, Rd W ay n y → Calls Tryd.prog 29 #[.slice ay n d] W (DigRet D W) from fun W hW => by rw [hD, hs]; exact rsum_c y ay n d W hW (by omega))
  have HDD := Lib.hid (show D32 D from by rw [hD]; exact d32_sum _)
  have HEQ := Lib.hid (fun W => eqD dtR W HDD.out)
  have HGT := Lib.hid (show Tryd.prog.eqGuardType Tryd.prog.depth 31 = false by kernel_rfl)
  clear hx hy hs hne hD
  go_enter Tryd.func37, Tryd.ntmps37
  go_wp2_with fail
  refine (HSX.out _ HX.out).mono ?_
  rintro e w1 ⟨rfl, hb1⟩
  have HY1 := Lib.hid (HY.out.below hb1)
  have HB1 := Lib.hid hb1
  clear hb1 HSX
  go_wp2_with fail
  refine (HSY.out _ HY1.out).mono ?_
  rintro e w2 ⟨rfl, hb2⟩
  have HB2 := Lib.hid (HB1.out.trans (hb2.mono HB1.out.size))
  have HX2 := Lib.hid (HX.out.below HB2.out)
  have HY2 := Lib.hid (HY.out.below HB2.out)
  clear hb2 HB1 HY1 HSY HX HY
  go_wp2_with (first | (refine wpList_neqg 31 _ _ _ (by rfl) (by rfl) (cellsOf D).toArray (cellsOf D).toArray (by rfl) (by rfl) HGT.out true (HEQ.out _) ?_))
  obtain ⟨_, _, hcx⟩ := HX2.out
  obtain ⟨_, _, hcy⟩ := HY2.out
  rcases hcx with hcx | ⟨b1, o1, rfl, _, hcx⟩
  · exact absurd hcx (by omega)
  rcases hcy with hcy | ⟨b2, o2, rfl, _, hcy⟩
  · exact absurd hcy (by omega)
  have HCX := Lib.hid hcx
  have HCY := Lib.hid hcy
  clear hcx hcy
  go_loopw [5] (fun i wr => ∃ k q : Nat, k ≤ n ∧ i = .int .i64 k ∧ Hid (x.take k = y.take k) ∧ wr = w2.drewN q) (fun i _ => n - (intOf i).toNat)
  case atStart => exact ⟨0, 0, Nat.zero_le _, rfl, Lib.hid rfl, rfl⟩
  case round =>
    obtain ⟨k, q, hk, rfl, HT, rfl⟩ := hrel
    by_cases hkl : k < n
    · have hx := HCX.out k hkl
      have hy := HCY.out k hkl
      rw [getD_at _ _ (by omega)] at hx hy
      obtain ⟨u, hue⟩ : ∃ u, u = x[k] := ⟨_, rfl⟩
      obtain ⟨v, hve⟩ : ∃ v, v = y[k] := ⟨_, rfl⟩
      rw [← hue] at hx
      rw [← hve] at hy
      have HU := Lib.hid hue
      have HV := Lib.hid hve
      clear hue hve
      have hx' : (w2.drewN q).cell? ⟨b1, o1 + k, none⟩ = some (.int .u8 (u : Int)) := hx
      have hy' : (w2.drewN q).cell? ⟨b2, o2 + k, none⟩ = some (.int .u8 (v : Int)) := hy
      have i0 : (0 : Int) ≤ (k : Int) := by omega
      have i1 : (k : Int) < (n : Int) := by omega
      by_cases hxy : u = v
      · have HTK := Lib.hid (take_step (by omega) (by omega) HT.out (by rw [← HU.out, ← HV.out, hxy]))
        subst hxy
        go_wp2
        go_quiet (fail)
        go_wp2
        go_roundw
        case rel => exact ⟨k + 1, q + nq, by omega, by go_num, HTK, by first | rfl | exact drewN_add _ _ _⟩
        case measure => simp [intOf]; omega
      · have hne : ((u : Int) != (v : Int)) = true := by simp; omega
        go_wp2
        go_quiet (fail)
        go_wp2
        go_ret
        exact ⟨rfl, HB2.out.trans (by first | exact below_drewN' _ _ _ | exact (below_drewN' _ _ _).trans (below_drewN' _ _ _))⟩
    · exfalso
      obtain rfl : k = n := by omega
      have := HT.out
      rw [List.take_of_length_le (by omega), List.take_of_length_le (by omega)] at this
      exact HNE.out this
end Go.Proofs.YtoknjhpdbigbhaaDoor
