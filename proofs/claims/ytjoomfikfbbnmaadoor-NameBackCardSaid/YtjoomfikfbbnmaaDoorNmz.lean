/-
  The walk over the law that a reference and its text go back into one another.
-/
import Derived.Test.YtjoomfikfbbnmaaDoorNmy
namespace Go.Proofs.YtjoomfikfbbnmaaDoor
set_option linter.unusedVariables false
open Go.RowKit Go.Proofs.Nm
section
variable {P : Program} {ops : Array Oper} {Q : Exit → Act → World → Prop}
theorem wpList_neqg7 {rest : List Oper} {o : Oper} {a : Act} {w : World} (t t' : TypeId) (x y : Operand) (ho : o.op = .binOp .neq t x y t') (hw : Region.wanted o (yielded ops a.tmps) = true) (xs ys : Array Value) (hx : a.eval x = .agg xs) (hy : a.eval y = .agg ys)
    (hm : P.eqGuardType P.depth t = false) (b : Bool) (hrun : (Op.equalIn 10000 t (.agg xs) (.agg ys)).run P w = .ok b w) (h : wpList P ops Q rest (a.put o.dst (.bool (!b))) w) : wpList P ops Q (o :: rest) a w := by
  rw [wpList, if_pos hw]
  refine .inl ?_
  unfold Oper.wp execOp
  simp only [ho, hx, hy, Sem.run_bind, run_eqGuard_agg w .neq t x y xs ys hm, run_neq_struct, hrun, Result.andThen_ok, Sem.run_pure]
  exact h
end
theorem built_dz : Tryd.prog.built 26 [] = some (cellsOf zs32).toArray := by kernel_rfl
theorem built_dzm (f : Nat × Operand → Nat × Value) : Tryd.prog.built 26 ((#[] : Array (Nat × Operand)).map f).toList = some (cellsOf zs32).toArray := by
  rw [show ((#[] : Array (Nat × Operand)).map f).toList = [] by simp]
  exact built_dz
theorem refC_info {x : List Nat} (a b : List UInt8) (p : Bool) (hx : D32 x) : (Tryd.prog.info? 28).map (·.size) = some (refC a b p x).size := by rw [refC_size _ _ _ hx]; exact info_r1
theorem ref0_size {x : List Nat} (a b : List UInt8) (p : Bool) (hx : D32 x) : ref0.size = (refC a b p x).size := by rw [refC_size _ _ _ hx]; rfl
/-- two references in memory -/
def SB2 (w : World) (g g2 : Nat) (C D : Array Value) (W : World) : Prop := RR W g 28 C ∧ RR W g2 28 D ∧ Below w.heap.size w W ∧ g ≠ g2
/-- what the tail of the law needs to know of a text -/
def TailOk (s : List UInt8) (a b : List UInt8) (p : Bool) (x : List Nat) (n : Nat) : Prop := D32 x ∧ prs s = (refC a b p x, n) ∧ a.length ≤ 140737488351232 ∧ b.length ≤ 140737488351232 ∧ (n = 0 → shs a b p x = (s, 0))
theorem tailOk (s : List UInt8) (hs : s.length ≤ 140737488351232) : ∃ (a b : List UInt8) (p : Bool) (x : List Nat) (n : Nat), TailOk s a b p x n := by
  by_cases h : (prs s).2 = 0
  · obtain ⟨a, b, p, x, hx, h1, h2⟩ := back_read s h
    have hl : a.length ≤ 128 ∧ b.length ≤ 128 := by
      unfold shs at h2
      cases hR : repoB a with
      | false => rw [hR] at h2; simp at h2
      | true =>
        rw [hR, if_pos rfl] at h2
        have la : a.length ≤ 128 := by
          unfold repoB at hR
          simp only [Bool.and_eq_true, decide_eq_true_eq] at hR
          exact hR.2
        refine ⟨la, ?_⟩
        by_cases hb : b.isEmpty = true
        · rw [List.isEmpty_iff.1 hb]; simp
        · by_cases hT : tagOk b = true
          · unfold tagOk at hT
            simp only [Bool.and_eq_true, decide_eq_true_eq] at hT
            exact hT.2
          · rw [if_neg (fun h => h.elim hb hT)] at h2
            simp at h2
    exact ⟨a, b, p, x, 0, hx, h1, by omega, by omega, fun _ => h2⟩
  · have h0 : ∃ n, prs s = (ref0, n) := by
      unfold prs at h ⊢
      by_cases hR : repoB (cutL 58 (cutL 64 s).1).1 = true
      · rw [if_pos hR] at h ⊢
        have t2 : ∀ a r o, (prs2 a r o).2 ≠ 0 → ∃ n, prs2 a r o = (ref0, n) := fun a r o ho => by
          cases o with
          | none => exact absurd rfl ho
          | some r1 =>
            cases hz : pz (T r1) with
            | none => exact ⟨20, by unfold prs2; simp only [hz]⟩
            | some d => exact absurd (by unfold prs2; simp only [hz]) ho
        cases h2 : (cutL 58 (cutL 64 s).1).2 with
        | none => rw [h2] at h; exact t2 _ _ _ h
        | some r2 =>
          rw [h2] at h
          simp only [prs1] at h ⊢
          by_cases hT : tagOk r2 = true
          · rw [if_pos hT] at h ⊢; exact t2 _ _ _ h
          · rw [if_neg hT]; exact ⟨71, rfl⟩
      · rw [if_neg hR]; exact ⟨70, rfl⟩
    obtain ⟨n, hn⟩ := h0
    refine ⟨[], [], false, zs32, n, d32_zs, hn, by simp, by simp, fun e => ?_⟩
    subst e
    exact absurd (by rw [hn]) h
set_option maxRecDepth 100000 in
set_option maxHeartbeats 16000000 in
theorem nb_no0 (a b : List UInt8) (p : Bool) (x : List Nat) (s : List UInt8) (w : World) (hx : D32 x) (c d : List UInt8) (q : Bool) (y : List Nat) (n : Nat) (S V : List UInt8) (m k : Nat) (hy : D32 y)
    (HN : Hid (∀ W, Calls Tryd.prog 19 #[.agg (refC a b p x)] W fun e w' => e = .returned (.tuple #[.string (T S), .int .i64 (m : Int)]) ∧ Below W.heap.size W w'))
    (HQ : Hid (∀ W, Calls Tryd.prog 17 #[.string (T s)] W fun e w' => e = .returned (.tuple #[.agg (refC c d q y), .int .i64 (n : Int)]) ∧ Below W.heap.size W w'))
    (HV : Hid (∀ W, Calls Tryd.prog 19 #[.agg (refC c d q y)] W fun e w' => e = .returned (.tuple #[.string (T V), .int .i64 (k : Int)]) ∧ Below W.heap.size W w')) (hm : (m : Int) ≠ 0) (hn : (n : Int) ≠ 0) :
    Calls Tryd.prog 9 #[.agg (refC a b p x), .string (T s)] w fun e w' => e = .returned (.bool true) ∧ Below w.heap.size w w' := by
  have hn1 : ((n : Int) != 0) = true := by simpa using hn
  have hn2 : ((n : Int) == 0) = false := by simpa using hn
  clear hn
  have hm1 : ((m : Int) == 0) = false := by simpa using hm
  clear hm
  have HBU := Lib.hid (built_r4 a b p x hx)
  have HIX := Lib.hid (refC_info a b p hx)
  have HSX := Lib.hid (ref0_size a b p hx)
  have HIY := Lib.hid (refC_info c d q hy)
  have HSY := Lib.hid (ref0_size c d q hy)
  have HI32 := Lib.hid (show (Tryd.prog.info? 25).map (·.size) = some (cellsOf x).length from by rw [cellsOf_length, hx.1]; exact info_dr)
  have HXD := Lib.hid hx
  clear hx hy
  go_enter Tryd.func9, Tryd.ntmps9
  go_upto_region 1 with (fail)
  obtain ⟨g, hg⟩ : ∃ g, g = w.heap.size := ⟨_, rfl⟩
  refine gen_code (F := SBX w g 33 (refC a b p x)) (by
    rw [hg]
    exact ⟨RR.new _ _ _, (Below.refl _ w).alloc (Nat.le_refl _) _⟩) ?_
  rw [← hg]
  rintro w0 ⟨h0, h1⟩
  have HR0 := Lib.hid h0
  have HB0 := Lib.hid h1
  have k0 := h0.c0
  have k1 := h0.c1
  have k2 := h0.c2
  clear hg h0 h1
  go_upto_region 2 with (first | (refine wpList_load_mid (by rfl) 25 _ (by rfl) g 3 (by rfl) (cellsOf x) _ HR0.out.digAt Tryd.underlying25 (by rfl) HI32.out ?_) | (refine wpList_buildg 28 _ (by rfl) (by rfl) (refC a b p x) (by simp only [List.map_toArray, List.map_cons, List.map_nil]; exact HBU.out) ?_) | (refine wpList_store_row (by rfl) 28 _ _ (by rfl) w0.heap.size (refC a b p x) (by rfl) (by rfl) 28 ref0 (RR.new _ _ _) HIX.out HSX.out (refC_one _ _ _ _) ?_))
  obtain ⟨g5, hg5⟩ : ∃ g, g = w0.heap.size := ⟨_, rfl⟩
  refine gen_code (F := SBX w g5 28 (refC a b p x)) (by
    rw [hg5]
    exact ⟨(RR.new _ _ ref0).setRow, (HB0.out.alloc HB0.out.size _).setRow HB0.out.size _⟩) ?_
  have hg5w : w.heap.size ≤ g5 := by rw [hg5]; exact HB0.out.size
  rw [← hg5]
  rintro w1 ⟨h0, h1⟩
  have HR1 := Lib.hid h0
  have HB1 := Lib.hid h1
  clear hg5 h0 h1 k0 k1 k2 HR0 HB0
  go_upto_region 9 with (first | (refine wpList_load_row (by rfl) 28 _ (by rfl) g5 (by rfl) 28 (refC a b p x) (0, 0) _ HR1.out Tryd.underlying28 (by rfl) HIX.out ?_) | (go_at_call 19; (refine (HN.out _).mono ?_); rintro e w2 ⟨rfl, hb⟩; have HB2 := Lib.hid (HB1.out.trans (hb.mono HB1.out.size)); have HR2 := Lib.hid (HR1.out.below hb HR1.out.lt); clear hb))
  refine gen_code (F := fun W => Below w.heap.size w W) (HB2.out) ?_
  intro w9 h9
  have HB9 := Lib.hid h9
  clear h9
  go_upto_region 10 with (first | (go_at_call 17; (refine (HQ.out _).mono ?_); rintro e wa ⟨rfl, hb⟩; have HBa := Lib.hid (HB9.out.trans (hb.mono HB9.out.size)); clear hb) | (refine wpList_store_row (by rfl) 28 _ _ (by rfl) wa.heap.size (refC c d q y) (by rfl) (by rfl) 28 ref0 (RR.new _ _ _) HIY.out HSY.out (refC_one _ _ _ _) ?_))
  obtain ⟨ga, hga⟩ : ∃ g, g = wa.heap.size := ⟨_, rfl⟩
  refine gen_code (F := SBX w ga 28 (refC c d q y)) (by
    rw [hga]
    exact ⟨(RR.new _ _ ref0).setRow, (HBa.out.alloc HBa.out.size _).setRow HBa.out.size _⟩) ?_
  rw [← hga]
  rintro wb ⟨h0, h1⟩
  have HRb := Lib.hid h0
  have HBb := Lib.hid h1
  clear h0 h1 hga
  go_wp2_with (first | (refine wpList_load_row (by rfl) 28 _ (by rfl) ga (by rfl) 28 (refC c d q y) (0, 0) _ HRb.out Tryd.underlying28 (by rfl) HIY.out ?_) | (go_at_call 19; (refine (HV.out _).mono ?_); rintro e wc ⟨rfl, hb⟩; have HBc := Lib.hid (HBb.out.trans (hb.mono HBb.out.size)); clear hb) | (go_at_call 10; (refine (awake7_c _).mono ?_); rintro e wd ⟨rfl, hb⟩; have HBd := Lib.hid (HBc.out.trans (hb.mono HBc.out.size)); clear hb))
  all_goals (go_ret; exact ⟨ret_bool (by simp), HBd.out⟩)
set_option maxRecDepth 100000 in
set_option maxHeartbeats 16000000 in
theorem nb_yes00 (a b : List UInt8) (x : List Nat) (s : List UInt8) (w : World) (hx : D32 x) (c d : List UInt8) (q : Bool) (y : List Nat) (n : Nat) (S V : List UInt8) (k : Nat) (hy : D32 y)
    (HN : Hid (∀ W, Calls Tryd.prog 19 #[.agg (refC a b false x)] W fun e w' => e = .returned (.tuple #[.string (T S), .int .i64 0]) ∧ Below W.heap.size W w'))
    (HQ : Hid (∀ W, Calls Tryd.prog 17 #[.string (T s)] W fun e w' => e = .returned (.tuple #[.agg (refC c d q y), .int .i64 (n : Int)]) ∧ Below W.heap.size W w'))
    (HV : Hid (∀ W, Calls Tryd.prog 19 #[.agg (refC c d q y)] W fun e w' => e = .returned (.tuple #[.string (T V), .int .i64 (k : Int)]) ∧ Below W.heap.size W w'))
    (HR : Hid (∀ W, Calls Tryd.prog 17 #[.string (T S)] W fun e w' => e = .returned (.tuple #[.agg (refC a b false zs32), .int .i64 0]) ∧ Below W.heap.size W w')) (hn : (n : Int) ≠ 0) :
    Calls Tryd.prog 9 #[.agg (refC a b false x), .string (T s)] w fun e w' => e = .returned (.bool true) ∧ Below w.heap.size w w' := by
  have hn1 : ((n : Int) != 0) = true := by simpa using hn
  have hn2 : ((n : Int) == 0) = false := by simpa using hn
  clear hn
  have HIZ := Lib.hid (refC_info a b false d32_zs)
  have HSZ := Lib.hid (ref0_size a b false d32_zs)
  have HEQ := Lib.hid (fun W => eq_ref a b false zs32 d32_zs W)
  have HG := Lib.hid eqg_ref
  have HBU := Lib.hid (built_r4 a b false x hx)
  have HIX := Lib.hid (refC_info a b false hx)
  have HSX := Lib.hid (ref0_size a b false hx)
  have HIY := Lib.hid (refC_info c d q hy)
  have HSY := Lib.hid (ref0_size c d q hy)
  have HI32 := Lib.hid (show (Tryd.prog.info? 25).map (·.size) = some (cellsOf x).length from by rw [cellsOf_length, hx.1]; exact info_dr)
  have HXD := Lib.hid hx
  clear hx hy
  go_enter Tryd.func9, Tryd.ntmps9
  go_upto_region 1 with (fail)
  obtain ⟨g, hg⟩ : ∃ g, g = w.heap.size := ⟨_, rfl⟩
  refine gen_code (F := SBX w g 33 (refC a b false x)) (by
    rw [hg]
    exact ⟨RR.new _ _ _, (Below.refl _ w).alloc (Nat.le_refl _) _⟩) ?_
  rw [← hg]
  rintro w0 ⟨h0, h1⟩
  have HR0 := Lib.hid h0
  have HB0 := Lib.hid h1
  have k0 := h0.c0
  have k1 := h0.c1
  have k2 := h0.c2
  clear hg h0 h1
  go_upto_region 2 with (first | (refine wpList_load_mid (by rfl) 25 _ (by rfl) g 3 (by rfl) (cellsOf x) _ HR0.out.digAt Tryd.underlying25 (by rfl) HI32.out ?_) | (refine wpList_buildg 28 _ (by rfl) (by rfl) (refC a b false x) (by simp only [List.map_toArray, List.map_cons, List.map_nil]; exact HBU.out) ?_) | (refine wpList_store_row (by rfl) 28 _ _ (by rfl) w0.heap.size (refC a b false x) (by rfl) (by rfl) 28 ref0 (RR.new _ _ _) HIX.out HSX.out (refC_one _ _ _ _) ?_))
  obtain ⟨g5, hg5⟩ : ∃ g, g = w0.heap.size := ⟨_, rfl⟩
  refine gen_code (F := SBX w g5 28 (refC a b false x)) (by
    rw [hg5]
    exact ⟨(RR.new _ _ ref0).setRow, (HB0.out.alloc HB0.out.size _).setRow HB0.out.size _⟩) ?_
  have hg5w : w.heap.size ≤ g5 := by rw [hg5]; exact HB0.out.size
  rw [← hg5]
  rintro w1 ⟨h0, h1⟩
  have HR1 := Lib.hid h0
  have HB1 := Lib.hid h1
  clear hg5 h0 h1 k0 k1 k2 HR0 HB0
  go_upto_region 5 with (first | (refine wpList_load_row (by rfl) 28 _ (by rfl) g5 (by rfl) 28 (refC a b false x) (0, 0) _ HR1.out Tryd.underlying28 (by rfl) HIX.out ?_) | (go_at_call 19; (refine (HN.out _).mono ?_); rintro e w2 ⟨rfl, hb⟩; have HB2 := Lib.hid (HB1.out.trans (hb.mono HB1.out.size)); have HR2 := Lib.hid (HR1.out.below hb HR1.out.lt); clear hb) | (go_at_call 17; (refine (HR.out _).mono ?_); rintro e w3 ⟨rfl, hb⟩; have HB3 := Lib.hid (HB2.out.trans (hb.mono HB2.out.size)); have HR3 := Lib.hid (HR2.out.below hb HR2.out.lt); clear hb) | (refine wpList_store_row (by rfl) 28 _ _ (by rfl) w3.heap.size (refC a b false zs32) (by rfl) (by rfl) 28 ref0 (RR.new _ _ _) HIZ.out HSZ.out (refC_one _ _ _ _) ?_))
  obtain ⟨g8, hg8⟩ : ∃ g, g = w3.heap.size := ⟨_, rfl⟩
  refine gen_code (F := SB2 w g5 g8 (refC a b false x) (refC a b false zs32)) (by
    rw [hg8]
    have l3 := HR3.out.lt
    exact ⟨(HR3.out.below ((Below.refl w3.heap.size _).alloc (Nat.le_refl _) _) l3).other (by omega), (RR.new _ _ ref0).setRow, (HB3.out.alloc HB3.out.size _).setRow HB3.out.size _, by omega⟩) ?_
  rw [← hg8]
  intro w4 h4
  have H4 := Lib.hid h4
  have k2 := h4.1.c2
  clear h4 hg8
  obtain ⟨Z, hZ⟩ : ∃ Z, Z = zs32 := ⟨_, rfl⟩
  have HZD := Lib.hid (show D32 Z from by rw [hZ]; exact d32_zs)
  have HIZZ := Lib.hid (refC_info a b false HZD.out)
  have HEZ := Lib.hid (fun W => show (Op.equalIn 10000 28 (.agg (refC a b false zs32)) (.agg (refC a b false Z))).run Tryd.prog W = .ok true W from by rw [hZ]; exact HEQ.out W)
  have HZ := Lib.hid hZ
  clear hZ
  go_upto_region 7 with (first | (refine wpList_buildg 26 _ (by rfl) (by rfl) (cellsOf Z).toArray (by rw [HZ.out]; exact built_dzm _) ?_) | (refine wpList_store_mid (by rfl) 26 _ _ (by rfl) g5 3 (cellsOf Z).toArray (by rfl) (by rfl) (H4.out.1.thereR 3 _ (by rw [refC_size _ _ _ HXD.out, cells32 HZD.out]; decide)) (by rw [cells32 HZD.out]; exact info_dg) (cells_one _) ?_))
  refine gen_code (F := SB2 w g5 g8 (refC a b false Z) (refC a b false zs32)) (by
    obtain ⟨q1, q2, q3, q4⟩ := H4.out
    exact ⟨q1.setDig HXD.out HZD.out, q2.otherCells (Ne.symm q4) _ _, (Only.setCells _ _ (Only.refl g5 w4)).below' q3 hg5w, q4⟩) ?_
  intro w5 h5
  have H5 := Lib.hid h5
  clear h5 k2
  go_upto_region 9 with (first | (refine wpList_loadg 28 _ (by rfl) (by rfl) (.pointer (some ⟨g8, 0, none⟩)) (by rfl) (.agg (refC a b false zs32)) (H5.out.2.1.load HIZ.out) ?_) | (refine wpList_loadg 28 _ (by rfl) (by rfl) (.pointer (some ⟨g5, 0, none⟩)) (by rfl) (.agg (refC a b false Z)) (H5.out.1.load HIZZ.out) ?_) | (refine wpList_neqg7 28 _ _ _ (by rfl) (by rfl) (refC a b false zs32) (refC a b false Z) (by rfl) (by rfl) HG.out true (HEZ.out _) ?_))
  refine gen_code (F := fun W => Below w.heap.size w W) (H5.out.2.2.1) ?_
  intro w9 h9
  have HB9 := Lib.hid h9
  clear h9
  go_upto_region 10 with (first | (go_at_call 17; (refine (HQ.out _).mono ?_); rintro e wa ⟨rfl, hb⟩; have HBa := Lib.hid (HB9.out.trans (hb.mono HB9.out.size)); clear hb) | (refine wpList_store_row (by rfl) 28 _ _ (by rfl) wa.heap.size (refC c d q y) (by rfl) (by rfl) 28 ref0 (RR.new _ _ _) HIY.out HSY.out (refC_one _ _ _ _) ?_))
  obtain ⟨ga, hga⟩ : ∃ g, g = wa.heap.size := ⟨_, rfl⟩
  refine gen_code (F := SBX w ga 28 (refC c d q y)) (by
    rw [hga]
    exact ⟨(RR.new _ _ ref0).setRow, (HBa.out.alloc HBa.out.size _).setRow HBa.out.size _⟩) ?_
  rw [← hga]
  rintro wb ⟨h0, h1⟩
  have HRb := Lib.hid h0
  have HBb := Lib.hid h1
  clear h0 h1 hga
  go_wp2_with (first | (refine wpList_load_row (by rfl) 28 _ (by rfl) ga (by rfl) 28 (refC c d q y) (0, 0) _ HRb.out Tryd.underlying28 (by rfl) HIY.out ?_) | (go_at_call 19; (refine (HV.out _).mono ?_); rintro e wc ⟨rfl, hb⟩; have HBc := Lib.hid (HBb.out.trans (hb.mono HBb.out.size)); clear hb) | (go_at_call 10; (refine (awake7_c _).mono ?_); rintro e wd ⟨rfl, hb⟩; have HBd := Lib.hid (HBc.out.trans (hb.mono HBc.out.size)); clear hb))
  all_goals (go_ret; exact ⟨ret_bool (by simp), HBd.out⟩)
set_option maxRecDepth 100000 in
set_option maxHeartbeats 16000000 in
theorem nb_yes01 (a b : List UInt8) (x : List Nat) (s : List UInt8) (w : World) (hx : D32 x) (c d : List UInt8) (q : Bool) (y : List Nat) (n : Nat) (S V : List UInt8) (k : Nat) (hy : D32 y)
    (HN : Hid (∀ W, Calls Tryd.prog 19 #[.agg (refC a b true x)] W fun e w' => e = .returned (.tuple #[.string (T S), .int .i64 0]) ∧ Below W.heap.size W w'))
    (HQ : Hid (∀ W, Calls Tryd.prog 17 #[.string (T s)] W fun e w' => e = .returned (.tuple #[.agg (refC c d q y), .int .i64 (n : Int)]) ∧ Below W.heap.size W w'))
    (HV : Hid (∀ W, Calls Tryd.prog 19 #[.agg (refC c d q y)] W fun e w' => e = .returned (.tuple #[.string (T V), .int .i64 (k : Int)]) ∧ Below W.heap.size W w'))
    (HR : Hid (∀ W, Calls Tryd.prog 17 #[.string (T S)] W fun e w' => e = .returned (.tuple #[.agg (refC a b true x), .int .i64 0]) ∧ Below W.heap.size W w')) (hn : (n : Int) ≠ 0) :
    Calls Tryd.prog 9 #[.agg (refC a b true x), .string (T s)] w fun e w' => e = .returned (.bool true) ∧ Below w.heap.size w w' := by
  have hn1 : ((n : Int) != 0) = true := by simpa using hn
  have hn2 : ((n : Int) == 0) = false := by simpa using hn
  clear hn
  have HIZ := Lib.hid (refC_info a b true hx)
  have HSZ := Lib.hid (ref0_size a b true hx)
  have HEQ := Lib.hid (fun W => eq_ref a b true x hx W)
  have HG := Lib.hid eqg_ref
  have HBU := Lib.hid (built_r4 a b true x hx)
  have HIX := Lib.hid (refC_info a b true hx)
  have HSX := Lib.hid (ref0_size a b true hx)
  have HIY := Lib.hid (refC_info c d q hy)
  have HSY := Lib.hid (ref0_size c d q hy)
  have HI32 := Lib.hid (show (Tryd.prog.info? 25).map (·.size) = some (cellsOf x).length from by rw [cellsOf_length, hx.1]; exact info_dr)
  have HXD := Lib.hid hx
  clear hx hy
  go_enter Tryd.func9, Tryd.ntmps9
  go_upto_region 1 with (fail)
  obtain ⟨g, hg⟩ : ∃ g, g = w.heap.size := ⟨_, rfl⟩
  refine gen_code (F := SBX w g 33 (refC a b true x)) (by
    rw [hg]
    exact ⟨RR.new _ _ _, (Below.refl _ w).alloc (Nat.le_refl _) _⟩) ?_
  rw [← hg]
  rintro w0 ⟨h0, h1⟩
  have HR0 := Lib.hid h0
  have HB0 := Lib.hid h1
  have k0 := h0.c0
  have k1 := h0.c1
  have k2 := h0.c2
  clear hg h0 h1
  go_upto_region 2 with (first | (refine wpList_load_mid (by rfl) 25 _ (by rfl) g 3 (by rfl) (cellsOf x) _ HR0.out.digAt Tryd.underlying25 (by rfl) HI32.out ?_) | (refine wpList_buildg 28 _ (by rfl) (by rfl) (refC a b true x) (by simp only [List.map_toArray, List.map_cons, List.map_nil]; exact HBU.out) ?_) | (refine wpList_store_row (by rfl) 28 _ _ (by rfl) w0.heap.size (refC a b true x) (by rfl) (by rfl) 28 ref0 (RR.new _ _ _) HIX.out HSX.out (refC_one _ _ _ _) ?_))
  obtain ⟨g5, hg5⟩ : ∃ g, g = w0.heap.size := ⟨_, rfl⟩
  refine gen_code (F := SBX w g5 28 (refC a b true x)) (by
    rw [hg5]
    exact ⟨(RR.new _ _ ref0).setRow, (HB0.out.alloc HB0.out.size _).setRow HB0.out.size _⟩) ?_
  have hg5w : w.heap.size ≤ g5 := by rw [hg5]; exact HB0.out.size
  rw [← hg5]
  rintro w1 ⟨h0, h1⟩
  have HR1 := Lib.hid h0
  have HB1 := Lib.hid h1
  clear hg5 h0 h1 k0 k1 k2 HR0 HB0
  go_upto_region 5 with (first | (refine wpList_load_row (by rfl) 28 _ (by rfl) g5 (by rfl) 28 (refC a b true x) (0, 0) _ HR1.out Tryd.underlying28 (by rfl) HIX.out ?_) | (go_at_call 19; (refine (HN.out _).mono ?_); rintro e w2 ⟨rfl, hb⟩; have HB2 := Lib.hid (HB1.out.trans (hb.mono HB1.out.size)); have HR2 := Lib.hid (HR1.out.below hb HR1.out.lt); clear hb) | (go_at_call 17; (refine (HR.out _).mono ?_); rintro e w3 ⟨rfl, hb⟩; have HB3 := Lib.hid (HB2.out.trans (hb.mono HB2.out.size)); have HR3 := Lib.hid (HR2.out.below hb HR2.out.lt); clear hb) | (refine wpList_store_row (by rfl) 28 _ _ (by rfl) w3.heap.size (refC a b true x) (by rfl) (by rfl) 28 ref0 (RR.new _ _ _) HIZ.out HSZ.out (refC_one _ _ _ _) ?_))
  obtain ⟨g8, hg8⟩ : ∃ g, g = w3.heap.size := ⟨_, rfl⟩
  refine gen_code (F := SB2 w g5 g8 (refC a b true x) (refC a b true x)) (by
    rw [hg8]
    have l3 := HR3.out.lt
    exact ⟨(HR3.out.below ((Below.refl w3.heap.size _).alloc (Nat.le_refl _) _) l3).other (by omega), (RR.new _ _ ref0).setRow, (HB3.out.alloc HB3.out.size _).setRow HB3.out.size _, by omega⟩) ?_
  rw [← hg8]
  intro w4 h4
  have H4 := Lib.hid h4
  have k2 := h4.1.c2
  clear h4 hg8
  go_upto_region 9 with (first | (refine wpList_loadg 28 _ (by rfl) (by rfl) (.pointer (some ⟨g8, 0, none⟩)) (by rfl) (.agg (refC a b true x)) (H4.out.2.1.load HIZ.out) ?_) | (refine wpList_loadg 28 _ (by rfl) (by rfl) (.pointer (some ⟨g5, 0, none⟩)) (by rfl) (.agg (refC a b true x)) (H4.out.1.load HIX.out) ?_) | (refine wpList_neqg7 28 _ _ _ (by rfl) (by rfl) (refC a b true x) (refC a b true x) (by rfl) (by rfl) HG.out true (HEQ.out _) ?_))
  refine gen_code (F := fun W => Below w.heap.size w W) (H4.out.2.2.1) ?_
  intro w9 h9
  have HB9 := Lib.hid h9
  clear h9
  go_upto_region 10 with (first | (go_at_call 17; (refine (HQ.out _).mono ?_); rintro e wa ⟨rfl, hb⟩; have HBa := Lib.hid (HB9.out.trans (hb.mono HB9.out.size)); clear hb) | (refine wpList_store_row (by rfl) 28 _ _ (by rfl) wa.heap.size (refC c d q y) (by rfl) (by rfl) 28 ref0 (RR.new _ _ _) HIY.out HSY.out (refC_one _ _ _ _) ?_))
  obtain ⟨ga, hga⟩ : ∃ g, g = wa.heap.size := ⟨_, rfl⟩
  refine gen_code (F := SBX w ga 28 (refC c d q y)) (by
    rw [hga]
    exact ⟨(RR.new _ _ ref0).setRow, (HBa.out.alloc HBa.out.size _).setRow HBa.out.size _⟩) ?_
  rw [← hga]
  rintro wb ⟨h0, h1⟩
  have HRb := Lib.hid h0
  have HBb := Lib.hid h1
  clear h0 h1 hga
  go_wp2_with (first | (refine wpList_load_row (by rfl) 28 _ (by rfl) ga (by rfl) 28 (refC c d q y) (0, 0) _ HRb.out Tryd.underlying28 (by rfl) HIY.out ?_) | (go_at_call 19; (refine (HV.out _).mono ?_); rintro e wc ⟨rfl, hb⟩; have HBc := Lib.hid (HBb.out.trans (hb.mono HBb.out.size)); clear hb) | (go_at_call 10; (refine (awake7_c _).mono ?_); rintro e wd ⟨rfl, hb⟩; have HBd := Lib.hid (HBc.out.trans (hb.mono HBc.out.size)); clear hb))
  all_goals (go_ret; exact ⟨ret_bool (by simp), HBd.out⟩)
set_option maxRecDepth 100000 in
set_option maxHeartbeats 16000000 in
theorem nb_no1 (a b : List UInt8) (p : Bool) (x : List Nat) (s : List UInt8) (w : World) (hx : D32 x) (c d : List UInt8) (q : Bool) (y : List Nat) (n : Nat) (S V : List UInt8) (m k : Nat) (hy : D32 y)
    (HN : Hid (∀ W, Calls Tryd.prog 19 #[.agg (refC a b p x)] W fun e w' => e = .returned (.tuple #[.string (T S), .int .i64 (m : Int)]) ∧ Below W.heap.size W w'))
    (HQ : Hid (∀ W, Calls Tryd.prog 17 #[.string (T s)] W fun e w' => e = .returned (.tuple #[.agg (refC c d q y), .int .i64 (n : Int)]) ∧ Below W.heap.size W w'))
    (HV : Hid (∀ W, Calls Tryd.prog 19 #[.agg (refC c d q y)] W fun e w' => e = .returned (.tuple #[.string (T V), .int .i64 (k : Int)]) ∧ Below W.heap.size W w')) (hm : (m : Int) ≠ 0) (hn : (n : Int) = 0) (hk : (k : Int) = 0) (hV : V = s) :
    Calls Tryd.prog 9 #[.agg (refC a b p x), .string (T s)] w fun e w' => e = .returned (.bool true) ∧ Below w.heap.size w w' := by
  obtain rfl : n = 0 := by omega
  obtain rfl : k = 0 := by omega
  subst hV
  clear hn hk
  have hm1 : ((m : Int) == 0) = false := by simpa using hm
  clear hm
  have HBU := Lib.hid (built_r4 a b p x hx)
  have HIX := Lib.hid (refC_info a b p hx)
  have HSX := Lib.hid (ref0_size a b p hx)
  have HIY := Lib.hid (refC_info c d q hy)
  have HSY := Lib.hid (ref0_size c d q hy)
  have HI32 := Lib.hid (show (Tryd.prog.info? 25).map (·.size) = some (cellsOf x).length from by rw [cellsOf_length, hx.1]; exact info_dr)
  have HXD := Lib.hid hx
  clear hx hy
  go_enter Tryd.func9, Tryd.ntmps9
  go_upto_region 1 with (fail)
  obtain ⟨g, hg⟩ : ∃ g, g = w.heap.size := ⟨_, rfl⟩
  refine gen_code (F := SBX w g 33 (refC a b p x)) (by
    rw [hg]
    exact ⟨RR.new _ _ _, (Below.refl _ w).alloc (Nat.le_refl _) _⟩) ?_
  rw [← hg]
  rintro w0 ⟨h0, h1⟩
  have HR0 := Lib.hid h0
  have HB0 := Lib.hid h1
  have k0 := h0.c0
  have k1 := h0.c1
  have k2 := h0.c2
  clear hg h0 h1
  go_upto_region 2 with (first | (refine wpList_load_mid (by rfl) 25 _ (by rfl) g 3 (by rfl) (cellsOf x) _ HR0.out.digAt Tryd.underlying25 (by rfl) HI32.out ?_) | (refine wpList_buildg 28 _ (by rfl) (by rfl) (refC a b p x) (by simp only [List.map_toArray, List.map_cons, List.map_nil]; exact HBU.out) ?_) | (refine wpList_store_row (by rfl) 28 _ _ (by rfl) w0.heap.size (refC a b p x) (by rfl) (by rfl) 28 ref0 (RR.new _ _ _) HIX.out HSX.out (refC_one _ _ _ _) ?_))
  obtain ⟨g5, hg5⟩ : ∃ g, g = w0.heap.size := ⟨_, rfl⟩
  refine gen_code (F := SBX w g5 28 (refC a b p x)) (by
    rw [hg5]
    exact ⟨(RR.new _ _ ref0).setRow, (HB0.out.alloc HB0.out.size _).setRow HB0.out.size _⟩) ?_
  have hg5w : w.heap.size ≤ g5 := by rw [hg5]; exact HB0.out.size
  rw [← hg5]
  rintro w1 ⟨h0, h1⟩
  have HR1 := Lib.hid h0
  have HB1 := Lib.hid h1
  clear hg5 h0 h1 k0 k1 k2 HR0 HB0
  go_upto_region 9 with (first | (refine wpList_load_row (by rfl) 28 _ (by rfl) g5 (by rfl) 28 (refC a b p x) (0, 0) _ HR1.out Tryd.underlying28 (by rfl) HIX.out ?_) | (go_at_call 19; (refine (HN.out _).mono ?_); rintro e w2 ⟨rfl, hb⟩; have HB2 := Lib.hid (HB1.out.trans (hb.mono HB1.out.size)); have HR2 := Lib.hid (HR1.out.below hb HR1.out.lt); clear hb))
  refine gen_code (F := fun W => Below w.heap.size w W) (HB2.out) ?_
  intro w9 h9
  have HB9 := Lib.hid h9
  clear h9
  go_upto_region 10 with (first | (go_at_call 17; (refine (HQ.out _).mono ?_); rintro e wa ⟨rfl, hb⟩; have HBa := Lib.hid (HB9.out.trans (hb.mono HB9.out.size)); clear hb) | (refine wpList_store_row (by rfl) 28 _ _ (by rfl) wa.heap.size (refC c d q y) (by rfl) (by rfl) 28 ref0 (RR.new _ _ _) HIY.out HSY.out (refC_one _ _ _ _) ?_))
  obtain ⟨ga, hga⟩ : ∃ g, g = wa.heap.size := ⟨_, rfl⟩
  refine gen_code (F := SBX w ga 28 (refC c d q y)) (by
    rw [hga]
    exact ⟨(RR.new _ _ ref0).setRow, (HBa.out.alloc HBa.out.size _).setRow HBa.out.size _⟩) ?_
  rw [← hga]
  rintro wb ⟨h0, h1⟩
  have HRb := Lib.hid h0
  have HBb := Lib.hid h1
  clear h0 h1 hga
  go_wp2_with (first | (refine wpList_load_row (by rfl) 28 _ (by rfl) ga (by rfl) 28 (refC c d q y) (0, 0) _ HRb.out Tryd.underlying28 (by rfl) HIY.out ?_) | (go_at_call 19; (refine (HV.out _).mono ?_); rintro e wc ⟨rfl, hb⟩; have HBc := Lib.hid (HBb.out.trans (hb.mono HBb.out.size)); clear hb) | (go_at_call 10; (refine (awake7_c _).mono ?_); rintro e wd ⟨rfl, hb⟩; have HBd := Lib.hid (HBc.out.trans (hb.mono HBc.out.size)); clear hb))
  all_goals (go_ret; exact ⟨ret_bool (by simp), HBd.out⟩)
set_option maxRecDepth 100000 in
set_option maxHeartbeats 16000000 in
theorem nb_yes10 (a b : List UInt8) (x : List Nat) (s : List UInt8) (w : World) (hx : D32 x) (c d : List UInt8) (q : Bool) (y : List Nat) (n : Nat) (S V : List UInt8) (k : Nat) (hy : D32 y)
    (HN : Hid (∀ W, Calls Tryd.prog 19 #[.agg (refC a b false x)] W fun e w' => e = .returned (.tuple #[.string (T S), .int .i64 0]) ∧ Below W.heap.size W w'))
    (HQ : Hid (∀ W, Calls Tryd.prog 17 #[.string (T s)] W fun e w' => e = .returned (.tuple #[.agg (refC c d q y), .int .i64 (n : Int)]) ∧ Below W.heap.size W w'))
    (HV : Hid (∀ W, Calls Tryd.prog 19 #[.agg (refC c d q y)] W fun e w' => e = .returned (.tuple #[.string (T V), .int .i64 (k : Int)]) ∧ Below W.heap.size W w'))
    (HR : Hid (∀ W, Calls Tryd.prog 17 #[.string (T S)] W fun e w' => e = .returned (.tuple #[.agg (refC a b false zs32), .int .i64 0]) ∧ Below W.heap.size W w')) (hn : (n : Int) = 0) (hk : (k : Int) = 0) (hV : V = s) :
    Calls Tryd.prog 9 #[.agg (refC a b false x), .string (T s)] w fun e w' => e = .returned (.bool true) ∧ Below w.heap.size w w' := by
  obtain rfl : n = 0 := by omega
  obtain rfl : k = 0 := by omega
  subst hV
  clear hn hk
  have HIZ := Lib.hid (refC_info a b false d32_zs)
  have HSZ := Lib.hid (ref0_size a b false d32_zs)
  have HEQ := Lib.hid (fun W => eq_ref a b false zs32 d32_zs W)
  have HG := Lib.hid eqg_ref
  have HBU := Lib.hid (built_r4 a b false x hx)
  have HIX := Lib.hid (refC_info a b false hx)
  have HSX := Lib.hid (ref0_size a b false hx)
  have HIY := Lib.hid (refC_info c d q hy)
  have HSY := Lib.hid (ref0_size c d q hy)
  have HI32 := Lib.hid (show (Tryd.prog.info? 25).map (·.size) = some (cellsOf x).length from by rw [cellsOf_length, hx.1]; exact info_dr)
  have HXD := Lib.hid hx
  clear hx hy
  go_enter Tryd.func9, Tryd.ntmps9
  go_upto_region 1 with (fail)
  obtain ⟨g, hg⟩ : ∃ g, g = w.heap.size := ⟨_, rfl⟩
  refine gen_code (F := SBX w g 33 (refC a b false x)) (by
    rw [hg]
    exact ⟨RR.new _ _ _, (Below.refl _ w).alloc (Nat.le_refl _) _⟩) ?_
  rw [← hg]
  rintro w0 ⟨h0, h1⟩
  have HR0 := Lib.hid h0
  have HB0 := Lib.hid h1
  have k0 := h0.c0
  have k1 := h0.c1
  have k2 := h0.c2
  clear hg h0 h1
  go_upto_region 2 with (first | (refine wpList_load_mid (by rfl) 25 _ (by rfl) g 3 (by rfl) (cellsOf x) _ HR0.out.digAt Tryd.underlying25 (by rfl) HI32.out ?_) | (refine wpList_buildg 28 _ (by rfl) (by rfl) (refC a b false x) (by simp only [List.map_toArray, List.map_cons, List.map_nil]; exact HBU.out) ?_) | (refine wpList_store_row (by rfl) 28 _ _ (by rfl) w0.heap.size (refC a b false x) (by rfl) (by rfl) 28 ref0 (RR.new _ _ _) HIX.out HSX.out (refC_one _ _ _ _) ?_))
  obtain ⟨g5, hg5⟩ : ∃ g, g = w0.heap.size := ⟨_, rfl⟩
  refine gen_code (F := SBX w g5 28 (refC a b false x)) (by
    rw [hg5]
    exact ⟨(RR.new _ _ ref0).setRow, (HB0.out.alloc HB0.out.size _).setRow HB0.out.size _⟩) ?_
  have hg5w : w.heap.size ≤ g5 := by rw [hg5]; exact HB0.out.size
  rw [← hg5]
  rintro w1 ⟨h0, h1⟩
  have HR1 := Lib.hid h0
  have HB1 := Lib.hid h1
  clear hg5 h0 h1 k0 k1 k2 HR0 HB0
  go_upto_region 5 with (first | (refine wpList_load_row (by rfl) 28 _ (by rfl) g5 (by rfl) 28 (refC a b false x) (0, 0) _ HR1.out Tryd.underlying28 (by rfl) HIX.out ?_) | (go_at_call 19; (refine (HN.out _).mono ?_); rintro e w2 ⟨rfl, hb⟩; have HB2 := Lib.hid (HB1.out.trans (hb.mono HB1.out.size)); have HR2 := Lib.hid (HR1.out.below hb HR1.out.lt); clear hb) | (go_at_call 17; (refine (HR.out _).mono ?_); rintro e w3 ⟨rfl, hb⟩; have HB3 := Lib.hid (HB2.out.trans (hb.mono HB2.out.size)); have HR3 := Lib.hid (HR2.out.below hb HR2.out.lt); clear hb) | (refine wpList_store_row (by rfl) 28 _ _ (by rfl) w3.heap.size (refC a b false zs32) (by rfl) (by rfl) 28 ref0 (RR.new _ _ _) HIZ.out HSZ.out (refC_one _ _ _ _) ?_))
  obtain ⟨g8, hg8⟩ : ∃ g, g = w3.heap.size := ⟨_, rfl⟩
  refine gen_code (F := SB2 w g5 g8 (refC a b false x) (refC a b false zs32)) (by
    rw [hg8]
    have l3 := HR3.out.lt
    exact ⟨(HR3.out.below ((Below.refl w3.heap.size _).alloc (Nat.le_refl _) _) l3).other (by omega), (RR.new _ _ ref0).setRow, (HB3.out.alloc HB3.out.size _).setRow HB3.out.size _, by omega⟩) ?_
  rw [← hg8]
  intro w4 h4
  have H4 := Lib.hid h4
  have k2 := h4.1.c2
  clear h4 hg8
  obtain ⟨Z, hZ⟩ : ∃ Z, Z = zs32 := ⟨_, rfl⟩
  have HZD := Lib.hid (show D32 Z from by rw [hZ]; exact d32_zs)
  have HIZZ := Lib.hid (refC_info a b false HZD.out)
  have HEZ := Lib.hid (fun W => show (Op.equalIn 10000 28 (.agg (refC a b false zs32)) (.agg (refC a b false Z))).run Tryd.prog W = .ok true W from by rw [hZ]; exact HEQ.out W)
  have HZ := Lib.hid hZ
  clear hZ
  go_upto_region 7 with (first | (refine wpList_buildg 26 _ (by rfl) (by rfl) (cellsOf Z).toArray (by rw [HZ.out]; exact built_dzm _) ?_) | (refine wpList_store_mid (by rfl) 26 _ _ (by rfl) g5 3 (cellsOf Z).toArray (by rfl) (by rfl) (H4.out.1.thereR 3 _ (by rw [refC_size _ _ _ HXD.out, cells32 HZD.out]; decide)) (by rw [cells32 HZD.out]; exact info_dg) (cells_one _) ?_))
  refine gen_code (F := SB2 w g5 g8 (refC a b false Z) (refC a b false zs32)) (by
    obtain ⟨q1, q2, q3, q4⟩ := H4.out
    exact ⟨q1.setDig HXD.out HZD.out, q2.otherCells (Ne.symm q4) _ _, (Only.setCells _ _ (Only.refl g5 w4)).below' q3 hg5w, q4⟩) ?_
  intro w5 h5
  have H5 := Lib.hid h5
  clear h5 k2
  go_upto_region 9 with (first | (refine wpList_loadg 28 _ (by rfl) (by rfl) (.pointer (some ⟨g8, 0, none⟩)) (by rfl) (.agg (refC a b false zs32)) (H5.out.2.1.load HIZ.out) ?_) | (refine wpList_loadg 28 _ (by rfl) (by rfl) (.pointer (some ⟨g5, 0, none⟩)) (by rfl) (.agg (refC a b false Z)) (H5.out.1.load HIZZ.out) ?_) | (refine wpList_neqg7 28 _ _ _ (by rfl) (by rfl) (refC a b false zs32) (refC a b false Z) (by rfl) (by rfl) HG.out true (HEZ.out _) ?_))
  refine gen_code (F := fun W => Below w.heap.size w W) (H5.out.2.2.1) ?_
  intro w9 h9
  have HB9 := Lib.hid h9
  clear h9
  go_upto_region 10 with (first | (go_at_call 17; (refine (HQ.out _).mono ?_); rintro e wa ⟨rfl, hb⟩; have HBa := Lib.hid (HB9.out.trans (hb.mono HB9.out.size)); clear hb) | (refine wpList_store_row (by rfl) 28 _ _ (by rfl) wa.heap.size (refC c d q y) (by rfl) (by rfl) 28 ref0 (RR.new _ _ _) HIY.out HSY.out (refC_one _ _ _ _) ?_))
  obtain ⟨ga, hga⟩ : ∃ g, g = wa.heap.size := ⟨_, rfl⟩
  refine gen_code (F := SBX w ga 28 (refC c d q y)) (by
    rw [hga]
    exact ⟨(RR.new _ _ ref0).setRow, (HBa.out.alloc HBa.out.size _).setRow HBa.out.size _⟩) ?_
  rw [← hga]
  rintro wb ⟨h0, h1⟩
  have HRb := Lib.hid h0
  have HBb := Lib.hid h1
  clear h0 h1 hga
  go_wp2_with (first | (refine wpList_load_row (by rfl) 28 _ (by rfl) ga (by rfl) 28 (refC c d q y) (0, 0) _ HRb.out Tryd.underlying28 (by rfl) HIY.out ?_) | (go_at_call 19; (refine (HV.out _).mono ?_); rintro e wc ⟨rfl, hb⟩; have HBc := Lib.hid (HBb.out.trans (hb.mono HBb.out.size)); clear hb) | (go_at_call 10; (refine (awake7_c _).mono ?_); rintro e wd ⟨rfl, hb⟩; have HBd := Lib.hid (HBc.out.trans (hb.mono HBc.out.size)); clear hb))
  all_goals (go_ret; exact ⟨ret_bool (by simp), HBd.out⟩)
set_option maxRecDepth 100000 in
set_option maxHeartbeats 16000000 in
theorem nb_yes11 (a b : List UInt8) (x : List Nat) (s : List UInt8) (w : World) (hx : D32 x) (c d : List UInt8) (q : Bool) (y : List Nat) (n : Nat) (S V : List UInt8) (k : Nat) (hy : D32 y)
    (HN : Hid (∀ W, Calls Tryd.prog 19 #[.agg (refC a b true x)] W fun e w' => e = .returned (.tuple #[.string (T S), .int .i64 0]) ∧ Below W.heap.size W w'))
    (HQ : Hid (∀ W, Calls Tryd.prog 17 #[.string (T s)] W fun e w' => e = .returned (.tuple #[.agg (refC c d q y), .int .i64 (n : Int)]) ∧ Below W.heap.size W w'))
    (HV : Hid (∀ W, Calls Tryd.prog 19 #[.agg (refC c d q y)] W fun e w' => e = .returned (.tuple #[.string (T V), .int .i64 (k : Int)]) ∧ Below W.heap.size W w'))
    (HR : Hid (∀ W, Calls Tryd.prog 17 #[.string (T S)] W fun e w' => e = .returned (.tuple #[.agg (refC a b true x), .int .i64 0]) ∧ Below W.heap.size W w')) (hn : (n : Int) = 0) (hk : (k : Int) = 0) (hV : V = s) :
    Calls Tryd.prog 9 #[.agg (refC a b true x), .string (T s)] w fun e w' => e = .returned (.bool true) ∧ Below w.heap.size w w' := by
  obtain rfl : n = 0 := by omega
  obtain rfl : k = 0 := by omega
  subst hV
  clear hn hk
  have HIZ := Lib.hid (refC_info a b true hx)
  have HSZ := Lib.hid (ref0_size a b true hx)
  have HEQ := Lib.hid (fun W => eq_ref a b true x hx W)
  have HG := Lib.hid eqg_ref
  have HBU := Lib.hid (built_r4 a b true x hx)
  have HIX := Lib.hid (refC_info a b true hx)
  have HSX := Lib.hid (ref0_size a b true hx)
  have HIY := Lib.hid (refC_info c d q hy)
  have HSY := Lib.hid (ref0_size c d q hy)
  have HI32 := Lib.hid (show (Tryd.prog.info? 25).map (·.size) = some (cellsOf x).length from by rw [cellsOf_length, hx.1]; exact info_dr)
  have HXD := Lib.hid hx
  clear hx hy
  go_enter Tryd.func9, Tryd.ntmps9
  go_upto_region 1 with (fail)
  obtain ⟨g, hg⟩ : ∃ g, g = w.heap.size := ⟨_, rfl⟩
  refine gen_code (F := SBX w g 33 (refC a b true x)) (by
    rw [hg]
    exact ⟨RR.new _ _ _, (Below.refl _ w).alloc (Nat.le_refl _) _⟩) ?_
  rw [← hg]
  rintro w0 ⟨h0, h1⟩
  have HR0 := Lib.hid h0
  have HB0 := Lib.hid h1
  have k0 := h0.c0
  have k1 := h0.c1
  have k2 := h0.c2
  clear hg h0 h1
  go_upto_region 2 with (first | (refine wpList_load_mid (by rfl) 25 _ (by rfl) g 3 (by rfl) (cellsOf x) _ HR0.out.digAt Tryd.underlying25 (by rfl) HI32.out ?_) | (refine wpList_buildg 28 _ (by rfl) (by rfl) (refC a b true x) (by simp only [List.map_toArray, List.map_cons, List.map_nil]; exact HBU.out) ?_) | (refine wpList_store_row (by rfl) 28 _ _ (by rfl) w0.heap.size (refC a b true x) (by rfl) (by rfl) 28 ref0 (RR.new _ _ _) HIX.out HSX.out (refC_one _ _ _ _) ?_))
  obtain ⟨g5, hg5⟩ : ∃ g, g = w0.heap.size := ⟨_, rfl⟩
  refine gen_code (F := SBX w g5 28 (refC a b true x)) (by
    rw [hg5]
    exact ⟨(RR.new _ _ ref0).setRow, (HB0.out.alloc HB0.out.size _).setRow HB0.out.size _⟩) ?_
  have hg5w : w.heap.size ≤ g5 := by rw [hg5]; exact HB0.out.size
  rw [← hg5]
  rintro w1 ⟨h0, h1⟩
  have HR1 := Lib.hid h0
  have HB1 := Lib.hid h1
  clear hg5 h0 h1 k0 k1 k2 HR0 HB0
  go_upto_region 5 with (first | (refine wpList_load_row (by rfl) 28 _ (by rfl) g5 (by rfl) 28 (refC a b true x) (0, 0) _ HR1.out Tryd.underlying28 (by rfl) HIX.out ?_) | (go_at_call 19; (refine (HN.out _).mono ?_); rintro e w2 ⟨rfl, hb⟩; have HB2 := Lib.hid (HB1.out.trans (hb.mono HB1.out.size)); have HR2 := Lib.hid (HR1.out.below hb HR1.out.lt); clear hb) | (go_at_call 17; (refine (HR.out _).mono ?_); rintro e w3 ⟨rfl, hb⟩; have HB3 := Lib.hid (HB2.out.trans (hb.mono HB2.out.size)); have HR3 := Lib.hid (HR2.out.below hb HR2.out.lt); clear hb) | (refine wpList_store_row (by rfl) 28 _ _ (by rfl) w3.heap.size (refC a b true x) (by rfl) (by rfl) 28 ref0 (RR.new _ _ _) HIZ.out HSZ.out (refC_one _ _ _ _) ?_))
  obtain ⟨g8, hg8⟩ : ∃ g, g = w3.heap.size := ⟨_, rfl⟩
  refine gen_code (F := SB2 w g5 g8 (refC a b true x) (refC a b true x)) (by
    rw [hg8]
    have l3 := HR3.out.lt
    exact ⟨(HR3.out.below ((Below.refl w3.heap.size _).alloc (Nat.le_refl _) _) l3).other (by omega), (RR.new _ _ ref0).setRow, (HB3.out.alloc HB3.out.size _).setRow HB3.out.size _, by omega⟩) ?_
  rw [← hg8]
  intro w4 h4
  have H4 := Lib.hid h4
  have k2 := h4.1.c2
  clear h4 hg8
  go_upto_region 9 with (first | (refine wpList_loadg 28 _ (by rfl) (by rfl) (.pointer (some ⟨g8, 0, none⟩)) (by rfl) (.agg (refC a b true x)) (H4.out.2.1.load HIZ.out) ?_) | (refine wpList_loadg 28 _ (by rfl) (by rfl) (.pointer (some ⟨g5, 0, none⟩)) (by rfl) (.agg (refC a b true x)) (H4.out.1.load HIX.out) ?_) | (refine wpList_neqg7 28 _ _ _ (by rfl) (by rfl) (refC a b true x) (refC a b true x) (by rfl) (by rfl) HG.out true (HEQ.out _) ?_))
  refine gen_code (F := fun W => Below w.heap.size w W) (H4.out.2.2.1) ?_
  intro w9 h9
  have HB9 := Lib.hid h9
  clear h9
  go_upto_region 10 with (first | (go_at_call 17; (refine (HQ.out _).mono ?_); rintro e wa ⟨rfl, hb⟩; have HBa := Lib.hid (HB9.out.trans (hb.mono HB9.out.size)); clear hb) | (refine wpList_store_row (by rfl) 28 _ _ (by rfl) wa.heap.size (refC c d q y) (by rfl) (by rfl) 28 ref0 (RR.new _ _ _) HIY.out HSY.out (refC_one _ _ _ _) ?_))
  obtain ⟨ga, hga⟩ : ∃ g, g = wa.heap.size := ⟨_, rfl⟩
  refine gen_code (F := SBX w ga 28 (refC c d q y)) (by
    rw [hga]
    exact ⟨(RR.new _ _ ref0).setRow, (HBa.out.alloc HBa.out.size _).setRow HBa.out.size _⟩) ?_
  rw [← hga]
  rintro wb ⟨h0, h1⟩
  have HRb := Lib.hid h0
  have HBb := Lib.hid h1
  clear h0 h1 hga
  go_wp2_with (first | (refine wpList_load_row (by rfl) 28 _ (by rfl) ga (by rfl) 28 (refC c d q y) (0, 0) _ HRb.out Tryd.underlying28 (by rfl) HIY.out ?_) | (go_at_call 19; (refine (HV.out _).mono ?_); rintro e wc ⟨rfl, hb⟩; have HBc := Lib.hid (HBb.out.trans (hb.mono HBb.out.size)); clear hb) | (go_at_call 10; (refine (awake7_c _).mono ?_); rintro e wd ⟨rfl, hb⟩; have HBd := Lib.hid (HBc.out.trans (hb.mono HBc.out.size)); clear hb))
  all_goals (go_ret; exact ⟨ret_bool (by simp), HBd.out⟩)
end Go.Proofs.YtjoomfikfbbnmaaDoor
