/-
  The walk over the law of Parse.
-/
import Derived.Test.YtjoomfikfbbnmaaDoorNmk
namespace Go.Proofs.YtjoomfikfbbnmaaDoor
set_option linter.unusedVariables false
open Go.RowKit Go.Proofs.Nm
theorem prs_form (l : List UInt8) : ∃ (a b : List UInt8) (p : Bool) (x : List Nat) (n : Nat), D32 x ∧ prs l = (refC a b p x, n) := by
  have h0 : ∀ n : Nat, ∃ (a b : List UInt8) (p : Bool) (x : List Nat) (m : Nat), D32 x ∧ ((ref0, n) : Array Value × Nat) = (refC a b p x, m) := fun n => ⟨[], [], false, zs32, n, d32_zs, rfl⟩
  have h2 : ∀ a r o, ∃ (a' b : List UInt8) (p : Bool) (x : List Nat) (m : Nat), D32 x ∧ prs2 a r o = (refC a' b p x, m) := fun a r o => by
    cases o with
    | none => exact ⟨a, r, false, zs32, 0, d32_zs, rfl⟩
    | some r1 =>
      cases hz : pz (T r1) with
      | none =>
        have e : prs2 a r (some r1) = (ref0, 20) := by unfold prs2; simp only [hz]
        rw [e]
        exact h0 20
      | some d =>
        have e : prs2 a r (some r1) = (refC a r true d, 0) := by unfold prs2; simp only [hz]
        exact ⟨a, r, true, d, 0, pz_d32 hz, e⟩
  unfold prs
  split
  · unfold prs1
    split
    · exact h2 _ _ _
    · split
      · exact h2 _ _ _
      · exact h0 71
  · exact h0 70
theorem built_r4 (a b : List UInt8) (p : Bool) (x : List Nat) (hx : D32 x) : Tryd.prog.built 28 [(0, .string (T a)), (1, .string (T b)), (2, .bool p), (3, .agg (cellsOf x).toArray)] = some (refC a b p x) := by
  obtain ⟨f, rfl⟩ := list32n hx.1
  clear hx
  kernel_rfl
section
variable {P : Program} {ops : Array Oper} {Q : Exit → Act → World → Prop}
theorem wpList_buildg {rest : List Oper} {o : Oper} {a : Act} {w : World} (t : TypeId) (fs : Array (Nat × Operand)) (ho : o.op = .build t fs) (hw : Region.wanted o (yielded ops a.tmps) = true) (C : Array Value)
    (hb : P.built t (fs.map fun (i, z) => (i, a.eval z)).toList = some C) (h : wpList P ops Q rest (a.put o.dst (.agg C)) w) : wpList P ops Q (o :: rest) a w := by
  rw [wpList, if_pos hw]
  refine .inl ?_
  unfold Oper.wp execOp
  simp only [ho, Sem.run_bind, run_build w t _ _ hb, Result.andThen_ok, Sem.run_pure]
  exact h
end
theorem RR.digAt {g : Nat} {W : World} {t : TypeId} {a b : List UInt8} {p : Bool} {x : List Nat} (h : RR W g t (refC a b p x)) : W.rangeAt g 3 (cellsOf x) := fun j u hu => by
  rw [h.cellq, refC_list, List.getElem?_toArray, Nat.add_comm 3 j]
  exact hu
theorem und_dr : Tryd.prog.underlying 25 = some (.array 32 5) := Tryd.underlying25
theorem RR.ldDig {g : Nat} {W : World} {t : TypeId} {a b : List UInt8} {p : Bool} {x : List Nat} (h : RR W g t (refC a b p x)) (hx : D32 x) : (Instr.loadAt 25 (.pointer (some ⟨g, 3, none⟩))).run Tryd.prog W = .ok (.agg (cellsOf x).toArray) W := by
  simp only [Instr.loadAt, Instr.sureAddr, Sem.run_bind, Sem.run_pure, Result.andThen_ok, run_loadVar_mid W g 3 25 (cellsOf x) _ h.digAt und_dr rfl (by rw [cellsOf_length, hx.1]; exact info_dr)]
theorem RR.c0 {g : Nat} {W : World} {t : TypeId} {a b : List UInt8} {p : Bool} {x : List Nat} (h : RR W g t (refC a b p x)) : W.cell? ⟨g, 0, none⟩ = some (.string (T a)) := h.cellq 0
theorem RR.c1 {g : Nat} {W : World} {t : TypeId} {a b : List UInt8} {p : Bool} {x : List Nat} (h : RR W g t (refC a b p x)) : W.cell? ⟨g, 1, none⟩ = some (.string (T b)) := h.cellq 1
theorem RR.c2 {g : Nat} {W : World} {t : TypeId} {a b : List UInt8} {p : Bool} {x : List Nat} (h : RR W g t (refC a b p x)) : W.cell? ⟨g, 2, none⟩ = some (.bool p) := h.cellq 2
set_option maxRecDepth 100000 in
set_option maxHeartbeats 8000000 in
theorem reads7_l (l : List UInt8) (w : World) (hl : l.length ≤ 140737488351232) :
    Calls Tryd.prog 7 #[.string (T l)] w fun e w' => e = .returned (.bool true) ∧ Below w.heap.size w w' := by
  obtain ⟨a, b, p, x, n, hx, hv⟩ := prs_form l
  have H1 := fun W => nparse_c l W hl
  have H2 := fun W => rparse_c l W hl
  unfold PrsRet at H1 H2
  rw [hv] at H1 H2
  have HP := Lib.hid H1
  have HR := Lib.hid H2
  have HX := Lib.hid hx
  have HI1 := Lib.hid (show (Tryd.prog.info? 28).map (·.size) = some (refC a b p x).size from by rw [refC_size _ _ _ hx]; exact info_r1)
  have HI2 := Lib.hid (show (Tryd.prog.info? 33).map (·.size) = some (refC a b p x).size from by rw [refC_size _ _ _ hx]; exact info_r2)
  have HS := Lib.hid (show ref0.size = (refC a b p x).size from by rw [refC_size _ _ _ hx]; rfl)
  have HO := Lib.hid (refC_one a b p x)
  have HEQ := Lib.hid (fun W => eq_ref a b p x hx W)
  have HG := Lib.hid eqg_ref
  have HBU := Lib.hid (built_r4 a b p x hx)
  clear H1 H2 hv hx
  go_enter Tryd.func7, Tryd.ntmps7
  go_upto_region 2 with (first | (go_at_call 17; (refine (HP.out _).mono ?_); rintro e w1 ⟨rfl, hb⟩; have HB1 := Lib.hid hb; clear hb) | (refine wpList_store_row (by rfl) 28 _ _ (by rfl) w1.heap.size (refC a b p x) (by rfl) (by rfl) 28 ref0 (RR.new _ _ _) HI1.out HS.out HO.out ?_))
  obtain ⟨g, hg⟩ : ∃ g, g = w1.heap.size := ⟨_, rfl⟩
  refine gen_code (F := fun W => RR W g 28 (refC a b p x) ∧ Below w.heap.size w W) (by
    rw [hg]
    exact ⟨(RR.new _ _ ref0).setRow, (HB1.out.alloc HB1.out.size _).setRow HB1.out.size _⟩) ?_
  rw [← hg]
  rintro w2 ⟨h2, h3⟩
  have HR2 := Lib.hid h2
  have HB2 := Lib.hid h3
  clear hg h2 h3
  go_upto_region 3 with (first | (go_at_call 18; (refine (HR.out _).mono ?_); rintro e w3 ⟨rfl, hb⟩; have HB3 := Lib.hid hb; clear hb) | (refine wpList_store_row (by rfl) 33 _ _ (by rfl) w3.heap.size (refC a b p x) (by rfl) (by rfl) 33 ref0 (RR.new _ _ _) HI2.out HS.out HO.out ?_))
  obtain ⟨g2, hg2⟩ : ∃ g, g = w3.heap.size := ⟨_, rfl⟩
  refine gen_code (F := fun W => RR W g 28 (refC a b p x) ∧ RR W g2 33 (refC a b p x) ∧ Below w.heap.size w W) (by
    rw [hg2]
    have h4 := HR2.out.below HB3.out HR2.out.lt
    have hs := HB3.out.size
    exact ⟨(h4.below ((Below.refl w3.heap.size _).alloc (Nat.le_refl _) _) h4.lt).other (by have := h4.lt; omega), (RR.new _ _ ref0).setRow, ((HB2.out.trans (HB3.out.mono HB2.out.size)).alloc (Nat.le_trans HB2.out.size hs) _).setRow (Nat.le_trans HB2.out.size hs) _⟩) ?_
  rw [← hg2]
  rintro w4 ⟨h1, h2, h3⟩
  have HR4 := Lib.hid h1
  have HR5 := Lib.hid h2
  have HB4 := Lib.hid h3
  clear h1 h2 h3 hg2
  go_wp2_with (first | (go_at_call 10; (refine (awake7_c _).mono ?_); rintro e w5 ⟨rfl, hb⟩; have HB5 := Lib.hid hb; have HR6 := Lib.hid (HR4.out.below hb HR4.out.lt); have HR7 := Lib.hid (HR5.out.below hb HR5.out.lt); have k0 := HR7.out.c0; have k1 := HR7.out.c1; have k2 := HR7.out.c2; clear hb) | (refine wpList_loadg 28 _ (by rfl) (by rfl) (.pointer (some ⟨g, 0, none⟩)) (by rfl) (.agg (refC a b p x)) (HR6.out.load HI1.out) ?_) | (refine wpList_loadg 25 _ (by rfl) (by rfl) (.pointer (some ⟨g2, 3, none⟩)) (by rfl) (.agg (cellsOf x).toArray) (HR7.out.ldDig HX.out) ?_) | (refine wpList_buildg 28 _ (by rfl) (by rfl) (refC a b p x) (by simp only [List.map_toArray, List.map_cons, List.map_nil]; exact HBU.out) ?_) | (refine wpList_eqg 28 _ _ _ (by rfl) (by rfl) (refC a b p x) (refC a b p x) (by rfl) (by rfl) HG.out true (HEQ.out _) ?_))
  go_ret
  exact ⟨rfl, HB4.out.trans (HB5.out.mono HB4.out.size)⟩
theorem reads7_c (s : ByteArray) (w : World) (hs : s.size ≤ 140737488351232) :
    Calls Tryd.prog 7 #[.string s] w fun e w' => e = .returned (.bool true) ∧ Below w.heap.size w w' := reads7_l s.data.toList w hs
end Go.Proofs.YtjoomfikfbbnmaaDoor
