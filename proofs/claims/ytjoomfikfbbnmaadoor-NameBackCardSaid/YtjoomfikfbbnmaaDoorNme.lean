/-
  References are compared.
-/
import Derived.Test.YtjoomfikfbbnmaaDoorNmf
namespace Go.Proofs.YtjoomfikfbbnmaaDoor
set_option linter.unusedVariables false
open Go.RowKit Go.Proofs.Nm
theorem list32n {x : List Nat} (h : x.length = 32) : ∃ f : Nat → Nat, x = (List.range 32).map f := by
  refine ⟨fun i => x.getD i 0, ?_⟩
  apply List.ext_getElem?
  intro i
  by_cases hi : i < 32
  · rw [List.getElem?_map, List.getElem?_range hi, Option.map_some, List.getD_eq_getElem?_getD, List.getElem?_eq_getElem (by omega)]
    rfl
  · rw [List.getElem?_eq_none (by omega), List.getElem?_eq_none (by simp; omega)]
theorem part_a (a b : List UInt8) (p : Bool) (x : List Nat) (W : World) : (part 9 (refC a b p x) 0).run Tryd.prog W = .ok (.string (T a)) W := by kernel_rfl
theorem part_b (a b : List UInt8) (p : Bool) (x : List Nat) (W : World) : (part 9 (refC a b p x) 1).run Tryd.prog W = .ok (.string (T b)) W := by kernel_rfl
theorem part_p (a b : List UInt8) (p : Bool) (x : List Nat) (W : World) : (part 4 (refC a b p x) 2).run Tryd.prog W = .ok (.bool p) W := by kernel_rfl
theorem part_x (a b : List UInt8) (p : Bool) (x : List Nat) (hx : D32 x) (W : World) : (part 26 (refC a b p x) 3).run Tryd.prog W = .ok (.agg (cellsOf x).toArray) W := by
  obtain ⟨f, rfl⟩ := list32n hx.1
  clear hx
  kernel_rfl
noncomputable def fld (i : Nat) : Field := (Tryd.prog.fieldsOf 28).toList.getD i (Field.mk "" 0 0 false "" "" 0)
theorem flds : (Tryd.prog.fieldsOf 28).toList = [fld 0, fld 1, fld 2, fld 3] := by kernel_rfl
theorem fld_t : (fld 0).type = 9 ∧ (fld 1).type = 9 ∧ (fld 2).type = 4 ∧ (fld 3).type = 26 := ⟨by kernel_rfl, by kernel_rfl, by kernel_rfl, by kernel_rfl⟩
theorem fld_o : (fld 0).offset = 0 ∧ (fld 1).offset = 1 ∧ (fld 2).offset = 2 ∧ (fld 3).offset = 3 := ⟨by kernel_rfl, by kernel_rfl, by kernel_rfl, by kernel_rfl⟩
theorem fld_n : ∀ i, i < 4 → ((fld i).name ≠ "_") := fun i hi => by
  match i, hi with
  | 0, _ => rw [show (fld 0).name = "Repo" by kernel_rfl]; decide
  | 1, _ => rw [show (fld 1).name = "Tag" by kernel_rfl]; decide
  | 2, _ => rw [show (fld 2).name = "Pinned" by kernel_rfl]; decide
  | 3, _ => rw [show (fld 3).name = "Digest" by kernel_rfl]; decide
theorem eqFields_cons (d : Nat) (xs ys : Array Value) (f : Field) (fs : List Field) (W : World) (hn : f.name ≠ "_") (a b : Value) (ha : (part f.type xs f.offset).run Tryd.prog W = .ok a W) (hb : (part f.type ys f.offset).run Tryd.prog W = .ok b W) (r : Bool)
    (hr : (Op.equalIn d f.type a b).run Tryd.prog W = .ok r W) : (Op.eqFields d xs ys (f :: fs)).run Tryd.prog W = if r then (Op.eqFields d xs ys fs).run Tryd.prog W else .ok false W := by
  conv => lhs; unfold Op.eqFields
  rw [if_pos hn]
  simp only [Sem.run_bind, ha, hb, hr, Result.andThen_ok]
  cases r
  · rfl
  · rfl
theorem RR.load {W : World} {g : Nat} {C : Array Value} (h : RR W g 28 C) (hi : (Tryd.prog.info? 28).map (·.size) = some C.size) : (Instr.loadAt 28 (.pointer (some ⟨g, 0, none⟩))).run Tryd.prog W = .ok (.agg C) W := by
  simp only [Instr.loadAt, Instr.sureAddr, Sem.run_bind, Sem.run_pure, Result.andThen_ok, run_loadVar_row W g 28 28 C (0, 0) _ h Tryd.underlying28 rfl hi]
theorem beqT (a : List UInt8) : ((T a).toList == (T a).toList) = true := by simp
/-- a reference is itself -/
theorem eq_ref (a b : List UInt8) (p : Bool) (x : List Nat) (hx : D32 x) (W : World) : (Op.equalIn 10000 28 (.agg (refC a b p x)) (.agg (refC a b p x))).run Tryd.prog W = .ok true W := by
  rw [run_equalIn_agg W 9999 28 _ _ (by kernel_rfl) (by kernel_rfl), flds]
  obtain ⟨t0, t1, t2, t3⟩ := fld_t
  obtain ⟨o0, o1, o2, o3⟩ := fld_o
  rw [eqFields_cons 9999 _ _ _ _ W (fld_n 0 (by omega)) (.string (T a)) (.string (T a)) (by rw [t0, o0]; exact part_a a b p x W) (by rw [t0, o0]; exact part_a a b p x W) true (by rw [t0, run_equalIn_string W 9998 _ _ _ Tryd.underlying9, beqT]), if_pos rfl]
  rw [eqFields_cons 9999 _ _ _ _ W (fld_n 1 (by omega)) (.string (T b)) (.string (T b)) (by rw [t1, o1]; exact part_b a b p x W) (by rw [t1, o1]; exact part_b a b p x W) true (by rw [t1, run_equalIn_string W 9998 _ _ _ Tryd.underlying9, beqT]), if_pos rfl]
  rw [eqFields_cons 9999 _ _ _ _ W (fld_n 2 (by omega)) (.bool p) (.bool p) (by rw [t2, o2]; exact part_p a b p x W) (by rw [t2, o2]; exact part_p a b p x W) true (by rw [t2, run_equalIn_bool' W 9998 _ _ _ Tryd.underlying4]; simp), if_pos rfl]
  rw [eqFields_cons 9999 _ _ _ _ W (fld_n 3 (by omega)) (.agg (cellsOf x).toArray) (.agg (cellsOf x).toArray) (by rw [t3, o3]; exact part_x a b p x hx W) (by rw [t3, o3]; exact part_x a b p x hx W) true (by
    rw [t3]
    have h := run_equalIn_bytes W 9997 26 5 32 Tryd.underlying26 Tryd.underlying5 (fun w => sizeOf_u8 w) (x.map UInt8.ofNat) (x.map UInt8.ofNat) (by simp [hx.1]) (by simp [hx.1])
    rw [eq_cells x hx.2]
    rw [h]
    simp), if_pos rfl]
  rfl
theorem eqg_ref : Tryd.prog.eqGuardType Tryd.prog.depth 28 = false := by kernel_rfl
set_option maxRecDepth 100000 in
set_option maxHeartbeats 4000000 in
theorem awake7_c (w : World) : Calls Tryd.prog 10 #[] w fun e w' => e = .returned (.bool true) ∧ Below w.heap.size w w' := by
  have c1 : (cutL 64 [97, 47, 98, 45, 99, 58, 118, 49]) = ([97, 47, 98, 45, 99, 58, 118, 49], none) := by decide
  have c2 : (cutL 58 [97, 47, 98, 45, 99, 58, 118, 49]) = ([97, 47, 98, 45, 99], some [118, 49]) := by decide
  have c3 : (cutL 64 [97, 58]) = ([97, 58], none) := by decide
  have c4 : (cutL 58 [97, 58]) = ([97], some []) := by decide
  have k1 := fun W => cut_c [97, 47, 98, 45, 99, 58, 118, 49] 64 W (by decide)
  have k2 := fun W => cut_c [97, 47, 98, 45, 99, 58, 118, 49] 58 W (by decide)
  have k3 := fun W => cut_c [97, 58] 64 W (by decide)
  have k4 := fun W => cut_c [97, 58] 58 W (by decide)
  unfold cutV at k1 k2 k3 k4
  rw [c1] at k1
  rw [c2] at k2
  rw [c3] at k3
  rw [c4] at k4
  have r1 := fun W => repo_c [97, 47, 98, 45, 99] W (by decide)
  have r2 := fun W => repo_c [97] W (by decide)
  rw [show (goR 0 [97, 47, 98, 45, 99] && decide (([97, 47, 98, 45, 99] : List UInt8).length ≤ 128)) = true by decide] at r1
  rw [show (goR 0 [97] && decide (([97] : List UInt8).length ≤ 128)) = true by decide] at r2
  have t1 := fun W => tag_c [118, 49] W (by decide)
  have t2 := fun W => tag_c [] W (by decide)
  rw [show (isTagL [118, 49] && decide (([118, 49] : List UInt8).length ≤ 128)) = true by decide] at t1
  rw [show (isTagL [] && decide (([] : List UInt8).length ≤ 128)) = false by decide] at t2
  have H1 := Lib.hid (fun W => np_ok1 [97, 47, 98, 45, 99, 58, 118, 49] _ _ [97, 47, 98, 45, 99] [118, 49] W (Lib.hid k1) (Lib.hid k2) (Lib.hid r1) (Lib.hid t1) (Lib.hid fun W => clone_c _ W (by decide)) (Lib.hid fun W => clone_c _ W (by decide)))
  have H2 := Lib.hid (fun W => np_tag [97, 58] _ _ [97] [] _ W (Lib.hid k3) (Lib.hid k4) (Lib.hid r2) (Lib.hid t2))
  have m1 := fun W => media_c [97, 112, 112, 108, 105, 99, 97, 116, 105, 111, 110, 47, 118, 110, 100, 46, 120, 43, 106, 115, 111, 110] W (by decide)
  rw [show (mediaL [97, 112, 112, 108, 105, 99, 97, 116, 105, 111, 110, 47, 118, 110, 100, 46, 120, 43, 106, 115, 111, 110] && decide (([97, 112, 112, 108, 105, 99, 97, 116, 105, 111, 110, 47, 118, 110, 100, 46, 120, 43, 106, 115, 111, 110] : List UInt8).length ≤ 127)) = true by decide] at m1
  have HM := Lib.hid m1
  clear c1 c2 c3 c4 k1 k2 k3 k4 r1 r2 t1 t2 m1
  have HIC := Lib.hid (show ∀ a b : List UInt8, (Tryd.prog.info? 28).map (·.size) = some (refC a b false zs32).size from fun a b => by rw [refC_size _ _ _ d32_zs]; exact info_r1)
  obtain ⟨C1, hC1⟩ : ∃ C, C = refC [97, 47, 98, 45, 99] [118, 49] false zs32 := ⟨_, rfl⟩
  have HEQ := Lib.hid (fun W => eq_ref [97, 47, 98, 45, 99] [118, 49] false zs32 d32_zs W)
  have HI1 := Lib.hid (HIC.out [97, 47, 98, 45, 99] [118, 49])
  have HI0 := Lib.hid (HIC.out [] [])
  have HO1 := Lib.hid (refC_one [97, 47, 98, 45, 99] [118, 49] false zs32)
  have HS1 := Lib.hid (refC_size [97, 47, 98, 45, 99] [118, 49] false d32_zs)
  rw [← hC1] at H1 HEQ HI1 HO1 HS1
  have HC1 := Lib.hid hC1
  clear hC1 HIC
  have HG := Lib.hid eqg_ref
  go_enter Tryd.func10, Tryd.ntmps10
  go_upto_region 2 with (first | (go_at_call 17; (refine (H1.out _).mono ?_); rintro e w1 ⟨rfl, hb⟩; have HB1 := Lib.hid hb; clear hb) | (refine wpList_store_row (by rfl) 28 _ _ (by rfl) w1.heap.size C1 (by rfl) (by rfl) 28 ref0 (RR.new _ _ _) HI1.out (by rw [HS1.out]; rfl) HO1.out ?_))
  obtain ⟨g, hg⟩ : ∃ g, g = w1.heap.size := ⟨_, rfl⟩
  refine gen_code (F := fun W => RR W g 28 C1 ∧ Below w.heap.size w W) (by
    rw [hg]
    exact ⟨(RR.new _ _ ref0).setRow, (HB1.out.alloc HB1.out.size _).setRow HB1.out.size _⟩) ?_
  rw [← hg]
  rintro w2 ⟨h2, h3⟩
  have HR2 := Lib.hid h2
  have HB2 := Lib.hid h3
  clear hg h2 h3
  go_upto_region 3 with (first | (go_at_call 17; (refine (H2.out _).mono ?_); rintro e w3 ⟨rfl, hb⟩; have HB3 := Lib.hid hb; clear hb) | (refine wpList_store_row (by rfl) 28 _ _ (by rfl) w3.heap.size ref0 (by rfl) (by rfl) 28 ref0 (RR.new _ _ _) HI0.out rfl (refC_one _ _ _ _) ?_))
  refine gen_code (F := fun W => RR W g 28 C1 ∧ Below w.heap.size w W) (by
    have h4 := HR2.out.below HB3.out HR2.out.lt
    have hs := HB3.out.size
    exact ⟨(h4.below ((Below.refl w3.heap.size _).alloc (Nat.le_refl _) _) h4.lt).other (by have := h4.lt; omega), ((HB2.out.trans (HB3.out.mono HB2.out.size)).alloc (Nat.le_trans HB2.out.size hs) _).setRow (Nat.le_trans HB2.out.size hs) _⟩) ?_
  rintro w4 ⟨h2, h3⟩
  have HR4 := Lib.hid h2
  have HB4 := Lib.hid h3
  clear h2 h3
  go_wp2_with (first | (refine wpList_loadg 28 _ (by rfl) (by rfl) (.pointer (some ⟨g, 0, none⟩)) (by rfl) (.agg C1) (HR4.out.load HI1.out) ?_) | (refine wpList_eqg 28 _ _ _ (by rfl) (by rfl) C1 C1 (by rfl) (by rw [HC1.out]; rfl) HG.out true (HEQ.out _) ?_) | (go_at_call 15; (refine (HM.out _).mono ?_); rintro e w5 ⟨rfl, hb⟩; have HB5 := Lib.hid hb; clear hb))
  go_ret
  exact ⟨rfl, HB4.out.trans (HB5.out.mono HB4.out.size)⟩
end Go.Proofs.YtjoomfikfbbnmaaDoor
