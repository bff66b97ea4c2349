/-
  The walk over 'awake' of layer 3: the answers that the document fixes.
-/
import Derived.Test.YtlnblfdddellmaaDoorAnx
namespace Go.Proofs.YtlnblfdddellmaaDoor
open Go.RowKit
set_option linter.unusedVariables false
/-- sums of one number -/
def dX (n : Nat) : List Nat := n :: List.replicate 31 0
def dA : List Nat := dX 1
def dB : List Nat := dX 2
def dC : List Nat := dX 3
theorem d32_A : D32 dA := ⟨by decide, by decide⟩
theorem d32_B : D32 dB := ⟨by decide, by decide⟩
theorem d32_C : D32 dC := ⟨by decide, by decide⟩
def A3 (w : World) (x y z : List Nat) (W : World) : Prop := Brow W w.heap.size 32 x ∧ Brow W (w.heap.size + 1) 32 y ∧ Brow W (w.heap.size + 1 + 1) 32 z ∧ Below w.heap.size w W
theorem A3.new (w : World) (x y z : List Nat) : A3 w x y z (((w.alloc (.cells (cellsOf x).toArray 32)).alloc (.cells (cellsOf y).toArray 32)).alloc (.cells (cellsOf z).toArray 32)) :=
  ⟨(heap_new3 _ _ _ _).1, (heap_new3 _ _ _ _).2.1, (heap_new3 _ _ _ _).2.2, (((Below.refl _ _).alloc (Nat.le_refl _) _).alloc (by simp) _).alloc (by simp; omega) _⟩
theorem A3.below {w W W' : World} {x y z : List Nat} (h : A3 w x y z W) (hb : Below W.heap.size W W') : A3 w x y z W' :=
  ⟨h.1.below hb h.1.lt, h.2.1.below hb h.2.1.lt, h.2.2.1.below hb h.2.2.1.lt, h.2.2.2.trans (hb.mono h.2.2.2.size)⟩
theorem A3.set1 {w W : World} {x y z : List Nat} (h : A3 w x y z W) (q : List Nat) : A3 w q y z (W.setRow w.heap.size (cellsOf q).toArray) := by
  have o : Only w.heap.size W (W.setRow w.heap.size (cellsOf q).toArray) := (Only.refl _ _).setRow _
  exact ⟨h.1.setRow, h.2.1.only o (by omega), h.2.2.1.only o (by omega), h.2.2.2.trans (o.below (Nat.le_refl _) h.2.2.2.size)⟩
theorem A3.set2 {w W : World} {x y z : List Nat} (h : A3 w x y z W) (q : List Nat) : A3 w x q z (W.setRow (w.heap.size + 1) (cellsOf q).toArray) := by
  have o : Only (w.heap.size + 1) W (W.setRow (w.heap.size + 1) (cellsOf q).toArray) := (Only.refl _ _).setRow _
  exact ⟨h.1.only o (by omega), h.2.1.setRow, h.2.2.1.only o (by omega), h.2.2.2.trans (o.below (by omega) h.2.2.2.size)⟩
theorem A3.set3 {w W : World} {x y z : List Nat} (h : A3 w x y z W) (q : List Nat) : A3 w x y q (W.setRow (w.heap.size + 1 + 1) (cellsOf q).toArray) := by
  have o : Only (w.heap.size + 1 + 1) W (W.setRow (w.heap.size + 1 + 1) (cellsOf q).toArray) := (Only.refl _ _).setRow _
  exact ⟨h.1.only o (by omega), h.2.1.only o (by omega), h.2.2.1.setRow, h.2.2.2.trans (o.below (by omega) h.2.2.2.size)⟩
theorem half3 : Mk.half 3 = 2 := by decide
theorem half2 : Mk.half 2 = 1 := by decide
theorem root_AB (a b : List Nat) : rootS [a, b] = nodeS a b := by rw [rootS_more _ (by simp)]; simp only [List.length_cons, List.length_nil, Nat.zero_add, Nat.reduceAdd, half2, List.take_succ_cons, List.take_zero, List.drop_succ_cons, List.drop_zero, rootS_one]
theorem root_ABC (a b c : List Nat) : rootS [a, b, c] = nodeS (nodeS a b) c := by rw [rootS_more _ (by simp)]; simp only [List.length_cons, List.length_nil, Nat.zero_add, Nat.reduceAdd, half3, List.take_succ_cons, List.take_zero, List.drop_succ_cons, List.drop_zero, rootS_one, root_AB]
theorem path_ABC (a b c : List Nat) : pathS [a, b, c] 2 = [nodeS a b] := by
  unfold pathS
  rw [Mk.path_right _ _ _ _ (by simp) (by simp only [List.length_cons, List.length_nil, Nat.zero_add, Nat.reduceAdd, half3]; omega)]
  simp only [List.length_cons, List.length_nil, Nat.zero_add, Nat.reduceAdd, half3, List.take_succ_cons, List.take_zero, List.drop_succ_cons, List.drop_zero]
  rw [Mk.path_less _ _ _ _ (by simp)]
  have := root_AB a b
  unfold rootS at this
  rw [this]; rfl
theorem built3 : Tryd.prog.builtSlice 32 3 [(0, .agg (cellsOf dA).toArray), (1, .agg (cellsOf dB).toArray), (2, .agg (cellsOf dC).toArray)] = some (cellsOf [dA, dB, dC].flatten).toArray := by kernel_rfl
def c3 : Array Value := (cellsOf [dA, dB, dC].flatten).toArray
theorem wpList_lay3 {w : World} {ops : Array Oper} {rest : List Oper} {o : Oper} {a : Act} {Q : Exit → Act → World → Prop} (hgd : o.guard = none) (x y z : Operand)
    (ho : (o.dst, o.op) = (some 13, .buildSlice 28 3 #[(0, x), (1, y), (2, z)])) (hx : a.eval x = .agg (cellsOf dA).toArray) (hy : a.eval y = .agg (cellsOf dB).toArray) (hz : a.eval z = .agg (cellsOf dC).toArray)
    (h : wpList Tryd.prog ops Q rest (a.put (some 13) (.slice (some ⟨w.heap.size, 0, none⟩) 3 3)) (w.alloc (.cells c3 32))) : wpList Tryd.prog ops Q (o :: rest) a w :=
  Great.wpList_buildSliceTo hgd 28 32 3 _ (congrArg Prod.snd ho) w.heap.size rfl (some 13) (congrArg Prod.fst ho) Tryd.underlying28 c3 (by simp only [List.map_toArray, List.map_cons, List.map_nil, hx, hy, hz]; exact built3) h
theorem sum_nil_ne : (Sha.sum []) ≠ zs32 := by
  have : (Sha.sum []).getD 0 0 = 227 := by decide +kernel
  intro h
  rw [h] at this
  exact absurd this (by decide)
def AS (w : World) (g pb po : Nat) (p : List Nat) (W : World) : Prop := A3 w dA dB dC W ∧ DR W (some ⟨g, 0, none⟩) 3 [dA, dB, dC] ∧ DR W (some ⟨pb, po, none⟩) 1 [p]
theorem AS.step {w : World} {g pb po : Nat} {p : List Nat} {W W' : World} (h : AS w g pb po p W) (hb : Below W.heap.size W W') : AS w g pb po p W' :=
  ⟨h.1.below hb, h.2.1.below hb, h.2.2.below hb⟩
theorem dr_new (W : World) (E : TypeId) (ds : Ds) (h : ∀ d ∈ ds, D32 d) : DR (W.alloc (.cells (cellsOf ds.flatten).toArray E)) (some ⟨W.heap.size, 0, none⟩) ds.length ds := by
  refine ⟨rfl, h, by rw [flat_len ds h], fun z hz => ?_, .inr ⟨W.heap.size, 0, rfl, by simp, fun i hi => ?_⟩⟩
  · obtain ⟨d, hd1, hd2⟩ := List.mem_flatten.1 hz
    exact (h d hd1).2 z hd2
  · rw [Nat.zero_add, cell_of_row _ _ _ _ _ _ (heap_new _ _), List.getElem?_toArray]
    exact cellsOf_get _ _ (by rw [flat_len ds h]; exact hi)
theorem build_zero (W : World) : (Instr.build 32 #[]).run Tryd.prog W = .ok (.agg (cellsOf zs32).toArray) W := by kernel_rfl
set_option maxRecDepth 100000 in
set_option maxHeartbeats 4000000 in
theorem awake3_c (w : World) (ht : Tab w) : Calls Tryd.prog 6 #[] w fun e w' => e = .returned (.bool true) ∧ Below w.heap.size w w' := by
  have HT := Lib.hid ht
  have hpos := ht.pos
  have HIA := Lib.hid (info32 dtA d32_A)
  have HIB := Lib.hid (info32 dtA d32_B)
  have HIC := Lib.hid (info32 dtA d32_C)
  have HZA := Lib.hid (zsize d32_A)
  have HZB := Lib.hid (zsize d32_B)
  have HZC := Lib.hid (zsize d32_C)
  clear ht
  go_enter Tryd.func6, Tryd.ntmps6
  go_upto_region 2 with (first | (refine wpList_store_row (by rfl) 32 _ _ (by rfl) w.heap.size (cellsOf dA).toArray (by rfl) (by rfl) 32 (cellsOf zs32).toArray (by exact (A3.new w zs32 zs32 zs32).1) HIA.out HZA.out (cellsOf_all _) ?_; refine gen_world (F := A3 w dA zs32 zs32) ((A3.new w zs32 zs32 zs32).set1 dA) ?_; intro wz hz; have HW := Lib.hid hz; clear hz) | (refine wpList_store_row (by rfl) 32 _ _ (by rfl) (w.heap.size + 1) (cellsOf dB).toArray (by rfl) (by rfl) 32 (cellsOf zs32).toArray HW.out.2.1 HIB.out HZB.out (cellsOf_all _) ?_; refine gen_world (F := A3 w dA dB zs32) (HW.out.set2 dB) ?_; intro wy hz; have HV := Lib.hid hz; clear hz HW) | (refine wpList_store_row (by rfl) 32 _ _ (by rfl) (w.heap.size + 1 + 1) (cellsOf dC).toArray (by rfl) (by rfl) 32 (cellsOf zs32).toArray HV.out.2.2.1 HIC.out HZC.out (cellsOf_all _) ?_; refine gen_world (F := A3 w dA dB dC) (HV.out.set3 dC) ?_; intro wx hz; have HU := Lib.hid hz; clear hz HV))
  go_wp2_with (first | (refine wpList_load_row (by rfl) 32 _ (by rfl) w.heap.size (by rfl) _ (cellsOf dA).toArray (0, 0) _ HU.out.1 Tryd.underlying32 (by rfl) HIA.out ?_) | (refine wpList_load_row (by rfl) 32 _ (by rfl) (w.heap.size + 1) (by rfl) _ (cellsOf dB).toArray (0, 0) _ HU.out.2.1 Tryd.underlying32 (by rfl) HIB.out ?_) | (refine wpList_load_row (by rfl) 32 _ (by rfl) (w.heap.size + 1 + 1) (by rfl) _ (cellsOf dC).toArray (0, 0) _ HU.out.2.2.1 Tryd.underlying32 (by rfl) HIC.out ?_) | (refine wpList_lay3 (by rfl) (.tmp 10) (.tmp 11) (.tmp 12) (by rfl) (by rfl) (by rfl) (by rfl) ?_))
  have hds : ∀ d ∈ [dA, dB, dC], D32 d := by
    intro d hd
    simp only [List.mem_cons, List.not_mem_nil, or_false] at hd
    rcases hd with rfl | rfl | rfl
    · exact d32_A
    · exact d32_B
    · exact d32_C
  refine gen_calls (F := fun W => A3 w dA dB dC W ∧ DR W (some ⟨wx.heap.size, 0, none⟩) 3 [dA, dB, dC]) ⟨HU.out.below ((Below.refl _ _).alloc (Nat.le_refl _) _), dr_new wx 32 [dA, dB, dC] hds⟩ ?_
  rintro w1 ⟨ha, hl⟩
  obtain ⟨g, hg⟩ : ∃ g, g = wx.heap.size := ⟨_, rfl⟩
  rw [← hg] at hl ⊢
  have HL := Lib.hid hl
  have HA := Lib.hid ha
  have HDS := Lib.hid hds
  clear hl ha hg HU hds
  refine (Path_ok 3 2 [dA, dB, dC] (some ⟨g, 0, none⟩) 3 w1 (by omega) HL.out (by omega) (by omega) (by omega) (HT.out.below HA.out.2.2.2 hpos)).mono ?_
  rintro e2 w2 ⟨v, rfl, hov, hb2⟩
  rw [path_ABC] at hov
  obtain ⟨P, hP⟩ : ∃ P, P = nodeS dA dB := ⟨_, rfl⟩
  have HP := Lib.hid (show D32 P from by rw [hP]; exact d32_sum _)
  rw [← hP] at hov
  obtain ⟨va, pc, rfl, hvc, _, _, hvr⟩ := hov.dr (by intro d hd; simp only [List.mem_singleton] at hd; subst hd; exact HP.out)
  have HVR := Lib.hid (show DR w2 va 1 [P] from hvr)
  obtain ⟨pb, po, rfl, _, _⟩ := hvr.at 0 (by simp)
  have HPE := Lib.hid hP
  obtain ⟨R, hR⟩ : ∃ R, R = nodeS P dC := ⟨_, rfl⟩
  obtain ⟨E, hE⟩ : ∃ E, E = Sha.sum [] := ⟨_, rfl⟩
  have HR := Lib.hid (show D32 R from by rw [hR]; exact d32_sum _)
  have HE := Lib.hid (show D32 E from by rw [hE]; exact d32_sum _)
  have HRE0 := Lib.hid hR
  have HEE0 := Lib.hid hE
  have HA2 := Lib.hid (HA.out.below hb2)
  have HL2 := Lib.hid (HL.out.below hb2)
  have HS := Lib.hid (show AS w g pb po P w2.drew from ⟨⟨HA2.out.1.drew, HA2.out.2.1.drew, HA2.out.2.2.1.drew, HA2.out.2.2.2.drew⟩, HL2.out, HVR.out⟩)
  clear hov hb2 hP hR hE hvr hvc
  simp only [List.length_singleton]
  go_upto_region 4 with fail
  (try dsimp only [Act.put, List.setIfInBounds_toArray, List.set_cons_zero, List.set_cons_succ])
  have HT' := Lib.hid (show ∀ W, AS w g pb po P W → Tab W from fun W hW => HT.out.below hW.1.2.2.2 hpos)
  have HR3 := Lib.hid (show ∀ W, AS w g pb po P W → Calls Tryd.prog 32 #[.slice (some ⟨g, 0, none⟩) 3 3] W (DigRet R W) from fun W hW => by
    have := root_c 3 _ _ 3 W hW.2.1 (by omega) (by omega) (HT'.out W hW)
    rw [root_ABC, ← HPE.out, ← HRE0.out] at this
    exact this)
  have HN1 := Lib.hid (show ∀ W, AS w g pb po P W → Calls Tryd.prog 33 #[.agg (cellsOf dA).toArray, .agg (cellsOf dB).toArray] W (DigRet P W) from fun W hW => by rw [HPE.out]; exact node_c dA dB W d32_A d32_B (HT'.out W hW))
  have HN2 := Lib.hid (show ∀ W, AS w g pb po P W → Calls Tryd.prog 33 #[.agg (cellsOf P).toArray, .agg (cellsOf dC).toArray] W (DigRet R W) from fun W hW => by rw [HRE0.out]; exact node_c P dC W HP.out d32_C (HT'.out W hW))
  have HRE := Lib.hid (show ∀ W, AS w g pb po P W → Calls Tryd.prog 32 #[.slice none 0 0] W (DigRet E W) from fun W hW => by rw [HEE0.out, ← rootS_nil]; exact root_c 0 [] none 0 W (DR.nil W) (by omega) (by omega) (HT'.out W hW))
  have HL1 := Lib.hid (fun W (hW : AS w g pb po P W) => run_dload dtA W w.heap.size 0 dA d32_A hW.1.1.range)
  have HL2 := Lib.hid (fun W (hW : AS w g pb po P W) => run_dload dtA W (w.heap.size + 1) 0 dB d32_B hW.1.2.1.range)
  have HL3 := Lib.hid (fun W (hW : AS w g pb po P W) => run_dload dtA W (w.heap.size + 1 + 1) 0 dC d32_C hW.1.2.2.1.range)
  have HLP := Lib.hid (fun W (hW : AS w g pb po P W) => run_dload dtA W pb (po + 0 * 32) P HP.out (by
    obtain ⟨b, o, h1, _, h3⟩ := hW.2.2.at 0 (by omega)
    simp only [Option.some.injEq, Addr.mk.injEq, and_true] at h1
    obtain ⟨rfl, rfl⟩ := h1
    simpa using h3))
  have HER := Lib.hid (fun W => eqD dtA W HR.out)
  have HEP := Lib.hid (fun W => eqD dtA W HP.out)
  have HEE := Lib.hid (show ∀ W, (Op.equalIn 10000 32 (.agg (cellsOf E).toArray) (.agg (cellsOf zs32).toArray)).run Tryd.prog W = .ok false W from fun W => by
    have := eqDD dtA W HE.out (show D32 zs32 from ⟨zs32_len, by decide⟩)
    rw [this, HEE0.out, decide_eq_false sum_nil_ne])
  have HGT := Lib.hid (show Tryd.prog.eqGuardType Tryd.prog.depth 32 = false by kernel_rfl)
  have HIX := Lib.hid (fun W => run_dindex dtA W pb po 1 pc 0 (by omega))
  have HBZ := Lib.hid build_zero
  clear HA HL HA2
  refine anyH_begin (S := AS w g pb po P) (by kernel_rfl) ?_
  refine anyH_pureG 0 (d := 19) (op := .move (.tmp 4)) (gd := none) (.slice (some ⟨g, 0, none⟩) 3 3) (by rfl) (fun o ho => wanted_plain ho _) (by kernel_rfl) (by kernel_rfl) (by kernel_rfl) (fun _ _ _ h => h) (fun o ho W hW => by unfold execOp; simp only [ho]; go_simp) HS.out ?_
  simp only [Act.put, List.setIfInBounds_toArray, List.set_cons_zero, List.set_cons_succ]
  refine anyH_loadG 2 (d := 21) (ty := 32) (x := (.tmp 1)) (gd := none) (p := .pointer (some ⟨w.heap.size, 0, none⟩)) (.agg (cellsOf dA).toArray) (by rfl) (fun o ho => wanted_plain ho _) (by kernel_rfl) (by kernel_rfl) (by kernel_rfl) (fun _ _ _ h => h) (by rfl) HL1.out HS.out ?_
  simp only [Act.put, List.setIfInBounds_toArray, List.set_cons_zero, List.set_cons_succ]
  refine anyH_loadG 3 (d := 22) (ty := 32) (x := (.tmp 2)) (gd := none) (p := .pointer (some ⟨w.heap.size + 1, 0, none⟩)) (.agg (cellsOf dB).toArray) (by rfl) (fun o ho => wanted_plain ho _) (by kernel_rfl) (by kernel_rfl) (by kernel_rfl) (fun _ _ _ h => h) (by rfl) HL2.out HS.out ?_
  simp only [Act.put, List.setIfInBounds_toArray, List.set_cons_zero, List.set_cons_succ]
  refine anyH_loadG 5 (d := 24) (ty := 32) (x := (.tmp 3)) (gd := none) (p := .pointer (some ⟨w.heap.size + 1 + 1, 0, none⟩)) (.agg (cellsOf dC).toArray) (by rfl) (fun o ho => wanted_plain ho _) (by kernel_rfl) (by kernel_rfl) (by kernel_rfl) (fun _ _ _ h => h) (by rfl) HL3.out HS.out ?_
  simp only [Act.put, List.setIfInBounds_toArray, List.set_cons_zero, List.set_cons_succ]
  refine anyH_callG 1 (d := some 20) (f := 32) (xs := #[(.tmp 19)]) (ts := #[28]) (gd := none) (vs := #[.slice (some ⟨g, 0, none⟩) 3 3]) (by kernel_rfl) (by rfl) (fun o ho => wanted_plain ho _) (by go_simp) (by go_simp) (HR3.out _ HS.out) ?_
  rintro e91 w91 ⟨rfl, hb91⟩
  refine ⟨_, rfl, HS.out.step hb91, fun hS91 => ?_⟩
  have HS := Lib.hid hS91
  clear hS91 hb91
  simp only [Act.put, List.setIfInBounds_toArray, List.set_cons_zero, List.set_cons_succ]
  refine anyH_callG 4 (d := some 23) (f := 33) (xs := #[(.tmp 21), (.tmp 22)]) (ts := #[32, 32]) (gd := none) (vs := #[.agg (cellsOf dA).toArray, .agg (cellsOf dB).toArray]) (by kernel_rfl) (by rfl) (fun o ho => wanted_plain ho _) (by go_simp) (by go_simp) (HN1.out _ HS.out) ?_
  rintro e92 w92 ⟨rfl, hb92⟩
  refine ⟨_, rfl, HS.out.step hb92, fun hS92 => ?_⟩
  have HS := Lib.hid hS92
  clear hS92 hb92
  simp only [Act.put, List.setIfInBounds_toArray, List.set_cons_zero, List.set_cons_succ]
  refine anyH_callG 6 (d := some 25) (f := 33) (xs := #[(.tmp 23), (.tmp 24)]) (ts := #[32, 32]) (gd := none) (vs := #[.agg (cellsOf P).toArray, .agg (cellsOf dC).toArray]) (by kernel_rfl) (by rfl) (fun o ho => wanted_plain ho _) (by go_simp) (by go_simp) (HN2.out _ HS.out) ?_
  rintro e93 w93 ⟨rfl, hb93⟩
  refine ⟨_, rfl, HS.out.step hb93, fun hS93 => ?_⟩
  have HS := Lib.hid hS93
  clear hS93 hb93
  simp only [Act.put, List.setIfInBounds_toArray, List.set_cons_zero, List.set_cons_succ]
  refine anyH_eqG 7 (d := 26) (t := 32) (t' := 32) (x := (.tmp 20)) (y := (.tmp 25)) (gd := none) ((cellsOf R).toArray) ((cellsOf R).toArray) true (by rfl) (fun o ho => wanted_plain ho _) (by kernel_rfl) (by kernel_rfl) (by kernel_rfl) (fun _ _ _ h => h) (by rfl) (by rfl) HGT.out HER.out HS.out ?_
  simp only [Act.put, List.setIfInBounds_toArray, List.set_cons_zero, List.set_cons_succ]
  refine anyH_pureG 8 (d := 27) (op := .move (.tmp 26)) (gd := none) (.bool true) (by rfl) (fun o ho => wanted_plain ho _) (by kernel_rfl) (by kernel_rfl) (by kernel_rfl) (fun _ _ _ h => h) (fun o ho W hW => by unfold execOp; simp only [ho]; go_simp) HS.out ?_
  simp only [Act.put, List.setIfInBounds_toArray, List.set_cons_zero, List.set_cons_succ]
  refine anyH_pureG 9 (d := 28) (op := .move (.tmp 6)) (gd := some (8, true)) (.int .i64 0) (by rfl) (fun o ho => by simp only [Region.wanted, ho]; rfl) (by kernel_rfl) (by kernel_rfl) (by kernel_rfl) (fun _ _ _ h => h) (fun o ho W hW => by unfold execOp; simp only [ho]; go_simp) HS.out ?_
  simp only [Act.put, List.setIfInBounds_toArray, List.set_cons_zero, List.set_cons_succ]
  refine anyH_pureG 10 (d := 29) (op := .binOp .eql 38 (.tmp 28) (.const (.int .i64 0)) 38) (gd := some (8, true)) (.bool true) (by rfl) (fun o ho => by simp only [Region.wanted, ho]; rfl) (by kernel_rfl) (by kernel_rfl) (by kernel_rfl) (fun _ _ _ h => h) (fun o ho W hW => by unfold execOp; simp only [ho]; go_simp) HS.out ?_
  simp only [Act.put, List.setIfInBounds_toArray, List.set_cons_zero, List.set_cons_succ]
  refine anyH_pureG 11 (d := 30) (op := .pick (.tmp 27) (.tmp 29) (.const (.bool false))) (gd := none) (.bool true) (by rfl) (fun o ho => wanted_plain ho _) (by kernel_rfl) (by kernel_rfl) (by kernel_rfl) (fun _ _ _ h => h) (fun o ho W hW => by unfold execOp; simp only [ho]; go_simp) HS.out ?_
  simp only [Act.put, List.setIfInBounds_toArray, List.set_cons_zero, List.set_cons_succ]
  refine anyH_pureG 12 (d := 31) (op := .move (.tmp 30)) (gd := none) (.bool true) (by rfl) (fun o ho => wanted_plain ho _) (by kernel_rfl) (by kernel_rfl) (by kernel_rfl) (fun _ _ _ h => h) (fun o ho W hW => by unfold execOp; simp only [ho]; go_simp) HS.out ?_
  simp only [Act.put, List.setIfInBounds_toArray, List.set_cons_zero, List.set_cons_succ]
  refine anyH_pureG 13 (d := 32) (op := .move (.tmp 5)) (gd := some (12, true)) (.slice (some ⟨pb, po, none⟩) 1 pc) (by rfl) (fun o ho => by simp only [Region.wanted, ho]; rfl) (by kernel_rfl) (by kernel_rfl) (by kernel_rfl) (fun _ _ _ h => h) (fun o ho W hW => by unfold execOp; simp only [ho]; go_simp) HS.out ?_
  simp only [Act.put, List.setIfInBounds_toArray, List.set_cons_zero, List.set_cons_succ]
  refine anyH_pureG 14 (d := 33) (op := .call { callee := .builtin .len, args := #[(.tmp 32)], argTypes := #[28] }) (gd := some (12, true)) (.int .i64 1) (by rfl) (fun o ho => by simp only [Region.wanted, ho]; rfl) (by kernel_rfl) (by kernel_rfl) (by kernel_rfl) (fun _ _ _ h => h) (fun o ho W hW => by unfold execOp; simp only [ho]; go_simp) HS.out ?_
  simp only [Act.put, List.setIfInBounds_toArray, List.set_cons_zero, List.set_cons_succ]
  refine anyH_pureG 15 (d := 34) (op := .binOp .eql 3 (.tmp 33) (.const (.int .i64 1)) 3) (gd := some (12, true)) (.bool true) (by rfl) (fun o ho => by simp only [Region.wanted, ho]; rfl) (by kernel_rfl) (by kernel_rfl) (by kernel_rfl) (fun _ _ _ h => h) (fun o ho W hW => by unfold execOp; simp only [ho]; go_simp) HS.out ?_
  simp only [Act.put, List.setIfInBounds_toArray, List.set_cons_zero, List.set_cons_succ]
  refine anyH_pureG 16 (d := 35) (op := .pick (.tmp 31) (.tmp 34) (.const (.bool false))) (gd := none) (.bool true) (by rfl) (fun o ho => wanted_plain ho _) (by kernel_rfl) (by kernel_rfl) (by kernel_rfl) (fun _ _ _ h => h) (fun o ho W hW => by unfold execOp; simp only [ho]; go_simp) HS.out ?_
  simp only [Act.put, List.setIfInBounds_toArray, List.set_cons_zero, List.set_cons_succ]
  refine anyH_pureG 17 (d := 36) (op := .move (.tmp 35)) (gd := none) (.bool true) (by rfl) (fun o ho => wanted_plain ho _) (by kernel_rfl) (by kernel_rfl) (by kernel_rfl) (fun _ _ _ h => h) (fun o ho W hW => by unfold execOp; simp only [ho]; go_simp) HS.out ?_
  simp only [Act.put, List.setIfInBounds_toArray, List.set_cons_zero, List.set_cons_succ]
  refine anyH_pureG 18 (d := 37) (op := .move (.tmp 5)) (gd := some (17, true)) (.slice (some ⟨pb, po, none⟩) 1 pc) (by rfl) (fun o ho => by simp only [Region.wanted, ho]; rfl) (by kernel_rfl) (by kernel_rfl) (by kernel_rfl) (fun _ _ _ h => h) (fun o ho W hW => by unfold execOp; simp only [ho]; go_simp) HS.out ?_
  simp only [Act.put, List.setIfInBounds_toArray, List.set_cons_zero, List.set_cons_succ]
  refine anyH_pureG 19 (d := 38) (op := .indexAddr 28 (.tmp 37) (.const (.int .i64 0))) (gd := some (17, true)) (.pointer (some ⟨pb, po + 0 * 32, none⟩)) (by rfl) (fun o ho => by simp only [Region.wanted, ho]; rfl) (by kernel_rfl) (by kernel_rfl) (by kernel_rfl) (fun _ _ _ h => h) (fun o ho W hW => by unfold execOp; simp only [ho, Sem.run_bind, Sem.run_pure]; exact Eq.trans (congrArg (fun r => Result.andThen r (fun v W1 => .ok (Next.value v) W1)) (HIX.out W)) rfl) HS.out ?_
  simp only [Act.put, List.setIfInBounds_toArray, List.set_cons_zero, List.set_cons_succ]
  refine anyH_loadG 20 (d := 39) (ty := 32) (x := (.tmp 38)) (gd := some (17, true)) (p := .pointer (some ⟨pb, po + 0 * 32, none⟩)) (.agg (cellsOf P).toArray) (by rfl) (fun o ho => by simp only [Region.wanted, ho]; rfl) (by kernel_rfl) (by kernel_rfl) (by kernel_rfl) (fun _ _ _ h => h) (by rfl) HLP.out HS.out ?_
  simp only [Act.put, List.setIfInBounds_toArray, List.set_cons_zero, List.set_cons_succ]
  refine anyH_loadG 21 (d := 40) (ty := 32) (x := (.tmp 1)) (gd := some (17, true)) (p := .pointer (some ⟨w.heap.size, 0, none⟩)) (.agg (cellsOf dA).toArray) (by rfl) (fun o ho => by simp only [Region.wanted, ho]; rfl) (by kernel_rfl) (by kernel_rfl) (by kernel_rfl) (fun _ _ _ h => h) (by rfl) HL1.out HS.out ?_
  simp only [Act.put, List.setIfInBounds_toArray, List.set_cons_zero, List.set_cons_succ]
  refine anyH_loadG 22 (d := 41) (ty := 32) (x := (.tmp 2)) (gd := some (17, true)) (p := .pointer (some ⟨w.heap.size + 1, 0, none⟩)) (.agg (cellsOf dB).toArray) (by rfl) (fun o ho => by simp only [Region.wanted, ho]; rfl) (by kernel_rfl) (by kernel_rfl) (by kernel_rfl) (fun _ _ _ h => h) (by rfl) HL2.out HS.out ?_
  simp only [Act.put, List.setIfInBounds_toArray, List.set_cons_zero, List.set_cons_succ]
  refine anyH_callG 23 (d := some 42) (f := 33) (xs := #[(.tmp 40), (.tmp 41)]) (ts := #[32, 32]) (gd := some (17, true)) (vs := #[.agg (cellsOf dA).toArray, .agg (cellsOf dB).toArray]) (by kernel_rfl) (by rfl) (fun o ho => by simp only [Region.wanted, ho]; rfl) (by go_simp) (by go_simp) (HN1.out _ HS.out) ?_
  rintro e94 w94 ⟨rfl, hb94⟩
  refine ⟨_, rfl, HS.out.step hb94, fun hS94 => ?_⟩
  have HS := Lib.hid hS94
  clear hS94 hb94
  simp only [Act.put, List.setIfInBounds_toArray, List.set_cons_zero, List.set_cons_succ]
  refine anyH_eqG 24 (d := 43) (t := 32) (t' := 32) (x := (.tmp 39)) (y := (.tmp 42)) (gd := some (17, true)) ((cellsOf P).toArray) ((cellsOf P).toArray) true (by rfl) (fun o ho => by simp only [Region.wanted, ho]; rfl) (by kernel_rfl) (by kernel_rfl) (by kernel_rfl) (fun _ _ _ h => h) (by rfl) (by rfl) HGT.out HEP.out HS.out ?_
  simp only [Act.put, List.setIfInBounds_toArray, List.set_cons_zero, List.set_cons_succ]
  refine anyH_pureG 25 (d := 44) (op := .pick (.tmp 36) (.tmp 43) (.const (.bool false))) (gd := none) (.bool true) (by rfl) (fun o ho => wanted_plain ho _) (by kernel_rfl) (by kernel_rfl) (by kernel_rfl) (fun _ _ _ h => h) (fun o ho W hW => by unfold execOp; simp only [ho]; go_simp) HS.out ?_
  simp only [Act.put, List.setIfInBounds_toArray, List.set_cons_zero, List.set_cons_succ]
  refine anyH_pureG 26 (d := 45) (op := .move (.tmp 44)) (gd := none) (.bool true) (by rfl) (fun o ho => wanted_plain ho _) (by kernel_rfl) (by kernel_rfl) (by kernel_rfl) (fun _ _ _ h => h) (fun o ho W hW => by unfold execOp; simp only [ho]; go_simp) HS.out ?_
  simp only [Act.put, List.setIfInBounds_toArray, List.set_cons_zero, List.set_cons_succ]
  refine anyH_pureG 28 (d := 47) (op := .build 32 #[]) (gd := some (26, true)) (.agg (cellsOf zs32).toArray) (by rfl) (fun o ho => by simp only [Region.wanted, ho]; rfl) (by kernel_rfl) (by kernel_rfl) (by kernel_rfl) (fun _ _ _ h => h) (fun o ho W hW => by unfold execOp; simp only [ho, Sem.run_bind, Sem.run_pure, List.map_toArray, List.map_nil]; exact Eq.trans (congrArg (fun r => Result.andThen r (fun v W1 => .ok (Next.value v) W1)) (HBZ.out W)) rfl) HS.out ?_
  simp only [Act.put, List.setIfInBounds_toArray, List.set_cons_zero, List.set_cons_succ]
  refine anyH_callG 27 (d := some 46) (f := 32) (xs := #[(.const (.slice none 0 0))]) (ts := #[28]) (gd := some (26, true)) (vs := #[(.slice none 0 0)]) (by kernel_rfl) (by rfl) (fun o ho => by simp only [Region.wanted, ho]; rfl) (by go_simp) (by go_simp) (HRE.out _ HS.out) ?_
  rintro e95 w95 ⟨rfl, hb95⟩
  refine ⟨_, rfl, HS.out.step hb95, fun hS95 => ?_⟩
  have HS := Lib.hid hS95
  clear hS95 hb95
  simp only [Act.put, List.setIfInBounds_toArray, List.set_cons_zero, List.set_cons_succ]
  refine anyH_neqG 29 (d := 48) (t := 32) (t' := 32) (x := (.tmp 46)) (y := (.tmp 47)) (gd := some (26, true)) ((cellsOf E).toArray) ((cellsOf zs32).toArray) false (by rfl) (fun o ho => by simp only [Region.wanted, ho]; rfl) (by kernel_rfl) (by kernel_rfl) (by kernel_rfl) (fun _ _ _ h => h) (by rfl) (by rfl) HGT.out HEE.out HS.out ?_
  simp only [Act.put, List.setIfInBounds_toArray, List.set_cons_zero, List.set_cons_succ]
  refine anyH_pureG 30 (d := 49) (op := .pick (.tmp 45) (.tmp 48) (.const (.bool false))) (gd := none) (.bool true) (by rfl) (fun o ho => wanted_plain ho _) (by kernel_rfl) (by kernel_rfl) (by kernel_rfl) (fun _ _ _ h => h) (fun o ho W hW => by unfold execOp; simp only [ho]; go_simp) HS.out ?_
  simp only [Act.put, List.setIfInBounds_toArray, List.set_cons_zero, List.set_cons_succ]
  refine anyH_pureG 31 (d := 0) (op := .assign (.tmp 49)) (gd := none) (.bool true) (by rfl) (fun o ho => wanted_plain ho _) (by kernel_rfl) (by kernel_rfl) (by kernel_rfl) (fun _ _ _ h => h) (fun o ho W hW => by unfold execOp; simp only [ho]; go_simp) HS.out ?_
  simp only [Act.put, List.setIfInBounds_toArray, List.set_cons_zero]
  refine wpAnyH_done (by kernel_rfl) ?_ _
  go_wp2
  go_ret
  exact ⟨rfl, HS.out.1.2.2.2⟩
end Go.Proofs.YtlnblfdddellmaaDoor
