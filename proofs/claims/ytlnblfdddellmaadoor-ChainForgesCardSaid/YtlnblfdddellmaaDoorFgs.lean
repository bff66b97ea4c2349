/-
  The walk over ChainForges.
-/
import Derived.Test.YtlnblfdddellmaaDoorMts
namespace Go.Proofs.YtlnblfdddellmaaDoor
open Go.RowKit
set_option linter.unusedVariables false
/-- what was laid since w, all below F -/
def RF (w : World) (F : Nat) (l : List (Nat × TypeId × List Nat)) (W : World) : Prop := Below w.heap.size w W ∧ (∀ p ∈ l, p.1 < F ∧ Brow W p.1 p.2.1 p.2.2) ∧ F ≤ W.heap.size ∧ w.heap.size ≤ F
theorem RF.below {w W W' : World} {F : Nat} {l : List (Nat × TypeId × List Nat)} (h : RF w F l W) (hb : Below W.heap.size W W') : RF w F l W' :=
  ⟨h.1.trans (hb.mono h.1.size), fun p hp => ⟨(h.2.1 p hp).1, (h.2.1 p hp).2.below hb (h.2.1 p hp).2.lt⟩, Nat.le_trans h.2.2.1 hb.size, h.2.2.2⟩
theorem RF.drew {w W : World} {F : Nat} {l : List (Nat × TypeId × List Nat)} (h : RF w F l W) : RF w F l W.drew := ⟨h.1.drew, fun p hp => ⟨(h.2.1 p hp).1, (h.2.1 p hp).2.drew⟩, h.2.2⟩
theorem RF.only {w W W' : World} {F g : Nat} {l : List (Nat × TypeId × List Nat)} (h : RF w F l W) (ho : Only g W W') (hg : F ≤ g) : RF w F l W' :=
  have hb := ho.below (Nat.le_trans h.2.2.2 hg) h.1.size
  ⟨h.1.trans hb, fun p hp => ⟨(h.2.1 p hp).1, (h.2.1 p hp).2.only ho (by have := (h.2.1 p hp).1; omega)⟩, Nat.le_trans h.2.2.1 hb.size, h.2.2.2⟩
theorem RF.add {w W : World} {F g : Nat} {t : TypeId} {x : List Nat} {l : List (Nat × TypeId × List Nat)} (h : RF w F l W) (hb : Brow W g t x) : RF w W.heap.size ((g, t, x) :: l) W := by
  refine ⟨h.1, fun p hp => ?_, Nat.le_refl _, Nat.le_trans h.2.2.2 h.2.2.1⟩
  rcases List.mem_cons.1 hp with rfl | hp
  · exact ⟨hb.lt, hb⟩
  · exact ⟨Nat.lt_of_lt_of_le (h.2.1 p hp).1 h.2.2.1, (h.2.1 p hp).2⟩
theorem RF.get {w W : World} {F g : Nat} {t : TypeId} {x : List Nat} {l : List (Nat × TypeId × List Nat)} (h : RF w F l W) (hm : (g, t, x) ∈ l) : Brow W g t x := (h.2.1 _ hm).2
theorem two_at {W : World} {g : Nat} {t : TypeId} {x y : List Nat} (h : Brow W g t (x ++ y)) (hx : D32 x) (hy : D32 y) : W.rangeAt g 0 (cellsOf x) ∧ W.rangeAt g 32 (cellsOf y) := by
  constructor
  · intro j v hv
    have hj : j < x.length := by simpa [cellsOf_length] using (List.getElem?_eq_some_iff.1 hv).1
    rw [cellsOf_get _ _ hj] at hv
    have := h.cell j (by rw [List.length_append]; omega)
    rw [List.getD_eq_getElem?_getD, List.getElem?_append_left hj, ← List.getD_eq_getElem?_getD] at this
    rw [Nat.zero_add]
    exact this.trans hv
  · intro j v hv
    have hj : j < y.length := by simpa [cellsOf_length] using (List.getElem?_eq_some_iff.1 hv).1
    rw [cellsOf_get _ _ hj] at hv
    have := h.cell (32 + j) (by rw [List.length_append, hx.1]; omega)
    rw [List.getD_eq_getElem?_getD, List.getElem?_append_right (by rw [hx.1]; omega), hx.1, Nat.add_sub_cancel_left, ← List.getD_eq_getElem?_getD] at this
    exact this.trans hv
theorem run_alloc_r7 (a : Act) (o : Oper) (ho : o.op = .alloc 49) (W : World) : (execOp a.eval o).run Tryd.prog W = .ok (.value (Par.ptr W.heap.size)) (W.alloc (.cells (cellsOf zs7.flatten).toArray 49)) := by
  rw [← ztR]
  unfold execOp
  simp only [ho]
  kernel_rfl
theorem run_alloc_b7 (a : Act) (o : Oper) (ho : o.op = .alloc 59) (W : World) : (execOp a.eval o).run Tryd.prog W = .ok (.value (Par.ptr W.heap.size)) (W.alloc (.cells (cellsOf zs67).toArray 59)) := run_alloc_67 a o ho W
theorem load_b7 (W : World) (g : Nat) (D : List Nat) (k x : Nat) (h : Brow W g 59 D) (hk : k < D.length) (hx : D.getD k 0 = x) : (Instr.loadAt 5 (.pointer (some ⟨g, k, none⟩))).run Tryd.prog W = .ok (.int .u8 (x : Int)) W := load_u8 W g _ D h k x hk hx
theorem xor8 (x y : Nat) (hx : x < 256) (hy : y < 256) : ∃ z : Nat, z < 256 ∧ bits .xor .u8 (x : Int) (y : Int) = (z : Int) ∧ (y = 0 → z = x) := by
  have h := u8_xor_nat x y hx hy
  exact ⟨x ^^^ y, Nat.xor_lt_two_pow (n := 8) hx hy, h, fun e => by subst e; simp⟩
theorem wp_store_runF {P : Program} {o : Oper} {a : Act} {w w' : World} {K : Act → World → Prop} {Q : Exit → Act → World → Prop} (ty : TypeId) (x y : Operand) (ho : o.op = .store ty x y) (p v : Value) (hx : a.eval x = p) (hy : a.eval y = v)
    (hrun : (Instr.storeAt ty p v).run P w = .ok () w') (h : K (a.put o.dst undef) w') : o.wp P a w K Q := by
  unfold Oper.wp execOp
  simp only [ho, hx, hy, Sem.run_bind, hrun, Result.andThen_ok, Sem.run_pure]
  exact h
theorem store_b (W : World) (g j z : Nat) {t : TypeId} {zs : List Nat} (h : Brow W g t zs) (hj : j < zs.length) : (Instr.storeAt 5 (.pointer (some ⟨g, j, none⟩)) (.int .u8 (z : Int))).run Tryd.prog W = .ok () (W.setCell ⟨g, j, none⟩ (.int .u8 (z : Int))) := by
  have hc := h.cell j hj
  have hf := h.frozen j
  go_simp
theorem set_same (l : List (List Nat)) (i j z : Nat) (h : i < l.length) (hj : j < (l.getD i []).length) (e : z = (l.getD i []).getD j 0) : l.set i ((l.getD i []).set j z) = l := by
  subst e
  rw [List.getD_eq_getElem?_getD, List.getElem?_eq_getElem h] at hj ⊢
  simp only [Option.getD_some] at hj ⊢
  rw [List.getD_eq_getElem?_getD, List.getElem?_eq_getElem hj, Option.getD_some, List.set_getElem_self, List.set_getElem_self]
set_option maxRecDepth 100000 in
set_option maxHeartbeats 16000000 in
theorem forges_c (seed : List Nat) (key : Nat) (x y : List Nat) (a : Int) (turn : Nat) (w : World) (hs : D32 seed) (hk : key < 4294967296) (hx : D32 x) (hy : D32 y) (htn : turn < 256) (ht : Tab w) :
    Calls Tryd.prog 5 #[.agg (cellsOf seed).toArray, .int .u32 (key : Int), .agg (cellsOf (x ++ y)).toArray, .int .i64 a, .int .u8 (turn : Int)] w fun e w' => e = .returned (.bool true) ∧ Below w.heap.size w w' := by
  have HSD := Lib.hid hs
  have HX := Lib.hid hx
  have HY := Lib.hid hy
  have HT := Lib.hid ht
  have hpos := ht.pos
  have HGT := Lib.hid (show Tryd.prog.eqGuardType Tryd.prog.depth 31 = false by kernel_rfl)
  have HGA := Lib.hid (show Tryd.prog.eqGuardType Tryd.prog.depth 32 = false by kernel_rfl)
  have HG7 := Lib.hid (show Tryd.prog.eqGuardType Tryd.prog.depth 49 = false by kernel_rfl)
  obtain ⟨so, hso⟩ : ∃ so, so = Ch.signS seed key x := ⟨_, rfl⟩
  have HSO := Lib.hid hso
  have HSOD := Lib.hid (show D67 so from by rw [hso]; exact map_67 _ fun c _ => Ch.d32_climb (Ch.d32_sec _ _ _) _ _)
  have HSIGN := Lib.hid (show ∀ W, Calls Tryd.prog 22 #[.agg (cellsOf seed).toArray, .int .u32 (key : Int), .agg (cellsOf x).toArray] W (DigRet so.flatten W) from fun W => by rw [hso]; exact rsign_c seed key x W hs hx hk)
  clear hs hx hy ht hso
  go_enter Tryd.func5, Tryd.ntmps5
  go_upto_region 1 with fail
  obtain ⟨F1, hF1⟩ : ∃ F, F = w.heap.size + 1 + 1 := ⟨_, rfl⟩
  refine gen_code (F := RF w F1 [(w.heap.size + 1, 48, x ++ y), (w.heap.size, 31, seed)]) (by
    rw [hF1]
    have h1 := (heap_new2 w (.cells (cellsOf seed).toArray 31) (.cells (cellsOf (x ++ y)).toArray 48))
    refine ⟨((Below.refl _ _).alloc (Nat.le_refl _) _).alloc (by simp) _, ?_, by simp, by omega⟩
    intro p hp
    simp only [List.mem_cons, List.not_mem_nil, or_false] at hp
    rcases hp with rfl | rfl
    · exact ⟨by omega, h1.2⟩
    · exact ⟨by omega, h1.1⟩) ?_
  intro wA h
  have H0 := Lib.hid h
  clear h hF1
  have HAW := Lib.hid (show Calls Tryd.prog 21 #[] wA (fun e w' => e = .returned (.bool true) ∧ Below wA.heap.size wA w') from awake4_c wA (HT.out.below H0.out.1 hpos))
  go_wp2_with (first | (go_at_call 21; refine HAW.out.mono ?_; rintro e w1 ⟨rfl, hb1⟩; have H1 := Lib.hid (H0.out.below hb1); clear hb1))
  (try dsimp only [Act.put, List.setIfInBounds_toArray, List.set_cons_zero, List.set_cons_succ])
  have HS := Lib.hid H1.out.drew
  clear H0 HAW H1
  refine anyH_begin (S := RF w F1 [(w.heap.size + 1, 48, x ++ y), (w.heap.size, 31, seed)]) (by kernel_rfl) ?_
  refine anyH_pureG 0 (d := 22) (op := .indexAddr 48 (.tmp 7) (.const (.int .i64 0))) (gd := none) (.pointer (some ⟨w.heap.size + 1, 0, none⟩)) (by rfl) (fun o ho => wanted_plain ho _) (by kernel_rfl) (by kernel_rfl) (by kernel_rfl) (fun _ _ _ h => h) (fun o ho W hW => by unfold execOp; simp only [ho]; go_simp) HS.out ?_
  simp only [Act.put, List.setIfInBounds_toArray, List.set_cons_zero, List.set_cons_succ]
  refine anyH_loadG 1 (d := 23) (ty := 31) (x := (.tmp 22)) (gd := none) (p := .pointer (some ⟨w.heap.size + 1, 0, none⟩)) (.agg (cellsOf x).toArray) (by rfl) (fun o ho => wanted_plain ho _) (by kernel_rfl) (by kernel_rfl) (by kernel_rfl) (fun _ _ _ h => h) (by rfl) (fun W hW => run_dload dtR W (w.heap.size + 1) 0 x HX.out (two_at (hW.get (t := 48) (x := x ++ y) (by simp)) HX.out HY.out).1) HS.out ?_
  simp only [Act.put, List.setIfInBounds_toArray, List.set_cons_zero, List.set_cons_succ]
  refine anyH_pureG 2 (d := 24) (op := .indexAddr 48 (.tmp 7) (.const (.int .i64 1))) (gd := none) (.pointer (some ⟨w.heap.size + 1, 32, none⟩)) (by rfl) (fun o ho => wanted_plain ho _) (by kernel_rfl) (by kernel_rfl) (by kernel_rfl) (fun _ _ _ h => h) (fun o ho W hW => by unfold execOp; simp only [ho]; go_simp) HS.out ?_
  simp only [Act.put, List.setIfInBounds_toArray, List.set_cons_zero, List.set_cons_succ]
  refine anyH_loadG 3 (d := 25) (ty := 31) (x := (.tmp 24)) (gd := none) (p := .pointer (some ⟨w.heap.size + 1, 32, none⟩)) (.agg (cellsOf y).toArray) (by rfl) (fun o ho => wanted_plain ho _) (by kernel_rfl) (by kernel_rfl) (by kernel_rfl) (fun _ _ _ h => h) (by rfl) (fun W hW => run_dload dtR W (w.heap.size + 1) 32 y HY.out (two_at (hW.get (t := 48) (x := x ++ y) (by simp)) HX.out HY.out).2) HS.out ?_
  simp only [Act.put, List.setIfInBounds_toArray, List.set_cons_zero, List.set_cons_succ]
  refine anyH_par { n := 2, al := (fun k => match k with | 0 => 4 | _ => 5), st := (fun k => match k with | 0 => 6 | _ => 7), d := (fun k => match k with | 0 => 11 | _ => 12), v := (fun k => match k with | 0 => 23 | _ => 25), ty := (fun _ => 31), Z := (fun _ => zs32), E := (fun k => match k with | 0 => x | _ => y), hc := fun _ => false, cl := fun _ => 0, f := fun _ => 0, xs := fun _ => #[], ts := fun _ => #[], vs := fun _ => #[] } (F1) (by kernel_rfl) (by kernel_rfl) (by kernel_rfl) (by kernel_rfl) (Nat.le_of_ble_eq_true (by kernel_rfl)) (by kernel_rfl) (by kernel_rfl) ?_ ?_ ?_ ?_ (fun W W' h hb => h.below hb) (fun g W W' h hg ho => h.only ho hg) (fun W h => h.2.2.1) HS.out ?_
  · intro k hk
    rcases (show k = 0 ∨ k = 1 by have hk : k < 2 := hk; omega) with rfl | rfl
    · exact ⟨by kernel_rfl, fun a o ho W => run_alloc_r32 a o ho W⟩
    · exact ⟨by kernel_rfl, fun a o ho W => run_alloc_r32 a o ho W⟩
  · intro k hk
    rcases (show k = 0 ∨ k = 1 by have hk : k < 2 := hk; omega) with rfl | rfl
    · exact ⟨by kernel_rfl, info_r32 x HX.out, by show (x).length = (zs32).length; rw [HX.out.1, zs32_len]⟩
    · exact ⟨by kernel_rfl, info_r32 y HY.out, by show (y).length = (zs32).length; rw [HY.out.1, zs32_len]⟩
  · intro k hk h0
    rcases (show k = 0 ∨ k = 1 by have hk : k < 2 := hk; omega) with rfl | rfl
    · exact ⟨by rfl, by rfl⟩
    · exact ⟨by rfl, by rfl⟩
  · intro k hk h0
    exact absurd (show false = true from h0) (by simp)
  intro g wp hSp hrow hne
  have q0 : F1 ≤ g 0 ∧ Brow wp (g 0) 31 (x) := hrow 0 (show 0 < 2 by omega)
  have q1 : F1 ≤ g 1 ∧ Brow wp (g 1) 31 (y) := hrow 1 (show 1 < 2 by omega)
  rw [Par.fin_two' _ _ _ 11 12 rfl rfl rfl rfl rfl]
  obtain ⟨g11, hg11⟩ : ∃ x, x = g 0 := ⟨_, rfl⟩
  rw [← hg11] at q0 ⊢
  clear hg11
  obtain ⟨g12, hg12⟩ : ∃ x, x = g 1 := ⟨_, rfl⟩
  rw [← hg12] at q1 ⊢
  clear hg12
  clear hrow hne
  simp only [Act.put, List.setIfInBounds_toArray, List.set_cons_zero, List.set_cons_succ]
  have HS := Lib.hid (show RF w wp.heap.size [(g12, 31, y), (g11, 31, x), (w.heap.size, 31, seed)] wp from by
    have h := (hSp.add q0.2).add q1.2
    refine ⟨h.1, fun p hp => h.2.1 p ?_, h.2.2⟩
    simp only [List.mem_cons, List.not_mem_nil, or_false] at hp ⊢
    rcases hp with rfl | rfl | rfl <;> simp)
  obtain ⟨F2, hF2⟩ : ∃ F, F = wp.heap.size := ⟨_, rfl⟩
  rw [← hF2] at HS
  clear hF2 hSp q0 q1
  have HISD := Lib.hid (info_r32 seed HSD.out)
  have HIX := Lib.hid (info_r32 x HX.out)
  have HI7 := Lib.hid (info_ds7 49 info_r7 HSOD.out)
  have HZ7 := Lib.hid (size_ds7 d67_zero HSOD.out)
  go_wp2_with (first | (refine wpList_load_row (by rfl) 31 (.tmp 5) (by rfl) w.heap.size (by rfl) _ (cellsOf seed).toArray (0, 0) _ (HS.out.get (t := 31) (x := seed) (by simp)) Tryd.underlying31 (by rfl) HISD.out ?_) | (refine wpList_load_row (by rfl) 31 (.tmp 11) (by rfl) g11 (by rfl) _ (cellsOf x).toArray (0, 0) _ (HS.out.get (t := 31) (x := x) (by simp)) Tryd.underlying31 (by rfl) HIX.out ?_))
  refine (HSIGN.out wp).mono ?_
  rintro e1 w1 ⟨rfl, hb1⟩
  have H1 := Lib.hid (HS.out.below hb1)
  clear hb1 HS
  obtain ⟨g13, hg13⟩ : ∃ g, g = w1.heap.size := ⟨_, rfl⟩
  have hF2g : F2 ≤ g13 := by rw [hg13]; exact H1.out.2.2.1
  have HLY := Lib.hid (fun V hV => lay_row (W := w1) (T := 49) (x := zs7.flatten) (y := so.flatten) V hV)
  go_upto_region 5 with (first | (refine wpList_store_row (by rfl) 49 _ _ (by rfl) w1.heap.size (cellsOf so.flatten).toArray (by rfl) (by rfl) 49 (cellsOf zs7.flatten).toArray (by rw [← ztR]; exact heap_new _ _) HI7.out HZ7.out (cellsOf_all _) ?_))
  refine gen_code (F := fun W => RF w F2 [(g12, 31, y), (g11, 31, x), (w.heap.size, 31, seed)] W ∧ Brow W g13 49 so.flatten) (by
    rw [hg13, ztR]
    have h := HLY.out _ rfl
    exact ⟨H1.out.below h.2, h.1⟩) ?_
  rintro w2 ⟨h, h7⟩
  have H2 := Lib.hid h
  have H7 := Lib.hid h7
  rw [← hg13]
  clear h h7 H1 hg13 HLY
  have ha0 : 0 ≤ IntKind.u64.wrap a := by rw [IntKind.wrap_u64]; omega
  obtain ⟨M, hM⟩ : ∃ M : Nat, IntKind.u64.wrap a = (M : Int) := ⟨(IntKind.u64.wrap a).toNat, by omega⟩
  go_upto_region 6 with fail
  obtain ⟨q, hq⟩ : ∃ q, q = M % 67 := ⟨_, rfl⟩
  have hq67 : q < 67 := by omega
  have hqe : (M : Int) % 67 = (q : Int) := by omega
  simp only [hqe]
  clear hqe hq hM ha0
  obtain ⟨r, hr⟩ : ∃ r, r = q % 32 := ⟨_, rfl⟩
  have hr32 : r < 32 := by omega
  have hre : (q : Int).tmod 32 = (r : Int) := by rw [Int.tmod_eq_emod_of_nonneg (by omega)]; omega
  have hqI : (q : Int) < 67 := by omega
  have hrI : (r : Int) < 32 := by omega
  clear hr
  obtain ⟨b, hb⟩ : ∃ b, b = (so.getD q []).getD r 0 := ⟨_, rfl⟩
  have hsq := HSOD.out.get q hq67
  have hb8 : b < 256 := by rw [hb, getD_at _ _ (by rw [hsq.1]; omega)]; exact hsq.2 _ (List.getElem_mem _)
  obtain ⟨z, hz8, hxor, hz0⟩ := xor8 b turn hb8 htn
  obtain ⟨sg, hsg⟩ : ∃ sg, sg = so.set q ((so.getD q []).set r z) := ⟨_, rfl⟩
  have HSG := Lib.hid (show D67 sg from by
    rw [hsg]
    refine HSOD.out.set q ⟨by rw [List.length_set, hsq.1], fun u hu => ?_⟩
    rcases List.mem_or_eq_of_mem_set hu with h1 | rfl
    · exact hsq.2 u h1
    · exact hz8)
  have HSAME := Lib.hid (show turn = 0 → sg = so from fun h => by
    rw [hsg]
    exact set_same so q r z (by rw [HSOD.out.1]; exact hq67) (by rw [hsq.1]; exact hr32) (by rw [hz0 h, hb]))
  have HBF := Lib.hid (show so.flatten.getD (q * 32 + r) 0 = b from by rw [Nat.mul_comm, flat_get so HSOD.out.2 q r (by rw [HSOD.out.1]; exact hq67) hr32, hb])
  have HSF := Lib.hid (show so.flatten.set (q * 32 + r) z = sg.flatten from by rw [hsg]; exact flat_cell so HSOD.out.2 q r z (by rw [HSOD.out.1]; exact hq67) hr32)
  clear hb hsq hsg hz0
  (try dsimp only [Act.put, List.setIfInBounds_toArray, List.set_cons_zero, List.set_cons_succ])
  have HS := Lib.hid H2.out.drew
  have H7 := Lib.hid H7.out.drew
  clear H2
  refine anyH_begin (S := RF w F2 [(g12, 31, y), (g11, 31, x), (w.heap.size, 31, seed)]) (by kernel_rfl) ?_
  refine anyH_pureG 0 (d := 34) (op := .move (.tmp 3)) (gd := none) (.int .i64 (q : Int)) (by rfl) (fun o ho => wanted_plain ho _) (by kernel_rfl) (by kernel_rfl) (by kernel_rfl) (fun _ _ _ h => h) (fun o ho W hW => by unfold execOp; simp only [ho]; go_simp) HS.out ?_
  simp only [Act.put, List.setIfInBounds_toArray, List.set_cons_zero, List.set_cons_succ]
  refine anyH_pureG 1 (d := 35) (op := .move (.tmp 3)) (gd := none) (.int .i64 (q : Int)) (by rfl) (fun o ho => wanted_plain ho _) (by kernel_rfl) (by kernel_rfl) (by kernel_rfl) (fun _ _ _ h => h) (fun o ho W hW => by unfold execOp; simp only [ho]; go_simp) HS.out ?_
  simp only [Act.put, List.setIfInBounds_toArray, List.set_cons_zero, List.set_cons_succ]
  refine anyH_pureG 2 (d := 36) (op := .binOp .rem 3 (.tmp 35) (.const (.int .i64 32)) 3) (gd := none) (.int .i64 (r : Int)) (by rfl) (fun o ho => wanted_plain ho _) (by kernel_rfl) (by kernel_rfl) (by kernel_rfl) (fun _ _ _ h => h) (fun o ho W hW => by unfold execOp; simp only [ho]; go_simp) HS.out ?_
  simp only [Act.put, List.setIfInBounds_toArray, List.set_cons_zero, List.set_cons_succ]
  refine anyH_pureG 3 (d := 37) (op := .indexAddr 49 (.tmp 13) (.tmp 34)) (gd := none) (.pointer (some ⟨g13, q * 32, none⟩)) (by rfl) (fun o ho => wanted_plain ho _) (by kernel_rfl) (by kernel_rfl) (by kernel_rfl) (fun _ _ _ h => h) (fun o ho W hW => by unfold execOp; simp only [ho]; go_simp) HS.out ?_
  simp only [Act.put, List.setIfInBounds_toArray, List.set_cons_zero, List.set_cons_succ]
  refine anyH_pureG 4 (d := 38) (op := .indexAddr 31 (.tmp 37) (.tmp 36)) (gd := none) (.pointer (some ⟨g13, q * 32 + r, none⟩)) (by rfl) (fun o ho => wanted_plain ho _) (by kernel_rfl) (by kernel_rfl) (by kernel_rfl) (fun _ _ _ h => h) (fun o ho W hW => by unfold execOp; simp only [ho]; go_simp) HS.out ?_
  simp only [Act.put, List.setIfInBounds_toArray, List.set_cons_zero, List.set_cons_succ]
  refine anyH_pureG 6 (d := 40) (op := .move (.tmp 4)) (gd := none) (.int .u8 (turn : Int)) (by rfl) (fun o ho => wanted_plain ho _) (by kernel_rfl) (by kernel_rfl) (by kernel_rfl) (fun _ _ _ h => h) (fun o ho W hW => by unfold execOp; simp only [ho]; go_simp) HS.out ?_
  simp only [Act.put, List.setIfInBounds_toArray, List.set_cons_zero, List.set_cons_succ]
  refine anyH_pureG 8 (d := 42) (op := .indexAddr 49 (.tmp 13) (.tmp 34)) (gd := none) (.pointer (some ⟨g13, q * 32, none⟩)) (by rfl) (fun o ho => wanted_plain ho _) (by kernel_rfl) (by kernel_rfl) (by kernel_rfl) (fun _ _ _ h => h) (fun o ho W hW => by unfold execOp; simp only [ho]; go_simp) HS.out ?_
  simp only [Act.put, List.setIfInBounds_toArray, List.set_cons_zero, List.set_cons_succ]
  refine wpAnyH_all (rs := [5]) (by kernel_rfl) (by simp) ?_
  intro k' hk'; simp only [List.mem_cons, List.not_mem_nil, or_false] at hk'; subst hk'
  refine op_at 5 (d := some 39) (op := .load 5 (.tmp 38)) (by rfl) ?_
  intro o0 hod hoo
  refine wp_load_at hoo (.pointer (some ⟨g13, q * 32 + r, none⟩)) (by rfl) (.int .u8 (b : Int)) (load_u8 _ g13 _ so.flatten H7.out (q * 32 + r) b (by rw [HSOD.out.flat]; omega) HBF.out) ?_
  refine ⟨HS.out, ?_⟩
  rw [hod]
  clear hod hoo
  simp only [Act.put, List.setIfInBounds_toArray, List.set_cons_zero, List.set_cons_succ]
  refine anyH_pureG 7 (d := 41) (op := .binOp .xor 5 (.tmp 39) (.tmp 40) 5) (gd := none) (.int .u8 (z : Int)) (by rfl) (fun o ho => wanted_plain ho _) (by kernel_rfl) (by kernel_rfl) (by kernel_rfl) (fun _ _ _ h => h) (fun o ho W hW => by unfold execOp; simp only [ho]; go_simp) HS.out ?_
  simp only [Act.put, List.setIfInBounds_toArray, List.set_cons_zero, List.set_cons_succ]
  refine anyH_pureG 9 (d := 43) (op := .indexAddr 31 (.tmp 42) (.tmp 36)) (gd := none) (.pointer (some ⟨g13, q * 32 + r, none⟩)) (by rfl) (fun o ho => wanted_plain ho _) (by kernel_rfl) (by kernel_rfl) (by kernel_rfl) (fun _ _ _ h => h) (fun o ho W hW => by unfold execOp; simp only [ho]; go_simp) HS.out ?_
  simp only [Act.put, List.setIfInBounds_toArray, List.set_cons_zero, List.set_cons_succ]
  refine wpAnyH_all (rs := [10]) (by kernel_rfl) (by simp) ?_
  intro k' hk'; simp only [List.mem_cons, List.not_mem_nil, or_false] at hk'; subst hk'
  refine op_at 10 (d := none) (op := .store 5 (.tmp 43) (.tmp 41)) (by rfl) ?_
  intro o0 hod hoo
  refine wp_store_runF 5 (.tmp 43) (.tmp 41) hoo (.pointer (some ⟨g13, q * 32 + r, none⟩)) (.int .u8 (z : Int)) (by rfl) (by rfl) (store_b _ g13 (q * 32 + r) z H7.out (by rw [HSOD.out.flat]; omega)) ?_
  rw [hod]
  have ho : Only g13 w2.drew (w2.drew.setCell ⟨g13, q * 32 + r, none⟩ (.int .u8 (z : Int))) := (Only.refl _ _).setCell _ _
  have hs2 := HS.out.only ho hF2g
  refine ⟨hs2, ?_⟩
  have hb2 := H7.out.set (q * 32 + r) z
  rw [HSF.out] at hb2
  refine gen_anyH (F := fun W => RF w F2 [(g12, 31, y), (g11, 31, x), (w.heap.size, 31, seed)] W ∧ Brow W g13 49 sg.flatten) ⟨hs2, hb2⟩ ?_
  rintro w3 ⟨hs3, hb3⟩
  have HS := Lib.hid (hs3.add hb3)
  obtain ⟨F3, hF3⟩ : ∃ F, F = w3.heap.size := ⟨_, rfl⟩
  rw [← hF3] at HS
  clear hs3 hb3 hod hoo ho hs2 hb2 H7 hF3
  simp only [Act.put]
  refine wpAnyH_done (by kernel_rfl) ?_ _
  obtain ⟨L3, hL3⟩ : ∃ L, L = [(g13, 49, sg.flatten), (g12, 31, y), (g11, 31, x), (w.heap.size, 31, seed)] := ⟨_, rfl⟩
  have R13 := Lib.hid (fun W (hW : RF w F3 L3 W) => hW.get (t := 49) (x := sg.flatten) (g := g13) (by rw [hL3]; simp))
  have R12 := Lib.hid (fun W (hW : RF w F3 L3 W) => hW.get (t := 31) (x := y) (g := g12) (by rw [hL3]; simp))
  have R11 := Lib.hid (fun W (hW : RF w F3 L3 W) => hW.get (t := 31) (x := x) (g := g11) (by rw [hL3]; simp))
  have R0 := Lib.hid (fun W (hW : RF w F3 L3 W) => hW.get (t := 31) (x := seed) (g := w.heap.size) (by rw [hL3]; simp))
  rw [← hL3] at HS
  have HL3 := Lib.hid hL3
  clear hL3 HISD HIX HI7 HZ7 HSIGN hxor hre hqI hrI HBF HSF hF2g
  have HTAB := Lib.hid (fun W (hW : RF w F3 L3 W) => (HT.out.below hW.1 hpos : Tab W))
  obtain ⟨RC, hRC⟩ : ∃ RC, RC = Ch.pressS (Ch.topsS key y sg) := ⟨_, rfl⟩
  obtain ⟨PB, hPB⟩ : ∃ PB, PB = Ch.pressS (Ch.endsS seed key) := ⟨_, rfl⟩
  have HRCD := Lib.hid (show D32 RC from by rw [hRC]; exact d32_of_sum _)
  have HPBD := Lib.hid (show D32 PB from by rw [hPB]; exact d32_of_sum _)
  have HTO := Lib.hid (fun W => cto_c sg W HSG.out)
  have HREC := Lib.hid (show ∀ W, RF w F3 L3 W → Calls Tryd.prog 23 #[.int .u32 (key : Int), .agg (cellsOf y).toArray, .agg (cellsOf sg.flatten).toArray] W (DigRet RC W) from fun W hW => by rw [hRC]; exact recover_c key y sg W HY.out HSG.out hk (HTAB.out W hW))
  have HPUB := Lib.hid (show ∀ W, RF w F3 L3 W → Calls Tryd.prog 25 #[.agg (cellsOf seed).toArray, .int .u32 (key : Int)] W (DigRet PB W) from fun W hW => by rw [hPB]; exact public_c seed key W HSD.out hk (HTAB.out W hW))
  have HRCE := Lib.hid hRC
  have HPBE := Lib.hid hPB
  clear hRC hPB
  have HEQ := Lib.hid (fun W => eqAA W HRCD.out HPBD.out)
  go_wp2_with fail
  (try dsimp only [Act.put, List.setIfInBounds_toArray, List.set_cons_zero, List.set_cons_succ])
  have HS := Lib.hid HS.out.drew
  obtain ⟨b1, hb1⟩ : ∃ b, b = decide (RC = PB) := ⟨_, rfl⟩
  rw [← hb1] at HEQ
  have HB1 := Lib.hid hb1
  clear hb1
  refine anyH_begin (S := RF w F3 L3) (by kernel_rfl) ?_
  refine anyH_pureG 0 (d := 44) (op := .move (.tmp 1)) (gd := none) (.int .u32 (key : Int)) (by rfl) (fun o ho => wanted_plain ho _) (by kernel_rfl) (by kernel_rfl) (by kernel_rfl) (fun _ _ _ h => h) (fun o ho W hW => by unfold execOp; simp only [ho]; go_simp) HS.out ?_
  simp only [Act.put, List.setIfInBounds_toArray, List.set_cons_zero, List.set_cons_succ]
  refine anyH_loadG 1 (d := 45) (ty := 31) (x := (.tmp 12)) (gd := none) (p := .pointer (some ⟨g12, 0, none⟩)) (.agg (cellsOf y).toArray) (by rfl) (fun o ho => wanted_plain ho _) (by kernel_rfl) (by kernel_rfl) (by kernel_rfl) (fun _ _ _ h => h) (by rfl) (fun W hW => loadR W g12 y HY.out (R12.out W hW)) HS.out ?_
  simp only [Act.put, List.setIfInBounds_toArray, List.set_cons_zero, List.set_cons_succ]
  refine anyH_loadG 2 (d := 46) (ty := 49) (x := (.tmp 13)) (gd := none) (p := .pointer (some ⟨g13, 0, none⟩)) (.agg (cellsOf (sg.flatten)).toArray) (by rfl) (fun o ho => wanted_plain ho _) (by kernel_rfl) (by kernel_rfl) (by kernel_rfl) (fun _ _ _ h => h) (by rfl) (fun W hW => load_r7 W g13 sg HSG.out (R13.out W hW)) HS.out ?_
  simp only [Act.put, List.setIfInBounds_toArray, List.set_cons_zero, List.set_cons_succ]
  refine anyH_loadG 5 (d := 49) (ty := 31) (x := (.tmp 5)) (gd := none) (p := .pointer (some ⟨w.heap.size, 0, none⟩)) (.agg (cellsOf seed).toArray) (by rfl) (fun o ho => wanted_plain ho _) (by kernel_rfl) (by kernel_rfl) (by kernel_rfl) (fun _ _ _ h => h) (by rfl) (fun W hW => loadR W w.heap.size seed HSD.out (R0.out W hW)) HS.out ?_
  simp only [Act.put, List.setIfInBounds_toArray, List.set_cons_zero, List.set_cons_succ]
  refine anyH_pureG 6 (d := 50) (op := .move (.tmp 1)) (gd := none) (.int .u32 (key : Int)) (by rfl) (fun o ho => wanted_plain ho _) (by kernel_rfl) (by kernel_rfl) (by kernel_rfl) (fun _ _ _ h => h) (fun o ho W hW => by unfold execOp; simp only [ho]; go_simp) HS.out ?_
  simp only [Act.put, List.setIfInBounds_toArray, List.set_cons_zero, List.set_cons_succ]
  refine anyH_callG 3 (d := some 47) (f := 24) (xs := #[(.tmp 46)]) (ts := #[49]) (gd := none) (vs := #[.agg (cellsOf (sg.flatten)).toArray]) (by kernel_rfl) (by rfl) (fun o ho => wanted_plain ho _) (by go_simp) (by go_simp) (HTO.out _) ?_
  rintro e93 w93 ⟨rfl, hb93⟩
  refine ⟨_, rfl, HS.out.below hb93, fun hS93 => ?_⟩
  have HS := Lib.hid hS93
  clear hS93 hb93
  simp only [Act.put, List.setIfInBounds_toArray, List.set_cons_zero, List.set_cons_succ]
  refine anyH_callG 4 (d := some 48) (f := 23) (xs := #[(.tmp 44), (.tmp 45), (.tmp 47)]) (ts := #[47, 32, 53]) (gd := none) (vs := #[.int .u32 (key : Int), .agg (cellsOf y).toArray, .agg (cellsOf (sg.flatten)).toArray]) (by kernel_rfl) (by rfl) (fun o ho => wanted_plain ho _) (by go_simp) (by go_simp) (HREC.out _ HS.out) ?_
  rintro e94 w94 ⟨rfl, hb94⟩
  refine ⟨_, rfl, HS.out.below hb94, fun hS94 => ?_⟩
  have HS := Lib.hid hS94
  clear hS94 hb94
  simp only [Act.put, List.setIfInBounds_toArray, List.set_cons_zero, List.set_cons_succ]
  refine anyH_callG 7 (d := some 51) (f := 25) (xs := #[(.tmp 49), (.tmp 50)]) (ts := #[32, 47]) (gd := none) (vs := #[.agg (cellsOf seed).toArray, .int .u32 (key : Int)]) (by kernel_rfl) (by rfl) (fun o ho => wanted_plain ho _) (by go_simp) (by go_simp) (HPUB.out _ HS.out) ?_
  rintro e97 w97 ⟨rfl, hb97⟩
  refine ⟨_, rfl, HS.out.below hb97, fun hS97 => ?_⟩
  have HS := Lib.hid hS97
  clear hS97 hb97
  simp only [Act.put, List.setIfInBounds_toArray, List.set_cons_zero, List.set_cons_succ]
  refine anyH_neqC 8 (d := 52) (t := 32) (t' := 32) (x := (.tmp 48)) (y := (.tmp 51)) (gd := none) ((cellsOf RC).toArray) ((cellsOf PB).toArray) b1 (by rfl) (fun o ho => wanted_plain ho _) (by kernel_rfl) (by kernel_rfl) (by kernel_rfl) (fun _ _ _ h => h) (by rfl) (by rfl) HGA.out (fun W => HEQ.out W) HS.out ?_
  simp only [Act.put, List.setIfInBounds_toArray, List.set_cons_zero, List.set_cons_succ]
  refine wpAnyH_done (by kernel_rfl) ?_ _
  clear HTO HREC HPUB HEQ
  have HLX := Lib.hid (fun W (hW : RF w F3 L3 W) => loadR W g11 x HX.out (R11.out W hW))
  have HLY := Lib.hid (fun W (hW : RF w F3 L3 W) => loadR W g12 y HY.out (R12.out W hW))
  cases b1 with
  | false =>
    have HNE := Lib.hid (of_decide_eq_false HB1.out.symm)
    have HXY := Lib.hid (fun W => eqRR W HY.out HX.out)
    by_cases hyx : y = x
    · have htu : ¬ turn = 0 := fun h => HNE.out (by
        rw [HRCE.out, HPBE.out, HSAME.out h, hyx, HSO.out, Ch.sign_tops seed key x HX.out])
      have htu' : ((turn : Int) != 0) = true := by rw [bne_iff_ne]; omega
      rw [decide_eq_true hyx] at HXY
      clear hyx
      go_wp2_with (first | (refine wpList_loadg 31 (.tmp 12) (by rfl) (by rfl) (.pointer (some ⟨g12, 0, none⟩)) (by rfl) (.agg (cellsOf y).toArray) (HLY.out _ HS.out) ?_) | (refine wpList_loadg 31 (.tmp 11) (by rfl) (by rfl) (.pointer (some ⟨g11, 0, none⟩)) (by rfl) (.agg (cellsOf x).toArray) (HLX.out _ HS.out) ?_) | (refine wpList_neqg 31 _ _ _ (by rfl) (by rfl) (cellsOf y).toArray (cellsOf x).toArray (by rfl) (by rfl) HGT.out true (HXY.out _) ?_))
      go_ret
      exact ⟨by first | rfl | (show Ending.returned (.bool ((turn : Int) != 0)) = _; rw [htu']), HS.out.1⟩
    · rw [decide_eq_false hyx] at HXY
      clear hyx
      go_wp2_with (first | (refine wpList_loadg 31 (.tmp 12) (by rfl) (by rfl) (.pointer (some ⟨g12, 0, none⟩)) (by rfl) (.agg (cellsOf y).toArray) (HLY.out _ HS.out) ?_) | (refine wpList_loadg 31 (.tmp 11) (by rfl) (by rfl) (.pointer (some ⟨g11, 0, none⟩)) (by rfl) (.agg (cellsOf x).toArray) (HLX.out _ HS.out) ?_) | (refine wpList_neqg 31 _ _ _ (by rfl) (by rfl) (cellsOf y).toArray (cellsOf x).toArray (by rfl) (by rfl) HGT.out false (HXY.out _) ?_))
      go_ret
      exact ⟨rfl, HS.out.1⟩
  | true =>
    have HRP := Lib.hid (of_decide_eq_true HB1.out.symm)
    obtain ⟨es, hes⟩ : ∃ es, es = Ch.endsS seed key := ⟨_, rfl⟩
    obtain ⟨tp, htp⟩ : ∃ tp, tp = Ch.topsS key y sg := ⟨_, rfl⟩
    have HESD := Lib.hid (show D67 es from by rw [hes]; exact map_67 _ fun c _ => Ch.d32_climb (Ch.d32_sec _ _ _) _ _)
    have HTPD := Lib.hid (show D67 tp from by rw [htp]; exact map_67 _ fun c hc => Ch.d32_climb (HSG.out.get c hc) _ _)
    have HSIGN := Lib.hid (show ∀ W, Calls Tryd.prog 22 #[.agg (cellsOf seed).toArray, .int .u32 (key : Int), .agg (cellsOf x).toArray] W (DigRet so.flatten W) from fun W => by rw [HSO.out]; exact rsign_c seed key x W HSD.out HX.out hk)
    have HENDS := Lib.hid (show ∀ W, Calls Tryd.prog 26 #[.agg (cellsOf seed).toArray, .int .u32 (key : Int)] W (DigRet es.flatten W) from fun W => by rw [hes]; exact rends_c seed key W HSD.out hk)
    have HTOPS := Lib.hid (show ∀ W, Calls Tryd.prog 27 #[.int .u32 (key : Int), .agg (cellsOf y).toArray, .agg (cellsOf sg.flatten).toArray] W (DigRet tp.flatten W) from fun W => by rw [htp]; exact rtops_c key y sg W HY.out HSG.out hk)
    have HPR1 := Lib.hid (show ∀ W, Calls Tryd.prog 28 #[.agg (cellsOf tp.flatten).toArray] W (DigRet RC W) from fun W => by rw [HRCE.out, ← htp]; exact rpress_c tp W HTPD.out)
    have HPR2 := Lib.hid (show ∀ W, Calls Tryd.prog 28 #[.agg (cellsOf es.flatten).toArray] W (DigRet RC W) from fun W => by rw [HRP.out, HPBE.out, ← hes]; exact rpress_c es W HESD.out)
    have HESE := Lib.hid hes
    have HTPE := Lib.hid htp
    clear hes htp
    have i7 := fun (ds : Ds) (h : D67 ds) => info_ds7 49 info_r7 h
    go_wp2_with fail
    (try dsimp only [Act.put, List.setIfInBounds_toArray, List.set_cons_zero, List.set_cons_succ])
    have HS := Lib.hid HS.out.drew
    refine anyH_begin (S := RF w F3 L3) (by kernel_rfl) ?_
    refine anyH_loadG 0 (d := 60) (ty := 31) (x := (.tmp 5)) (gd := none) (p := .pointer (some ⟨w.heap.size, 0, none⟩)) (.agg (cellsOf seed).toArray) (by rfl) (fun o ho => wanted_plain ho _) (by kernel_rfl) (by kernel_rfl) (by kernel_rfl) (fun _ _ _ h => h) (by rfl) (fun W hW => loadR W w.heap.size seed HSD.out (R0.out W hW)) HS.out ?_
    simp only [Act.put, List.setIfInBounds_toArray, List.set_cons_zero, List.set_cons_succ]
    refine anyH_pureG 1 (d := 61) (op := .move (.tmp 1)) (gd := none) (.int .u32 (key : Int)) (by rfl) (fun o ho => wanted_plain ho _) (by kernel_rfl) (by kernel_rfl) (by kernel_rfl) (fun _ _ _ h => h) (fun o ho W hW => by unfold execOp; simp only [ho]; go_simp) HS.out ?_
    simp only [Act.put, List.setIfInBounds_toArray, List.set_cons_zero, List.set_cons_succ]
    refine anyH_loadG 2 (d := 62) (ty := 31) (x := (.tmp 11)) (gd := none) (p := .pointer (some ⟨g11, 0, none⟩)) (.agg (cellsOf x).toArray) (by rfl) (fun o ho => wanted_plain ho _) (by kernel_rfl) (by kernel_rfl) (by kernel_rfl) (fun _ _ _ h => h) (by rfl) HLX.out HS.out ?_
    simp only [Act.put, List.setIfInBounds_toArray, List.set_cons_zero, List.set_cons_succ]
    refine anyH_loadG 4 (d := 64) (ty := 31) (x := (.tmp 5)) (gd := none) (p := .pointer (some ⟨w.heap.size, 0, none⟩)) (.agg (cellsOf seed).toArray) (by rfl) (fun o ho => wanted_plain ho _) (by kernel_rfl) (by kernel_rfl) (by kernel_rfl) (fun _ _ _ h => h) (by rfl) (fun W hW => loadR W w.heap.size seed HSD.out (R0.out W hW)) HS.out ?_
    simp only [Act.put, List.setIfInBounds_toArray, List.set_cons_zero, List.set_cons_succ]
    refine anyH_pureG 5 (d := 65) (op := .move (.tmp 1)) (gd := none) (.int .u32 (key : Int)) (by rfl) (fun o ho => wanted_plain ho _) (by kernel_rfl) (by kernel_rfl) (by kernel_rfl) (fun _ _ _ h => h) (fun o ho W hW => by unfold execOp; simp only [ho]; go_simp) HS.out ?_
    simp only [Act.put, List.setIfInBounds_toArray, List.set_cons_zero, List.set_cons_succ]
    refine anyH_pureG 7 (d := 67) (op := .move (.tmp 1)) (gd := none) (.int .u32 (key : Int)) (by rfl) (fun o ho => wanted_plain ho _) (by kernel_rfl) (by kernel_rfl) (by kernel_rfl) (fun _ _ _ h => h) (fun o ho W hW => by unfold execOp; simp only [ho]; go_simp) HS.out ?_
    simp only [Act.put, List.setIfInBounds_toArray, List.set_cons_zero, List.set_cons_succ]
    refine anyH_loadG 8 (d := 68) (ty := 31) (x := (.tmp 12)) (gd := none) (p := .pointer (some ⟨g12, 0, none⟩)) (.agg (cellsOf y).toArray) (by rfl) (fun o ho => wanted_plain ho _) (by kernel_rfl) (by kernel_rfl) (by kernel_rfl) (fun _ _ _ h => h) (by rfl) HLY.out HS.out ?_
    simp only [Act.put, List.setIfInBounds_toArray, List.set_cons_zero, List.set_cons_succ]
    refine anyH_loadG 9 (d := 69) (ty := 49) (x := (.tmp 13)) (gd := none) (p := .pointer (some ⟨g13, 0, none⟩)) (.agg (cellsOf (sg.flatten)).toArray) (by rfl) (fun o ho => wanted_plain ho _) (by kernel_rfl) (by kernel_rfl) (by kernel_rfl) (fun _ _ _ h => h) (by rfl) (fun W hW => load_r7 W g13 sg HSG.out (R13.out W hW)) HS.out ?_
    simp only [Act.put, List.setIfInBounds_toArray, List.set_cons_zero, List.set_cons_succ]
    refine anyH_par { n := 3, al := (fun k => match k with | 0 => 11 | 1 => 12 | _ => 13), st := (fun k => match k with | 0 => 14 | 1 => 15 | _ => 16), d := (fun k => match k with | 0 => 14 | 1 => 15 | _ => 16), v := (fun k => match k with | 0 => 63 | 1 => 66 | _ => 70), ty := (fun _ => 49), Z := (fun _ => zs7.flatten), E := (fun k => match k with | 0 => so.flatten | 1 => es.flatten | _ => tp.flatten), hc := fun _ => true, cl := (fun k => match k with | 0 => 3 | 1 => 6 | _ => 10), f := (fun k => match k with | 0 => 22 | 1 => 26 | _ => 27), xs := (fun k => match k with | 0 => #[(.tmp 60), (.tmp 61), (.tmp 62)] | 1 => #[(.tmp 64), (.tmp 65)] | _ => #[(.tmp 67), (.tmp 68), (.tmp 69)]), ts := (fun k => match k with | 0 => #[31, 47, 31] | 1 => #[31, 47] | _ => #[47, 31, 49]), vs := (fun k => match k with | 0 => #[.agg (cellsOf seed).toArray, .int .u32 (key : Int), .agg (cellsOf x).toArray] | 1 => #[.agg (cellsOf seed).toArray, .int .u32 (key : Int)] | _ => #[.int .u32 (key : Int), .agg (cellsOf y).toArray, .agg (cellsOf (sg.flatten)).toArray]) } (F3) (by kernel_rfl) (by kernel_rfl) (by kernel_rfl) (by kernel_rfl) (Nat.le_of_ble_eq_true (by kernel_rfl)) (by kernel_rfl) (by kernel_rfl) ?_ ?_ ?_ ?_ (fun W W' h hb => h.below hb) (fun g W W' h hg ho => h.only ho hg) (fun W h => h.2.2.1) HS.out ?_
    · intro k hk
      rcases (show k = 0 ∨ k = 1 ∨ k = 2 by have hk : k < 3 := hk; omega) with rfl | rfl | rfl
      · exact ⟨by kernel_rfl, fun a o ho W => run_alloc_r7 a o ho W⟩
      · exact ⟨by kernel_rfl, fun a o ho W => run_alloc_r7 a o ho W⟩
      · exact ⟨by kernel_rfl, fun a o ho W => run_alloc_r7 a o ho W⟩
    · intro k hk
      rcases (show k = 0 ∨ k = 1 ∨ k = 2 by have hk : k < 3 := hk; omega) with rfl | rfl | rfl
      · exact ⟨by kernel_rfl, i7 so HSOD.out, by show (so.flatten).length = (zs7.flatten).length; rw [HSOD.out.flat, d67_zero.flat]⟩
      · exact ⟨by kernel_rfl, i7 es HESD.out, by show (es.flatten).length = (zs7.flatten).length; rw [HESD.out.flat, d67_zero.flat]⟩
      · exact ⟨by kernel_rfl, i7 tp HTPD.out, by show (tp.flatten).length = (zs7.flatten).length; rw [HTPD.out.flat, d67_zero.flat]⟩
    · intro k hk h0
      exact absurd (show true = false from h0) (by simp)
    · intro k hk _
      rcases (show k = 0 ∨ k = 1 ∨ k = 2 by have hk : k < 3 := hk; omega) with rfl | rfl | rfl
      · refine ⟨by kernel_rfl, ?_, fun W => ?_, fun W hW => HSIGN.out W⟩
        · show Array.map _ (#[(.tmp 60), (.tmp 61), (.tmp 62)] : Array Operand) = (#[.agg (cellsOf seed).toArray, .int .u32 (key : Int), .agg (cellsOf x).toArray] : Array Value)
          go_simp
        · show (callFunc 22 #[.agg (cellsOf seed).toArray, .int .u32 (key : Int), .agg (cellsOf x).toArray]).run Tryd.prog W = _
          go_simp
      · refine ⟨by kernel_rfl, ?_, fun W => ?_, fun W hW => HENDS.out W⟩
        · show Array.map _ (#[(.tmp 64), (.tmp 65)] : Array Operand) = (#[.agg (cellsOf seed).toArray, .int .u32 (key : Int)] : Array Value)
          go_simp
        · show (callFunc 26 #[.agg (cellsOf seed).toArray, .int .u32 (key : Int)]).run Tryd.prog W = _
          go_simp
      · refine ⟨by kernel_rfl, ?_, fun W => ?_, fun W hW => HTOPS.out W⟩
        · show Array.map _ (#[(.tmp 67), (.tmp 68), (.tmp 69)] : Array Operand) = (#[.int .u32 (key : Int), .agg (cellsOf y).toArray, .agg (cellsOf (sg.flatten)).toArray] : Array Value)
          go_simp
        · show (callFunc 27 #[.int .u32 (key : Int), .agg (cellsOf y).toArray, .agg (cellsOf (sg.flatten)).toArray]).run Tryd.prog W = _
          go_simp
    intro g wp hSp hrow hne
    have q0 : F3 ≤ g 0 ∧ Brow wp (g 0) 49 (so.flatten) := hrow 0 (show 0 < 3 by omega)
    have q1 : F3 ≤ g 1 ∧ Brow wp (g 1) 49 (es.flatten) := hrow 1 (show 1 < 3 by omega)
    have q2 : F3 ≤ g 2 ∧ Brow wp (g 2) 49 (tp.flatten) := hrow 2 (show 2 < 3 by omega)
    rw [Par.fin_three _ _ _ 63 14 66 15 70 16 (.agg (cellsOf (so.flatten)).toArray) (.agg (cellsOf (es.flatten)).toArray) (.agg (cellsOf (tp.flatten)).toArray) rfl rfl rfl rfl rfl rfl rfl rfl rfl rfl rfl rfl rfl]
    obtain ⟨g14, hg14⟩ : ∃ x, x = g 0 := ⟨_, rfl⟩
    rw [← hg14] at q0 ⊢
    clear hg14
    obtain ⟨g15, hg15⟩ : ∃ x, x = g 1 := ⟨_, rfl⟩
    rw [← hg15] at q1 ⊢
    clear hg15
    obtain ⟨g16, hg16⟩ : ∃ x, x = g 2 := ⟨_, rfl⟩
    rw [← hg16] at q2 ⊢
    clear hg16
    clear hrow hne
    simp only [Act.put, List.setIfInBounds_toArray, List.set_cons_zero, List.set_cons_succ]
    have HS := Lib.hid (show RF w wp.heap.size [(g16, 49, tp.flatten), (g15, 49, es.flatten), (g14, 49, so.flatten), (g13, 49, sg.flatten), (g12, 31, y), (g11, 31, x)] wp from by
      have h := ((hSp.add q0.2).add q1.2).add q2.2
      refine ⟨h.1, fun p hp => h.2.1 p ?_, h.2.2⟩
      rw [HL3.out]
      simp only [List.mem_cons, List.not_mem_nil, or_false] at hp ⊢
      rcases hp with rfl | rfl | rfl | rfl | rfl | rfl <;> simp)
    obtain ⟨F4, hF4⟩ : ∃ F, F = wp.heap.size := ⟨_, rfl⟩
    rw [← hF4] at HS
    clear hF4 hSp q0 q1 q2 HLX HLY R13 R12 R11 R0 HTAB HL3 HSIGN HENDS HTOPS i7
    obtain ⟨L4, hL4⟩ : ∃ L, L = [(g16, 49, tp.flatten), (g15, 49, es.flatten), (g14, 49, so.flatten), (g13, 49, sg.flatten), (g12, 31, y), (g11, 31, x)] := ⟨_, rfl⟩
    rw [← hL4] at HS
    have L16 := Lib.hid (fun W (hW : RF w F4 L4 W) => load_r7 W g16 tp HTPD.out (hW.get (t := 49) (x := tp.flatten) (by rw [hL4]; simp)))
    have L15 := Lib.hid (fun W (hW : RF w F4 L4 W) => load_r7 W g15 es HESD.out (hW.get (t := 49) (x := es.flatten) (by rw [hL4]; simp)))
    have L14 := Lib.hid (fun W (hW : RF w F4 L4 W) => load_r7 W g14 so HSOD.out (hW.get (t := 49) (x := so.flatten) (by rw [hL4]; simp)))
    have L13 := Lib.hid (fun W (hW : RF w F4 L4 W) => load_r7 W g13 sg HSG.out (hW.get (t := 49) (x := sg.flatten) (by rw [hL4]; simp)))
    have L12 := Lib.hid (fun W (hW : RF w F4 L4 W) => loadR W g12 y HY.out (hW.get (t := 31) (x := y) (by rw [hL4]; simp)))
    have L11 := Lib.hid (fun W (hW : RF w F4 L4 W) => loadR W g11 x HX.out (hW.get (t := 31) (x := x) (by rw [hL4]; simp)))
    have HL4 := Lib.hid hL4
    clear hL4
    have HTE := Lib.hid (fun W => eq_r7 tp es HTPD.out HESD.out W)
    have HXY := Lib.hid (fun W => eqRR W HY.out HX.out)
    have HGE := Lib.hid (fun W => eq_r7 sg so HSG.out HSOD.out W)
    by_cases hte : tp = es
    · have HTEE := Lib.hid hte
      rw [decide_eq_true hte] at HTE
      clear hte
      by_cases hyx : y = x
      · by_cases hgs : sg = so
        · rw [decide_eq_true hyx] at HXY
          rw [decide_eq_true hgs] at HGE
          clear hyx hgs
          go_wp2_with (first | (refine wpList_loadg 49 (.tmp 16) (by rfl) (by rfl) (.pointer (some ⟨g16, 0, none⟩)) (by rfl) (.agg (cellsOf tp.flatten).toArray) (L16.out _ HS.out) ?_) | (refine wpList_loadg 49 (.tmp 15) (by rfl) (by rfl) (.pointer (some ⟨g15, 0, none⟩)) (by rfl) (.agg (cellsOf es.flatten).toArray) (L15.out _ HS.out) ?_) | (refine wpList_loadg 49 (.tmp 14) (by rfl) (by rfl) (.pointer (some ⟨g14, 0, none⟩)) (by rfl) (.agg (cellsOf so.flatten).toArray) (L14.out _ HS.out) ?_) | (refine wpList_loadg 49 (.tmp 13) (by rfl) (by rfl) (.pointer (some ⟨g13, 0, none⟩)) (by rfl) (.agg (cellsOf sg.flatten).toArray) (L13.out _ HS.out) ?_) | (refine wpList_loadg 31 (.tmp 12) (by rfl) (by rfl) (.pointer (some ⟨g12, 0, none⟩)) (by rfl) (.agg (cellsOf y).toArray) (L12.out _ HS.out) ?_) | (refine wpList_loadg 31 (.tmp 11) (by rfl) (by rfl) (.pointer (some ⟨g11, 0, none⟩)) (by rfl) (.agg (cellsOf x).toArray) (L11.out _ HS.out) ?_) | (refine wpList_neqg 49 _ (.tmp 71) (.tmp 72) (by rfl) (by rfl) (cellsOf tp.flatten).toArray (cellsOf es.flatten).toArray (by rfl) (by rfl) HG7.out true (HTE.out _) ?_) | (refine wpList_eqg 31 _ (.tmp 79) (.tmp 80) (by rfl) (by rfl) (cellsOf y).toArray (cellsOf x).toArray (by rfl) (by rfl) HGT.out true (HXY.out _) ?_) | (refine wpList_eqg 49 _ (.tmp 83) (.tmp 84) (by rfl) (by rfl) (cellsOf sg.flatten).toArray (cellsOf so.flatten).toArray (by rfl) (by rfl) HG7.out true (HGE.out _) ?_))
          go_ret
          exact ⟨rfl, HS.out.1⟩
        · have HN := Lib.hid (show ¬ (y = x ∧ sg = so) from fun h => hgs h.2)
          rw [decide_eq_true hyx] at HXY
          rw [decide_eq_false hgs] at HGE
          clear hyx hgs
          go_wp2_with (first | (refine wpList_loadg 49 (.tmp 16) (by rfl) (by rfl) (.pointer (some ⟨g16, 0, none⟩)) (by rfl) (.agg (cellsOf tp.flatten).toArray) (L16.out _ HS.out) ?_) | (refine wpList_loadg 49 (.tmp 15) (by rfl) (by rfl) (.pointer (some ⟨g15, 0, none⟩)) (by rfl) (.agg (cellsOf es.flatten).toArray) (L15.out _ HS.out) ?_) | (refine wpList_loadg 49 (.tmp 14) (by rfl) (by rfl) (.pointer (some ⟨g14, 0, none⟩)) (by rfl) (.agg (cellsOf so.flatten).toArray) (L14.out _ HS.out) ?_) | (refine wpList_loadg 49 (.tmp 13) (by rfl) (by rfl) (.pointer (some ⟨g13, 0, none⟩)) (by rfl) (.agg (cellsOf sg.flatten).toArray) (L13.out _ HS.out) ?_) | (refine wpList_loadg 31 (.tmp 12) (by rfl) (by rfl) (.pointer (some ⟨g12, 0, none⟩)) (by rfl) (.agg (cellsOf y).toArray) (L12.out _ HS.out) ?_) | (refine wpList_loadg 31 (.tmp 11) (by rfl) (by rfl) (.pointer (some ⟨g11, 0, none⟩)) (by rfl) (.agg (cellsOf x).toArray) (L11.out _ HS.out) ?_) | (refine wpList_neqg 49 _ (.tmp 71) (.tmp 72) (by rfl) (by rfl) (cellsOf tp.flatten).toArray (cellsOf es.flatten).toArray (by rfl) (by rfl) HG7.out true (HTE.out _) ?_) | (refine wpList_eqg 31 _ (.tmp 79) (.tmp 80) (by rfl) (by rfl) (cellsOf y).toArray (cellsOf x).toArray (by rfl) (by rfl) HGT.out true (HXY.out _) ?_) | (refine wpList_eqg 49 _ (.tmp 83) (.tmp 84) (by rfl) (by rfl) (cellsOf sg.flatten).toArray (cellsOf so.flatten).toArray (by rfl) (by rfl) HG7.out false (HGE.out _) ?_))
          obtain ⟨dm, hdm⟩ : ∃ dm, dm = Dg.digs y := ⟨_, rfl⟩
          obtain ⟨dh, hdh⟩ : ∃ dh, dh = Dg.digs x := ⟨_, rfl⟩
          have HDML := Lib.hid (show dm.length = 67 from by rw [hdm, Dg.digs_len, HY.out.1])
          have HDHL := Lib.hid (show dh.length = 67 from by rw [hdh, Dg.digs_len, HX.out.1])
          have HDIG1 := Lib.hid (show ∀ W, Calls Tryd.prog 29 #[.agg (cellsOf y).toArray] W (DigRet dm W) from fun W => by rw [hdm]; exact rdigits_c y W HY.out)
          have HDIG2 := Lib.hid (show ∀ W, Calls Tryd.prog 29 #[.agg (cellsOf x).toArray] W (DigRet dh W) from fun W => by rw [hdh]; exact rdigits_c x W HX.out)
          have HM15 := Lib.hid (show ∀ c, dm.getD c 0 ≤ 15 from fun c => by rw [hdm]; exact Ch.dig_le y HY.out c)
          have HH15 := Lib.hid (show ∀ c, dh.getD c 0 ≤ 15 from fun c => by rw [hdh]; exact Ch.dig_le x HX.out c)
          have HFG := Lib.hid (show ∃ c, c < 67 ∧ Ch.meetsB key c (sg.getD c []) (dm.getD c 0) (so.getD c []) (dh.getD c 0) = true from by
            have := Ch.forged seed key x y sg HX.out HY.out HSG.out.1 (by rw [← HTPE.out, ← HESE.out, HTEE.out]) (fun h => HN.out ⟨h.1, by rw [HSO.out]; exact h.2⟩)
            rwa [← hdm, ← hdh, ← HSO.out] at this)
          clear hdm hdh
          (try dsimp only [Act.put, List.setIfInBounds_toArray, List.set_cons_zero, List.set_cons_succ])
          have HS := Lib.hid HS.out.drew
          refine anyH_begin (S := RF w F4 L4) (by kernel_rfl) ?_
          refine anyH_loadG 0 (d := 87) (ty := 31) (x := (.tmp 12)) (gd := none) (p := .pointer (some ⟨g12, 0, none⟩)) (.agg (cellsOf y).toArray) (by rfl) (fun o ho => wanted_plain ho _) (by kernel_rfl) (by kernel_rfl) (by kernel_rfl) (fun _ _ _ h => h) (by rfl) L12.out HS.out ?_
          simp only [Act.put, List.setIfInBounds_toArray, List.set_cons_zero, List.set_cons_succ]
          refine anyH_loadG 2 (d := 89) (ty := 31) (x := (.tmp 11)) (gd := none) (p := .pointer (some ⟨g11, 0, none⟩)) (.agg (cellsOf x).toArray) (by rfl) (fun o ho => wanted_plain ho _) (by kernel_rfl) (by kernel_rfl) (by kernel_rfl) (fun _ _ _ h => h) (by rfl) L11.out HS.out ?_
          simp only [Act.put, List.setIfInBounds_toArray, List.set_cons_zero, List.set_cons_succ]
          refine anyH_par { n := 2, al := (fun k => match k with | 0 => 4 | _ => 5), st := (fun k => match k with | 0 => 6 | _ => 7), d := (fun k => match k with | 0 => 17 | _ => 18), v := (fun k => match k with | 0 => 88 | _ => 90), ty := (fun _ => 59), Z := (fun _ => zs67), E := (fun k => match k with | 0 => dm | _ => dh), hc := fun _ => true, cl := (fun k => match k with | 0 => 1 | _ => 3), f := (fun _ => 29), xs := (fun k => match k with | 0 => #[(.tmp 87)] | _ => #[(.tmp 89)]), ts := (fun _ => #[31]), vs := (fun k => match k with | 0 => #[.agg (cellsOf y).toArray] | _ => #[.agg (cellsOf x).toArray]) } (F4) (by kernel_rfl) (by kernel_rfl) (by kernel_rfl) (by kernel_rfl) (Nat.le_of_ble_eq_true (by kernel_rfl)) (by kernel_rfl) (by kernel_rfl) ?_ ?_ ?_ ?_ (fun W W' h hb => h.below hb) (fun g W W' h hg ho => h.only ho hg) (fun W h => h.2.2.1) HS.out ?_
          · intro k hk
            rcases (show k = 0 ∨ k = 1 by have hk : k < 2 := hk; omega) with rfl | rfl
            · exact ⟨by kernel_rfl, fun a o ho W => run_alloc_b7 a o ho W⟩
            · exact ⟨by kernel_rfl, fun a o ho W => run_alloc_b7 a o ho W⟩
          · intro k hk
            rcases (show k = 0 ∨ k = 1 by have hk : k < 2 := hk; omega) with rfl | rfl
            · exact ⟨by kernel_rfl, info_d67 dm HDML.out, by show (dm).length = (zs67).length; rw [HDML.out, (show zs67.length = 67 from rfl)]⟩
            · exact ⟨by kernel_rfl, info_d67 dh HDHL.out, by show (dh).length = (zs67).length; rw [HDHL.out, (show zs67.length = 67 from rfl)]⟩
          · intro k hk h0
            exact absurd (show true = false from h0) (by simp)
          · intro k hk _
            rcases (show k = 0 ∨ k = 1 by have hk : k < 2 := hk; omega) with rfl | rfl
            · refine ⟨by kernel_rfl, ?_, fun W => ?_, fun W hW => HDIG1.out W⟩
              · show Array.map _ (#[(.tmp 87)] : Array Operand) = (#[.agg (cellsOf y).toArray] : Array Value)
                go_simp
              · show (callFunc 29 #[.agg (cellsOf y).toArray]).run Tryd.prog W = _
                go_simp
            · refine ⟨by kernel_rfl, ?_, fun W => ?_, fun W hW => HDIG2.out W⟩
              · show Array.map _ (#[(.tmp 89)] : Array Operand) = (#[.agg (cellsOf x).toArray] : Array Value)
                go_simp
              · show (callFunc 29 #[.agg (cellsOf x).toArray]).run Tryd.prog W = _
                go_simp
          intro g wp hSp hrow hne
          have q0 : F4 ≤ g 0 ∧ Brow wp (g 0) 59 (dm) := hrow 0 (show 0 < 2 by omega)
          have q1 : F4 ≤ g 1 ∧ Brow wp (g 1) 59 (dh) := hrow 1 (show 1 < 2 by omega)
          rw [Par.fin_two _ _ _ 88 17 90 18 (.agg (cellsOf (dm)).toArray) (.agg (cellsOf (dh)).toArray) rfl rfl rfl rfl rfl rfl rfl rfl rfl]
          obtain ⟨g17, hg17⟩ : ∃ x, x = g 0 := ⟨_, rfl⟩
          rw [← hg17] at q0 ⊢
          clear hg17
          obtain ⟨g18, hg18⟩ : ∃ x, x = g 1 := ⟨_, rfl⟩
          rw [← hg18] at q1 ⊢
          clear hg18
          clear hrow hne
          simp only [Act.put, List.setIfInBounds_toArray, List.set_cons_zero, List.set_cons_succ]
          have HS := Lib.hid (show RF w wp.heap.size [(g18, 59, dh), (g17, 59, dm), (g14, 49, so.flatten), (g13, 49, sg.flatten)] wp from by
            have h := (hSp.add q0.2).add q1.2
            refine ⟨h.1, fun p hp => h.2.1 p ?_, h.2.2⟩
            rw [HL4.out]
            simp only [List.mem_cons, List.not_mem_nil, or_false] at hp ⊢
            rcases hp with rfl | rfl | rfl | rfl <;> simp)
          obtain ⟨F5, hF5⟩ : ∃ F, F = wp.heap.size := ⟨_, rfl⟩
          rw [← hF5] at HS
          clear hF5 hSp q0 q1 L16 L15 L14 L13 L12 L11 HL4 HTE HXY HGE HDIG1 HDIG2 HPR1 HPR2
          obtain ⟨L5, hL5⟩ : ∃ L, L = [(g18, 59, dh), (g17, 59, dm), (g14, 49, so.flatten), (g13, 49, sg.flatten)] := ⟨_, rfl⟩
          rw [← hL5] at HS
          have B18 := Lib.hid (fun W (hW : RF w F5 L5 W) => hW.get (g := g18) (t := 59) (x := dh) (by rw [hL5]; simp))
          have B17 := Lib.hid (fun W (hW : RF w F5 L5 W) => hW.get (g := g17) (t := 59) (x := dm) (by rw [hL5]; simp))
          have B14 := Lib.hid (fun W (hW : RF w F5 L5 W) => hW.get (g := g14) (t := 49) (x := so.flatten) (by rw [hL5]; simp))
          have B13 := Lib.hid (fun W (hW : RF w F5 L5 W) => hW.get (g := g13) (t := 49) (x := sg.flatten) (by rw [hL5]; simp))
          clear hL5
          go_wp2_with fail
          go_loopw [91] (fun i wr => ∃ k : Nat, k ≤ 67 ∧ i = .int .i64 (k : Int) ∧ Hid (RF w F5 L5 wr) ∧ Hid (∀ c, c < k → Ch.meetsB key c (sg.getD c []) (dm.getD c 0) (so.getD c []) (dh.getD c 0) = false)) (fun i _ => 67 - (intOf i).toNat)
          case atStart => exact ⟨0, by omega, rfl, HS, Lib.hid (fun c hc => by omega)⟩
          case round =>
            clear HS
            obtain ⟨k, hk1, rfl, HW, HF⟩ := hrel
            by_cases hk67 : k < 67
            · obtain ⟨sk, hsk⟩ : ∃ s, s = sg.getD k [] := ⟨_, rfl⟩
              obtain ⟨ok, hok⟩ : ∃ s, s = so.getD k [] := ⟨_, rfl⟩
              obtain ⟨mk, hmk⟩ : ∃ s, s = dm.getD k 0 := ⟨_, rfl⟩
              obtain ⟨hk2, hhk⟩ : ∃ s, s = dh.getD k 0 := ⟨_, rfl⟩
              have hm15 : mk ≤ 15 := by rw [hmk]; exact HM15.out k
              have hh15 : hk2 ≤ 15 := by rw [hhk]; exact HH15.out k
              have hskd : D32 sk := by rw [hsk]; exact HSG.out.get k hk67
              have hokd : D32 ok := by rw [hok]; exact HSOD.out.get k hk67
              obtain ⟨R, hR⟩ : ∃ R, R = Ch.meetsB key k sk mk ok hk2 := ⟨_, rfl⟩
              have HMT := Lib.hid (show ∀ W, Calls Tryd.prog 30 #[.int .u32 (key : Int), .int .u8 (k : Int), .agg (cellsOf sk).toArray, .int .i64 (mk : Int), .agg (cellsOf ok).toArray, .int .i64 (hk2 : Int)] W (fun e W' => e = .returned (.bool R) ∧ Below W.heap.size W W') from fun W => by rw [hR]; exact meets_c key k sk ok mk hk2 W hskd hokd hk (by omega) hm15 hh15)
              have HRE := Lib.hid (show R = Ch.meetsB key k (sg.getD k []) (dm.getD k 0) (so.getD k []) (dh.getD k 0) from by rw [hR, hsk, hok, hmk, hhk])
              have hwr : IntKind.u8.wrap (k : Int) = (k : Int) := by rw [IntKind.wrap_u8]; omega
              have hwm : IntKind.i64.wrap (mk : Int) = (mk : Int) := by simp [IntKind.wrap, IntKind.bits, IntKind.signed]; omega
              have hwh : IntKind.i64.wrap (hk2 : Int) = (hk2 : Int) := by simp [IntKind.wrap, IntKind.bits, IntKind.signed]; omega
              have hkI : (k : Int) < 67 := by omega
              have HSK := Lib.hid hsk
              have HOK := Lib.hid hok
              have HMK := Lib.hid hmk
              have HHK := Lib.hid hhk
              clear hR hskd hokd hsk hok hmk hhk
              go_wp2_with fail
              (try dsimp only [Act.put, List.setIfInBounds_toArray, List.set_cons_zero, List.set_cons_succ])
              have HW := Lib.hid HW.out.drew
              refine anyH_begin (S := RF w F5 L5) (by kernel_rfl) ?_
              refine anyH_pureG 0 (d := 94) (op := .move (.tmp 1)) (gd := none) (.int .u32 (key : Int)) (by rfl) (fun o ho => wanted_plain ho _) (by kernel_rfl) (by kernel_rfl) (by kernel_rfl) (fun _ _ _ h => h) (fun o ho W hW => by unfold execOp; simp only [ho]; go_simp) HW.out ?_
              simp only [Act.put, List.setIfInBounds_toArray, List.set_cons_zero, List.set_cons_succ]
              refine anyH_pureG 1 (d := 95) (op := .move (.tmp 19)) (gd := none) (.int .i64 (k : Int)) (by rfl) (fun o ho => wanted_plain ho _) (by kernel_rfl) (by kernel_rfl) (by kernel_rfl) (fun _ _ _ h => h) (fun o ho W hW => by unfold execOp; simp only [ho]; go_simp) HW.out ?_
              simp only [Act.put, List.setIfInBounds_toArray, List.set_cons_zero, List.set_cons_succ]
              refine anyH_pureG 2 (d := 96) (op := .convert 3 5 (.tmp 95)) (gd := none) (.int .u8 (k : Int)) (by rfl) (fun o ho => wanted_plain ho _) (by kernel_rfl) (by kernel_rfl) (by kernel_rfl) (fun _ _ _ h => h) (fun o ho W hW => by unfold execOp; simp only [ho]; go_simp) HW.out ?_
              simp only [Act.put, List.setIfInBounds_toArray, List.set_cons_zero, List.set_cons_succ]
              refine anyH_pureG 3 (d := 97) (op := .move (.tmp 19)) (gd := none) (.int .i64 (k : Int)) (by rfl) (fun o ho => wanted_plain ho _) (by kernel_rfl) (by kernel_rfl) (by kernel_rfl) (fun _ _ _ h => h) (fun o ho W hW => by unfold execOp; simp only [ho]; go_simp) HW.out ?_
              simp only [Act.put, List.setIfInBounds_toArray, List.set_cons_zero, List.set_cons_succ]
              refine anyH_pureG 4 (d := 98) (op := .indexAddr 49 (.tmp 13) (.tmp 97)) (gd := none) (.pointer (some ⟨g13, k * 32, none⟩)) (by rfl) (fun o ho => wanted_plain ho _) (by kernel_rfl) (by kernel_rfl) (by kernel_rfl) (fun _ _ _ h => h) (fun o ho W hW => by unfold execOp; simp only [ho]; go_simp) HW.out ?_
              simp only [Act.put, List.setIfInBounds_toArray, List.set_cons_zero, List.set_cons_succ]
              refine anyH_loadG 5 (d := 99) (ty := 31) (x := (.tmp 98)) (gd := none) (p := .pointer (some ⟨g13, k * 32, none⟩)) (.agg (cellsOf sk).toArray) (by rfl) (fun o ho => wanted_plain ho _) (by kernel_rfl) (by kernel_rfl) (by kernel_rfl) (fun _ _ _ h => h) (by rfl) (fun W hW => by rw [HSK.out]; exact load_at 31 Tryd.underlying31 info_a32 W g13 _ sg (B13.out W hW) HSG.out k hk67) HW.out ?_
              simp only [Act.put, List.setIfInBounds_toArray, List.set_cons_zero, List.set_cons_succ]
              refine anyH_pureG 6 (d := 100) (op := .move (.tmp 19)) (gd := none) (.int .i64 (k : Int)) (by rfl) (fun o ho => wanted_plain ho _) (by kernel_rfl) (by kernel_rfl) (by kernel_rfl) (fun _ _ _ h => h) (fun o ho W hW => by unfold execOp; simp only [ho]; go_simp) HW.out ?_
              simp only [Act.put, List.setIfInBounds_toArray, List.set_cons_zero, List.set_cons_succ]
              refine anyH_pureG 7 (d := 101) (op := .indexAddr 59 (.tmp 17) (.tmp 100)) (gd := none) (.pointer (some ⟨g17, k, none⟩)) (by rfl) (fun o ho => wanted_plain ho _) (by kernel_rfl) (by kernel_rfl) (by kernel_rfl) (fun _ _ _ h => h) (fun o ho W hW => by unfold execOp; simp only [ho]; go_simp) HW.out ?_
              simp only [Act.put, List.setIfInBounds_toArray, List.set_cons_zero, List.set_cons_succ]
              refine anyH_loadG 8 (d := 102) (ty := 5) (x := (.tmp 101)) (gd := none) (p := .pointer (some ⟨g17, k, none⟩)) (.int .u8 (mk : Int)) (by rfl) (fun o ho => wanted_plain ho _) (by kernel_rfl) (by kernel_rfl) (by kernel_rfl) (fun _ _ _ h => h) (by rfl) (fun W hW => load_b7 W g17 dm k mk (B17.out W hW) (by rw [HDML.out]; exact hk67) HMK.out.symm) HW.out ?_
              simp only [Act.put, List.setIfInBounds_toArray, List.set_cons_zero, List.set_cons_succ]
              refine anyH_pureG 9 (d := 103) (op := .convert 5 3 (.tmp 102)) (gd := none) (.int .i64 (mk : Int)) (by rfl) (fun o ho => wanted_plain ho _) (by kernel_rfl) (by kernel_rfl) (by kernel_rfl) (fun _ _ _ h => h) (fun o ho W hW => by unfold execOp; simp only [ho]; go_simp) HW.out ?_
              simp only [Act.put, List.setIfInBounds_toArray, List.set_cons_zero, List.set_cons_succ]
              refine anyH_pureG 10 (d := 104) (op := .move (.tmp 19)) (gd := none) (.int .i64 (k : Int)) (by rfl) (fun o ho => wanted_plain ho _) (by kernel_rfl) (by kernel_rfl) (by kernel_rfl) (fun _ _ _ h => h) (fun o ho W hW => by unfold execOp; simp only [ho]; go_simp) HW.out ?_
              simp only [Act.put, List.setIfInBounds_toArray, List.set_cons_zero, List.set_cons_succ]
              refine anyH_pureG 11 (d := 105) (op := .indexAddr 49 (.tmp 14) (.tmp 104)) (gd := none) (.pointer (some ⟨g14, k * 32, none⟩)) (by rfl) (fun o ho => wanted_plain ho _) (by kernel_rfl) (by kernel_rfl) (by kernel_rfl) (fun _ _ _ h => h) (fun o ho W hW => by unfold execOp; simp only [ho]; go_simp) HW.out ?_
              simp only [Act.put, List.setIfInBounds_toArray, List.set_cons_zero, List.set_cons_succ]
              refine anyH_loadG 12 (d := 106) (ty := 31) (x := (.tmp 105)) (gd := none) (p := .pointer (some ⟨g14, k * 32, none⟩)) (.agg (cellsOf ok).toArray) (by rfl) (fun o ho => wanted_plain ho _) (by kernel_rfl) (by kernel_rfl) (by kernel_rfl) (fun _ _ _ h => h) (by rfl) (fun W hW => by rw [HOK.out]; exact load_at 31 Tryd.underlying31 info_a32 W g14 _ so (B14.out W hW) HSOD.out k hk67) HW.out ?_
              simp only [Act.put, List.setIfInBounds_toArray, List.set_cons_zero, List.set_cons_succ]
              refine anyH_pureG 13 (d := 107) (op := .move (.tmp 19)) (gd := none) (.int .i64 (k : Int)) (by rfl) (fun o ho => wanted_plain ho _) (by kernel_rfl) (by kernel_rfl) (by kernel_rfl) (fun _ _ _ h => h) (fun o ho W hW => by unfold execOp; simp only [ho]; go_simp) HW.out ?_
              simp only [Act.put, List.setIfInBounds_toArray, List.set_cons_zero, List.set_cons_succ]
              refine anyH_pureG 14 (d := 108) (op := .indexAddr 59 (.tmp 18) (.tmp 107)) (gd := none) (.pointer (some ⟨g18, k, none⟩)) (by rfl) (fun o ho => wanted_plain ho _) (by kernel_rfl) (by kernel_rfl) (by kernel_rfl) (fun _ _ _ h => h) (fun o ho W hW => by unfold execOp; simp only [ho]; go_simp) HW.out ?_
              simp only [Act.put, List.setIfInBounds_toArray, List.set_cons_zero, List.set_cons_succ]
              refine anyH_loadG 15 (d := 109) (ty := 5) (x := (.tmp 108)) (gd := none) (p := .pointer (some ⟨g18, k, none⟩)) (.int .u8 (hk2 : Int)) (by rfl) (fun o ho => wanted_plain ho _) (by kernel_rfl) (by kernel_rfl) (by kernel_rfl) (fun _ _ _ h => h) (by rfl) (fun W hW => load_b7 W g18 dh k hk2 (B18.out W hW) (by rw [HDHL.out]; exact hk67) HHK.out.symm) HW.out ?_
              simp only [Act.put, List.setIfInBounds_toArray, List.set_cons_zero, List.set_cons_succ]
              refine anyH_pureG 16 (d := 110) (op := .convert 5 3 (.tmp 109)) (gd := none) (.int .i64 (hk2 : Int)) (by rfl) (fun o ho => wanted_plain ho _) (by kernel_rfl) (by kernel_rfl) (by kernel_rfl) (fun _ _ _ h => h) (fun o ho W hW => by unfold execOp; simp only [ho]; go_simp) HW.out ?_
              simp only [Act.put, List.setIfInBounds_toArray, List.set_cons_zero, List.set_cons_succ]
              refine anyH_callG 17 (d := some 111) (f := 30) (xs := #[(.tmp 94), (.tmp 96), (.tmp 99), (.tmp 103), (.tmp 106), (.tmp 110)]) (ts := #[47, 5, 31, 3, 31, 3]) (gd := none) (vs := #[.int .u32 (key : Int), .int .u8 (k : Int), .agg (cellsOf sk).toArray, .int .i64 (mk : Int), .agg (cellsOf ok).toArray, .int .i64 (hk2 : Int)]) (by kernel_rfl) (by rfl) (fun o ho => wanted_plain ho _) (by go_simp) (by go_simp) (HMT.out _) ?_
              rintro e98 w98 ⟨rfl, hb98⟩
              refine ⟨_, rfl, HW.out.below hb98, fun hS98 => ?_⟩
              have HW := Lib.hid hS98
              clear hS98 hb98
              simp only [Act.put, List.setIfInBounds_toArray, List.set_cons_zero, List.set_cons_succ]
              refine wpAnyH_done (by kernel_rfl) ?_ _
              clear hwr hwm hwh hkI
              cases R with
              | true =>
                go_wp2_with fail
                go_ret
                exact ⟨rfl, HW.out.1⟩
              | false =>
                go_wp2_with fail
                go_roundw
                case rel => exact ⟨k + 1, by omega, by go_num, HW, Lib.hid (fun c hc => by
                  by_cases e : c = k
                  · subst e; exact HRE.out.symm
                  · exact HF.out c (by omega))⟩
                case measure => simp [intOf]; omega
            · obtain rfl : k = 67 := by omega
              exfalso
              obtain ⟨c, hc, hct⟩ := HFG.out
              rw [HF.out c hc] at hct
              cases hct
      · have HN := Lib.hid (show ¬ (y = x ∧ sg = so) from fun h => hyx h.1)
        rw [decide_eq_false hyx] at HXY
        clear hyx
        go_wp2_with (first | (refine wpList_loadg 49 (.tmp 16) (by rfl) (by rfl) (.pointer (some ⟨g16, 0, none⟩)) (by rfl) (.agg (cellsOf tp.flatten).toArray) (L16.out _ HS.out) ?_) | (refine wpList_loadg 49 (.tmp 15) (by rfl) (by rfl) (.pointer (some ⟨g15, 0, none⟩)) (by rfl) (.agg (cellsOf es.flatten).toArray) (L15.out _ HS.out) ?_) | (refine wpList_loadg 49 (.tmp 14) (by rfl) (by rfl) (.pointer (some ⟨g14, 0, none⟩)) (by rfl) (.agg (cellsOf so.flatten).toArray) (L14.out _ HS.out) ?_) | (refine wpList_loadg 49 (.tmp 13) (by rfl) (by rfl) (.pointer (some ⟨g13, 0, none⟩)) (by rfl) (.agg (cellsOf sg.flatten).toArray) (L13.out _ HS.out) ?_) | (refine wpList_loadg 31 (.tmp 12) (by rfl) (by rfl) (.pointer (some ⟨g12, 0, none⟩)) (by rfl) (.agg (cellsOf y).toArray) (L12.out _ HS.out) ?_) | (refine wpList_loadg 31 (.tmp 11) (by rfl) (by rfl) (.pointer (some ⟨g11, 0, none⟩)) (by rfl) (.agg (cellsOf x).toArray) (L11.out _ HS.out) ?_) | (refine wpList_neqg 49 _ (.tmp 71) (.tmp 72) (by rfl) (by rfl) (cellsOf tp.flatten).toArray (cellsOf es.flatten).toArray (by rfl) (by rfl) HG7.out true (HTE.out _) ?_) | (refine wpList_eqg 31 _ (.tmp 79) (.tmp 80) (by rfl) (by rfl) (cellsOf y).toArray (cellsOf x).toArray (by rfl) (by rfl) HGT.out false (HXY.out _) ?_) | (refine wpList_eqg 49 _ (.tmp 83) (.tmp 84) (by rfl) (by rfl) (cellsOf sg.flatten).toArray (cellsOf so.flatten).toArray (by rfl) (by rfl) HG7.out false (HGE.out _) ?_))
        obtain ⟨dm, hdm⟩ : ∃ dm, dm = Dg.digs y := ⟨_, rfl⟩
        obtain ⟨dh, hdh⟩ : ∃ dh, dh = Dg.digs x := ⟨_, rfl⟩
        have HDML := Lib.hid (show dm.length = 67 from by rw [hdm, Dg.digs_len, HY.out.1])
        have HDHL := Lib.hid (show dh.length = 67 from by rw [hdh, Dg.digs_len, HX.out.1])
        have HDIG1 := Lib.hid (show ∀ W, Calls Tryd.prog 29 #[.agg (cellsOf y).toArray] W (DigRet dm W) from fun W => by rw [hdm]; exact rdigits_c y W HY.out)
        have HDIG2 := Lib.hid (show ∀ W, Calls Tryd.prog 29 #[.agg (cellsOf x).toArray] W (DigRet dh W) from fun W => by rw [hdh]; exact rdigits_c x W HX.out)
        have HM15 := Lib.hid (show ∀ c, dm.getD c 0 ≤ 15 from fun c => by rw [hdm]; exact Ch.dig_le y HY.out c)
        have HH15 := Lib.hid (show ∀ c, dh.getD c 0 ≤ 15 from fun c => by rw [hdh]; exact Ch.dig_le x HX.out c)
        have HFG := Lib.hid (show ∃ c, c < 67 ∧ Ch.meetsB key c (sg.getD c []) (dm.getD c 0) (so.getD c []) (dh.getD c 0) = true from by
          have := Ch.forged seed key x y sg HX.out HY.out HSG.out.1 (by rw [← HTPE.out, ← HESE.out, HTEE.out]) (fun h => HN.out ⟨h.1, by rw [HSO.out]; exact h.2⟩)
          rwa [← hdm, ← hdh, ← HSO.out] at this)
        clear hdm hdh
        (try dsimp only [Act.put, List.setIfInBounds_toArray, List.set_cons_zero, List.set_cons_succ])
        have HS := Lib.hid HS.out.drew
        refine anyH_begin (S := RF w F4 L4) (by kernel_rfl) ?_
        refine anyH_loadG 0 (d := 87) (ty := 31) (x := (.tmp 12)) (gd := none) (p := .pointer (some ⟨g12, 0, none⟩)) (.agg (cellsOf y).toArray) (by rfl) (fun o ho => wanted_plain ho _) (by kernel_rfl) (by kernel_rfl) (by kernel_rfl) (fun _ _ _ h => h) (by rfl) L12.out HS.out ?_
        simp only [Act.put, List.setIfInBounds_toArray, List.set_cons_zero, List.set_cons_succ]
        refine anyH_loadG 2 (d := 89) (ty := 31) (x := (.tmp 11)) (gd := none) (p := .pointer (some ⟨g11, 0, none⟩)) (.agg (cellsOf x).toArray) (by rfl) (fun o ho => wanted_plain ho _) (by kernel_rfl) (by kernel_rfl) (by kernel_rfl) (fun _ _ _ h => h) (by rfl) L11.out HS.out ?_
        simp only [Act.put, List.setIfInBounds_toArray, List.set_cons_zero, List.set_cons_succ]
        refine anyH_par { n := 2, al := (fun k => match k with | 0 => 4 | _ => 5), st := (fun k => match k with | 0 => 6 | _ => 7), d := (fun k => match k with | 0 => 17 | _ => 18), v := (fun k => match k with | 0 => 88 | _ => 90), ty := (fun _ => 59), Z := (fun _ => zs67), E := (fun k => match k with | 0 => dm | _ => dh), hc := fun _ => true, cl := (fun k => match k with | 0 => 1 | _ => 3), f := (fun _ => 29), xs := (fun k => match k with | 0 => #[(.tmp 87)] | _ => #[(.tmp 89)]), ts := (fun _ => #[31]), vs := (fun k => match k with | 0 => #[.agg (cellsOf y).toArray] | _ => #[.agg (cellsOf x).toArray]) } (F4) (by kernel_rfl) (by kernel_rfl) (by kernel_rfl) (by kernel_rfl) (Nat.le_of_ble_eq_true (by kernel_rfl)) (by kernel_rfl) (by kernel_rfl) ?_ ?_ ?_ ?_ (fun W W' h hb => h.below hb) (fun g W W' h hg ho => h.only ho hg) (fun W h => h.2.2.1) HS.out ?_
        · intro k hk
          rcases (show k = 0 ∨ k = 1 by have hk : k < 2 := hk; omega) with rfl | rfl
          · exact ⟨by kernel_rfl, fun a o ho W => run_alloc_b7 a o ho W⟩
          · exact ⟨by kernel_rfl, fun a o ho W => run_alloc_b7 a o ho W⟩
        · intro k hk
          rcases (show k = 0 ∨ k = 1 by have hk : k < 2 := hk; omega) with rfl | rfl
          · exact ⟨by kernel_rfl, info_d67 dm HDML.out, by show (dm).length = (zs67).length; rw [HDML.out, (show zs67.length = 67 from rfl)]⟩
          · exact ⟨by kernel_rfl, info_d67 dh HDHL.out, by show (dh).length = (zs67).length; rw [HDHL.out, (show zs67.length = 67 from rfl)]⟩
        · intro k hk h0
          exact absurd (show true = false from h0) (by simp)
        · intro k hk _
          rcases (show k = 0 ∨ k = 1 by have hk : k < 2 := hk; omega) with rfl | rfl
          · refine ⟨by kernel_rfl, ?_, fun W => ?_, fun W hW => HDIG1.out W⟩
            · show Array.map _ (#[(.tmp 87)] : Array Operand) = (#[.agg (cellsOf y).toArray] : Array Value)
              go_simp
            · show (callFunc 29 #[.agg (cellsOf y).toArray]).run Tryd.prog W = _
              go_simp
          · refine ⟨by kernel_rfl, ?_, fun W => ?_, fun W hW => HDIG2.out W⟩
            · show Array.map _ (#[(.tmp 89)] : Array Operand) = (#[.agg (cellsOf x).toArray] : Array Value)
              go_simp
            · show (callFunc 29 #[.agg (cellsOf x).toArray]).run Tryd.prog W = _
              go_simp
        intro g wp hSp hrow hne
        have q0 : F4 ≤ g 0 ∧ Brow wp (g 0) 59 (dm) := hrow 0 (show 0 < 2 by omega)
        have q1 : F4 ≤ g 1 ∧ Brow wp (g 1) 59 (dh) := hrow 1 (show 1 < 2 by omega)
        rw [Par.fin_two _ _ _ 88 17 90 18 (.agg (cellsOf (dm)).toArray) (.agg (cellsOf (dh)).toArray) rfl rfl rfl rfl rfl rfl rfl rfl rfl]
        obtain ⟨g17, hg17⟩ : ∃ x, x = g 0 := ⟨_, rfl⟩
        rw [← hg17] at q0 ⊢
        clear hg17
        obtain ⟨g18, hg18⟩ : ∃ x, x = g 1 := ⟨_, rfl⟩
        rw [← hg18] at q1 ⊢
        clear hg18
        clear hrow hne
        simp only [Act.put, List.setIfInBounds_toArray, List.set_cons_zero, List.set_cons_succ]
        have HS := Lib.hid (show RF w wp.heap.size [(g18, 59, dh), (g17, 59, dm), (g14, 49, so.flatten), (g13, 49, sg.flatten)] wp from by
          have h := (hSp.add q0.2).add q1.2
          refine ⟨h.1, fun p hp => h.2.1 p ?_, h.2.2⟩
          rw [HL4.out]
          simp only [List.mem_cons, List.not_mem_nil, or_false] at hp ⊢
          rcases hp with rfl | rfl | rfl | rfl <;> simp)
        obtain ⟨F5, hF5⟩ : ∃ F, F = wp.heap.size := ⟨_, rfl⟩
        rw [← hF5] at HS
        clear hF5 hSp q0 q1 L16 L15 L14 L13 L12 L11 HL4 HTE HXY HGE HDIG1 HDIG2 HPR1 HPR2
        obtain ⟨L5, hL5⟩ : ∃ L, L = [(g18, 59, dh), (g17, 59, dm), (g14, 49, so.flatten), (g13, 49, sg.flatten)] := ⟨_, rfl⟩
        rw [← hL5] at HS
        have B18 := Lib.hid (fun W (hW : RF w F5 L5 W) => hW.get (g := g18) (t := 59) (x := dh) (by rw [hL5]; simp))
        have B17 := Lib.hid (fun W (hW : RF w F5 L5 W) => hW.get (g := g17) (t := 59) (x := dm) (by rw [hL5]; simp))
        have B14 := Lib.hid (fun W (hW : RF w F5 L5 W) => hW.get (g := g14) (t := 49) (x := so.flatten) (by rw [hL5]; simp))
        have B13 := Lib.hid (fun W (hW : RF w F5 L5 W) => hW.get (g := g13) (t := 49) (x := sg.flatten) (by rw [hL5]; simp))
        clear hL5
        go_wp2_with fail
        go_loopw [91] (fun i wr => ∃ k : Nat, k ≤ 67 ∧ i = .int .i64 (k : Int) ∧ Hid (RF w F5 L5 wr) ∧ Hid (∀ c, c < k → Ch.meetsB key c (sg.getD c []) (dm.getD c 0) (so.getD c []) (dh.getD c 0) = false)) (fun i _ => 67 - (intOf i).toNat)
        case atStart => exact ⟨0, by omega, rfl, HS, Lib.hid (fun c hc => by omega)⟩
        case round =>
          clear HS
          obtain ⟨k, hk1, rfl, HW, HF⟩ := hrel
          by_cases hk67 : k < 67
          · obtain ⟨sk, hsk⟩ : ∃ s, s = sg.getD k [] := ⟨_, rfl⟩
            obtain ⟨ok, hok⟩ : ∃ s, s = so.getD k [] := ⟨_, rfl⟩
            obtain ⟨mk, hmk⟩ : ∃ s, s = dm.getD k 0 := ⟨_, rfl⟩
            obtain ⟨hk2, hhk⟩ : ∃ s, s = dh.getD k 0 := ⟨_, rfl⟩
            have hm15 : mk ≤ 15 := by rw [hmk]; exact HM15.out k
            have hh15 : hk2 ≤ 15 := by rw [hhk]; exact HH15.out k
            have hskd : D32 sk := by rw [hsk]; exact HSG.out.get k hk67
            have hokd : D32 ok := by rw [hok]; exact HSOD.out.get k hk67
            obtain ⟨R, hR⟩ : ∃ R, R = Ch.meetsB key k sk mk ok hk2 := ⟨_, rfl⟩
            have HMT := Lib.hid (show ∀ W, Calls Tryd.prog 30 #[.int .u32 (key : Int), .int .u8 (k : Int), .agg (cellsOf sk).toArray, .int .i64 (mk : Int), .agg (cellsOf ok).toArray, .int .i64 (hk2 : Int)] W (fun e W' => e = .returned (.bool R) ∧ Below W.heap.size W W') from fun W => by rw [hR]; exact meets_c key k sk ok mk hk2 W hskd hokd hk (by omega) hm15 hh15)
            have HRE := Lib.hid (show R = Ch.meetsB key k (sg.getD k []) (dm.getD k 0) (so.getD k []) (dh.getD k 0) from by rw [hR, hsk, hok, hmk, hhk])
            have hwr : IntKind.u8.wrap (k : Int) = (k : Int) := by rw [IntKind.wrap_u8]; omega
            have hwm : IntKind.i64.wrap (mk : Int) = (mk : Int) := by simp [IntKind.wrap, IntKind.bits, IntKind.signed]; omega
            have hwh : IntKind.i64.wrap (hk2 : Int) = (hk2 : Int) := by simp [IntKind.wrap, IntKind.bits, IntKind.signed]; omega
            have hkI : (k : Int) < 67 := by omega
            have HSK := Lib.hid hsk
            have HOK := Lib.hid hok
            have HMK := Lib.hid hmk
            have HHK := Lib.hid hhk
            clear hR hskd hokd hsk hok hmk hhk
            go_wp2_with fail
            (try dsimp only [Act.put, List.setIfInBounds_toArray, List.set_cons_zero, List.set_cons_succ])
            have HW := Lib.hid HW.out.drew
            refine anyH_begin (S := RF w F5 L5) (by kernel_rfl) ?_
            refine anyH_pureG 0 (d := 94) (op := .move (.tmp 1)) (gd := none) (.int .u32 (key : Int)) (by rfl) (fun o ho => wanted_plain ho _) (by kernel_rfl) (by kernel_rfl) (by kernel_rfl) (fun _ _ _ h => h) (fun o ho W hW => by unfold execOp; simp only [ho]; go_simp) HW.out ?_
            simp only [Act.put, List.setIfInBounds_toArray, List.set_cons_zero, List.set_cons_succ]
            refine anyH_pureG 1 (d := 95) (op := .move (.tmp 19)) (gd := none) (.int .i64 (k : Int)) (by rfl) (fun o ho => wanted_plain ho _) (by kernel_rfl) (by kernel_rfl) (by kernel_rfl) (fun _ _ _ h => h) (fun o ho W hW => by unfold execOp; simp only [ho]; go_simp) HW.out ?_
            simp only [Act.put, List.setIfInBounds_toArray, List.set_cons_zero, List.set_cons_succ]
            refine anyH_pureG 2 (d := 96) (op := .convert 3 5 (.tmp 95)) (gd := none) (.int .u8 (k : Int)) (by rfl) (fun o ho => wanted_plain ho _) (by kernel_rfl) (by kernel_rfl) (by kernel_rfl) (fun _ _ _ h => h) (fun o ho W hW => by unfold execOp; simp only [ho]; go_simp) HW.out ?_
            simp only [Act.put, List.setIfInBounds_toArray, List.set_cons_zero, List.set_cons_succ]
            refine anyH_pureG 3 (d := 97) (op := .move (.tmp 19)) (gd := none) (.int .i64 (k : Int)) (by rfl) (fun o ho => wanted_plain ho _) (by kernel_rfl) (by kernel_rfl) (by kernel_rfl) (fun _ _ _ h => h) (fun o ho W hW => by unfold execOp; simp only [ho]; go_simp) HW.out ?_
            simp only [Act.put, List.setIfInBounds_toArray, List.set_cons_zero, List.set_cons_succ]
            refine anyH_pureG 4 (d := 98) (op := .indexAddr 49 (.tmp 13) (.tmp 97)) (gd := none) (.pointer (some ⟨g13, k * 32, none⟩)) (by rfl) (fun o ho => wanted_plain ho _) (by kernel_rfl) (by kernel_rfl) (by kernel_rfl) (fun _ _ _ h => h) (fun o ho W hW => by unfold execOp; simp only [ho]; go_simp) HW.out ?_
            simp only [Act.put, List.setIfInBounds_toArray, List.set_cons_zero, List.set_cons_succ]
            refine anyH_loadG 5 (d := 99) (ty := 31) (x := (.tmp 98)) (gd := none) (p := .pointer (some ⟨g13, k * 32, none⟩)) (.agg (cellsOf sk).toArray) (by rfl) (fun o ho => wanted_plain ho _) (by kernel_rfl) (by kernel_rfl) (by kernel_rfl) (fun _ _ _ h => h) (by rfl) (fun W hW => by rw [HSK.out]; exact load_at 31 Tryd.underlying31 info_a32 W g13 _ sg (B13.out W hW) HSG.out k hk67) HW.out ?_
            simp only [Act.put, List.setIfInBounds_toArray, List.set_cons_zero, List.set_cons_succ]
            refine anyH_pureG 6 (d := 100) (op := .move (.tmp 19)) (gd := none) (.int .i64 (k : Int)) (by rfl) (fun o ho => wanted_plain ho _) (by kernel_rfl) (by kernel_rfl) (by kernel_rfl) (fun _ _ _ h => h) (fun o ho W hW => by unfold execOp; simp only [ho]; go_simp) HW.out ?_
            simp only [Act.put, List.setIfInBounds_toArray, List.set_cons_zero, List.set_cons_succ]
            refine anyH_pureG 7 (d := 101) (op := .indexAddr 59 (.tmp 17) (.tmp 100)) (gd := none) (.pointer (some ⟨g17, k, none⟩)) (by rfl) (fun o ho => wanted_plain ho _) (by kernel_rfl) (by kernel_rfl) (by kernel_rfl) (fun _ _ _ h => h) (fun o ho W hW => by unfold execOp; simp only [ho]; go_simp) HW.out ?_
            simp only [Act.put, List.setIfInBounds_toArray, List.set_cons_zero, List.set_cons_succ]
            refine anyH_loadG 8 (d := 102) (ty := 5) (x := (.tmp 101)) (gd := none) (p := .pointer (some ⟨g17, k, none⟩)) (.int .u8 (mk : Int)) (by rfl) (fun o ho => wanted_plain ho _) (by kernel_rfl) (by kernel_rfl) (by kernel_rfl) (fun _ _ _ h => h) (by rfl) (fun W hW => load_b7 W g17 dm k mk (B17.out W hW) (by rw [HDML.out]; exact hk67) HMK.out.symm) HW.out ?_
            simp only [Act.put, List.setIfInBounds_toArray, List.set_cons_zero, List.set_cons_succ]
            refine anyH_pureG 9 (d := 103) (op := .convert 5 3 (.tmp 102)) (gd := none) (.int .i64 (mk : Int)) (by rfl) (fun o ho => wanted_plain ho _) (by kernel_rfl) (by kernel_rfl) (by kernel_rfl) (fun _ _ _ h => h) (fun o ho W hW => by unfold execOp; simp only [ho]; go_simp) HW.out ?_
            simp only [Act.put, List.setIfInBounds_toArray, List.set_cons_zero, List.set_cons_succ]
            refine anyH_pureG 10 (d := 104) (op := .move (.tmp 19)) (gd := none) (.int .i64 (k : Int)) (by rfl) (fun o ho => wanted_plain ho _) (by kernel_rfl) (by kernel_rfl) (by kernel_rfl) (fun _ _ _ h => h) (fun o ho W hW => by unfold execOp; simp only [ho]; go_simp) HW.out ?_
            simp only [Act.put, List.setIfInBounds_toArray, List.set_cons_zero, List.set_cons_succ]
            refine anyH_pureG 11 (d := 105) (op := .indexAddr 49 (.tmp 14) (.tmp 104)) (gd := none) (.pointer (some ⟨g14, k * 32, none⟩)) (by rfl) (fun o ho => wanted_plain ho _) (by kernel_rfl) (by kernel_rfl) (by kernel_rfl) (fun _ _ _ h => h) (fun o ho W hW => by unfold execOp; simp only [ho]; go_simp) HW.out ?_
            simp only [Act.put, List.setIfInBounds_toArray, List.set_cons_zero, List.set_cons_succ]
            refine anyH_loadG 12 (d := 106) (ty := 31) (x := (.tmp 105)) (gd := none) (p := .pointer (some ⟨g14, k * 32, none⟩)) (.agg (cellsOf ok).toArray) (by rfl) (fun o ho => wanted_plain ho _) (by kernel_rfl) (by kernel_rfl) (by kernel_rfl) (fun _ _ _ h => h) (by rfl) (fun W hW => by rw [HOK.out]; exact load_at 31 Tryd.underlying31 info_a32 W g14 _ so (B14.out W hW) HSOD.out k hk67) HW.out ?_
            simp only [Act.put, List.setIfInBounds_toArray, List.set_cons_zero, List.set_cons_succ]
            refine anyH_pureG 13 (d := 107) (op := .move (.tmp 19)) (gd := none) (.int .i64 (k : Int)) (by rfl) (fun o ho => wanted_plain ho _) (by kernel_rfl) (by kernel_rfl) (by kernel_rfl) (fun _ _ _ h => h) (fun o ho W hW => by unfold execOp; simp only [ho]; go_simp) HW.out ?_
            simp only [Act.put, List.setIfInBounds_toArray, List.set_cons_zero, List.set_cons_succ]
            refine anyH_pureG 14 (d := 108) (op := .indexAddr 59 (.tmp 18) (.tmp 107)) (gd := none) (.pointer (some ⟨g18, k, none⟩)) (by rfl) (fun o ho => wanted_plain ho _) (by kernel_rfl) (by kernel_rfl) (by kernel_rfl) (fun _ _ _ h => h) (fun o ho W hW => by unfold execOp; simp only [ho]; go_simp) HW.out ?_
            simp only [Act.put, List.setIfInBounds_toArray, List.set_cons_zero, List.set_cons_succ]
            refine anyH_loadG 15 (d := 109) (ty := 5) (x := (.tmp 108)) (gd := none) (p := .pointer (some ⟨g18, k, none⟩)) (.int .u8 (hk2 : Int)) (by rfl) (fun o ho => wanted_plain ho _) (by kernel_rfl) (by kernel_rfl) (by kernel_rfl) (fun _ _ _ h => h) (by rfl) (fun W hW => load_b7 W g18 dh k hk2 (B18.out W hW) (by rw [HDHL.out]; exact hk67) HHK.out.symm) HW.out ?_
            simp only [Act.put, List.setIfInBounds_toArray, List.set_cons_zero, List.set_cons_succ]
            refine anyH_pureG 16 (d := 110) (op := .convert 5 3 (.tmp 109)) (gd := none) (.int .i64 (hk2 : Int)) (by rfl) (fun o ho => wanted_plain ho _) (by kernel_rfl) (by kernel_rfl) (by kernel_rfl) (fun _ _ _ h => h) (fun o ho W hW => by unfold execOp; simp only [ho]; go_simp) HW.out ?_
            simp only [Act.put, List.setIfInBounds_toArray, List.set_cons_zero, List.set_cons_succ]
            refine anyH_callG 17 (d := some 111) (f := 30) (xs := #[(.tmp 94), (.tmp 96), (.tmp 99), (.tmp 103), (.tmp 106), (.tmp 110)]) (ts := #[47, 5, 31, 3, 31, 3]) (gd := none) (vs := #[.int .u32 (key : Int), .int .u8 (k : Int), .agg (cellsOf sk).toArray, .int .i64 (mk : Int), .agg (cellsOf ok).toArray, .int .i64 (hk2 : Int)]) (by kernel_rfl) (by rfl) (fun o ho => wanted_plain ho _) (by go_simp) (by go_simp) (HMT.out _) ?_
            rintro e98 w98 ⟨rfl, hb98⟩
            refine ⟨_, rfl, HW.out.below hb98, fun hS98 => ?_⟩
            have HW := Lib.hid hS98
            clear hS98 hb98
            simp only [Act.put, List.setIfInBounds_toArray, List.set_cons_zero, List.set_cons_succ]
            refine wpAnyH_done (by kernel_rfl) ?_ _
            clear hwr hwm hwh hkI
            cases R with
            | true =>
              go_wp2_with fail
              go_ret
              exact ⟨rfl, HW.out.1⟩
            | false =>
              go_wp2_with fail
              go_roundw
              case rel => exact ⟨k + 1, by omega, by go_num, HW, Lib.hid (fun c hc => by
                by_cases e : c = k
                · subst e; exact HRE.out.symm
                · exact HF.out c (by omega))⟩
              case measure => simp [intOf]; omega
          · obtain rfl : k = 67 := by omega
            exfalso
            obtain ⟨c, hc, hct⟩ := HFG.out
            rw [HF.out c hc] at hct
            cases hct
    · rw [decide_eq_false hte] at HTE
      clear hte
      go_wp2_with (first | (refine wpList_loadg 49 (.tmp 16) (by rfl) (by rfl) (.pointer (some ⟨g16, 0, none⟩)) (by rfl) (.agg (cellsOf tp.flatten).toArray) (L16.out _ HS.out) ?_) | (refine wpList_loadg 49 (.tmp 15) (by rfl) (by rfl) (.pointer (some ⟨g15, 0, none⟩)) (by rfl) (.agg (cellsOf es.flatten).toArray) (L15.out _ HS.out) ?_) | (refine wpList_loadg 49 (.tmp 14) (by rfl) (by rfl) (.pointer (some ⟨g14, 0, none⟩)) (by rfl) (.agg (cellsOf so.flatten).toArray) (L14.out _ HS.out) ?_) | (refine wpList_loadg 49 (.tmp 13) (by rfl) (by rfl) (.pointer (some ⟨g13, 0, none⟩)) (by rfl) (.agg (cellsOf sg.flatten).toArray) (L13.out _ HS.out) ?_) | (refine wpList_loadg 31 (.tmp 12) (by rfl) (by rfl) (.pointer (some ⟨g12, 0, none⟩)) (by rfl) (.agg (cellsOf y).toArray) (L12.out _ HS.out) ?_) | (refine wpList_loadg 31 (.tmp 11) (by rfl) (by rfl) (.pointer (some ⟨g11, 0, none⟩)) (by rfl) (.agg (cellsOf x).toArray) (L11.out _ HS.out) ?_) | (refine wpList_neqg 49 _ (.tmp 71) (.tmp 72) (by rfl) (by rfl) (cellsOf tp.flatten).toArray (cellsOf es.flatten).toArray (by rfl) (by rfl) HG7.out false (HTE.out _) ?_) | (refine wpList_eqg 31 _ (.tmp 79) (.tmp 80) (by rfl) (by rfl) (cellsOf y).toArray (cellsOf x).toArray (by rfl) (by rfl) HGT.out true (HXY.out _) ?_) | (refine wpList_eqg 49 _ (.tmp 83) (.tmp 84) (by rfl) (by rfl) (cellsOf sg.flatten).toArray (cellsOf so.flatten).toArray (by rfl) (by rfl) HG7.out true (HGE.out _) ?_))
      (try dsimp only [Act.put, List.setIfInBounds_toArray, List.set_cons_zero, List.set_cons_succ])
      have HS := Lib.hid HS.out.drew
      have HEE := Lib.hid (fun W => eqRR W HRCD.out HRCD.out)
      simp only [decide_true] at HEE
      refine anyH_begin (S := RF w F4 L4) (by kernel_rfl) ?_
      refine anyH_loadG 0 (d := 74) (ty := 49) (x := (.tmp 16)) (gd := none) (p := .pointer (some ⟨g16, 0, none⟩)) (.agg (cellsOf (tp.flatten)).toArray) (by rfl) (fun o ho => wanted_plain ho _) (by kernel_rfl) (by kernel_rfl) (by kernel_rfl) (fun _ _ _ h => h) (by rfl) L16.out HS.out ?_
      simp only [Act.put, List.setIfInBounds_toArray, List.set_cons_zero, List.set_cons_succ]
      refine anyH_loadG 2 (d := 76) (ty := 49) (x := (.tmp 15)) (gd := none) (p := .pointer (some ⟨g15, 0, none⟩)) (.agg (cellsOf (es.flatten)).toArray) (by rfl) (fun o ho => wanted_plain ho _) (by kernel_rfl) (by kernel_rfl) (by kernel_rfl) (fun _ _ _ h => h) (by rfl) L15.out HS.out ?_
      simp only [Act.put, List.setIfInBounds_toArray, List.set_cons_zero, List.set_cons_succ]
      refine anyH_callG 1 (d := some 75) (f := 28) (xs := #[(.tmp 74)]) (ts := #[49]) (gd := none) (vs := #[.agg (cellsOf (tp.flatten)).toArray]) (by kernel_rfl) (by rfl) (fun o ho => wanted_plain ho _) (by go_simp) (by go_simp) (HPR1.out _) ?_
      rintro e95 w95 ⟨rfl, hb95⟩
      refine ⟨_, rfl, HS.out.below hb95, fun hS95 => ?_⟩
      have HS := Lib.hid hS95
      clear hS95 hb95
      simp only [Act.put, List.setIfInBounds_toArray, List.set_cons_zero, List.set_cons_succ]
      refine anyH_callG 3 (d := some 77) (f := 28) (xs := #[(.tmp 76)]) (ts := #[49]) (gd := none) (vs := #[.agg (cellsOf (es.flatten)).toArray]) (by kernel_rfl) (by rfl) (fun o ho => wanted_plain ho _) (by go_simp) (by go_simp) (HPR2.out _) ?_
      rintro e96 w96 ⟨rfl, hb96⟩
      refine ⟨_, rfl, HS.out.below hb96, fun hS96 => ?_⟩
      have HS := Lib.hid hS96
      clear hS96 hb96
      simp only [Act.put, List.setIfInBounds_toArray, List.set_cons_zero, List.set_cons_succ]
      refine anyH_eqG 4 (d := 78) (t := 31) (t' := 31) (x := (.tmp 75)) (y := (.tmp 77)) (gd := none) ((cellsOf RC).toArray) ((cellsOf RC).toArray) true (by rfl) (fun o ho => wanted_plain ho _) (by kernel_rfl) (by kernel_rfl) (by kernel_rfl) (fun _ _ _ h => h) (by rfl) (by rfl) HGT.out (fun W => HEE.out W) HS.out ?_
      simp only [Act.put, List.setIfInBounds_toArray, List.set_cons_zero, List.set_cons_succ]
      refine anyH_pureG 5 (d := 10) (op := .assign (.tmp 78)) (gd := none) (.bool true) (by rfl) (fun o ho => wanted_plain ho _) (by kernel_rfl) (by kernel_rfl) (by kernel_rfl) (fun _ _ _ h => h) (fun o ho W hW => by unfold execOp; simp only [ho]; go_simp) HS.out ?_
      simp only [Act.put, List.setIfInBounds_toArray, List.set_cons_zero, List.set_cons_succ]
      refine wpAnyH_done (by kernel_rfl) ?_ _
      go_wp2_with fail
      go_ret
      exact ⟨rfl, HS.out.1⟩
end Go.Proofs.YtlnblfdddellmaaDoor
