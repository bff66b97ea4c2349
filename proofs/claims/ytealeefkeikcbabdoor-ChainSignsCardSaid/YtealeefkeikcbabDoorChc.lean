/-
  The walk over ChainClimbs.
-/
import Derived.Test.YtealeefkeikcbabDoorChs
namespace Go.Proofs.YtealeefkeikcbabDoor
open Go.RowKit
set_option linter.unusedVariables false
section
variable {P : Program} {ops : Array Oper} {Q : Exit → Act → World → Prop} {md : Region.Mode} {S : World → Prop}
theorem anyH_neqC (i : Nat) {d : Nat} {t t' : TypeId} {x y : Operand} {gd : Option (Nat × Bool)} (xs ys : Array Value) (b : Bool) {fuel : Nat} {listed : Array Bool} {a : Act} {w : World}
    (hi : (ops[i]?.map fun o => (o.dst, o.op, o.guard)) = some (some d, Op.binOp .neq t x y t', gd)) (hw : ∀ o : Oper, o.guard = gd → Region.wanted o (yielded ops a.tmps) = true) (hs : Region.noSelect ops = true) (hf : Region.free md ops listed i = true) (hr : (Region.ready md ops listed).contains i = true)
    (hQ : ∀ c a w, Q (.panic c) (a.put (some d) (.bool !b)) w → Q (.panic c) a w) (hx : a.eval x = .agg xs) (hy : a.eval y = .agg ys) (hm : P.eqGuardType P.depth t = false)
    (hrun : ∀ W, (Op.equalIn 10000 t (.agg xs) (.agg ys)).run P W = .ok b W) (hS : S w)
    (h : wpAnyH P md ops Q S fuel (listed.setIfInBounds i true) (a.put (some d) (.bool !b)) w) : wpAnyH P md ops Q S (fuel + 1) listed a w :=
  anyH_pureG i (.bool !b) hi hw hs hf hr hQ (fun o ho W hW => by
    unfold execOp
    simp only [ho, hx, hy, Sem.run_bind, run_eqGuard_agg W .neq t x y xs ys hm, run_neq_struct, hrun W, Result.andThen_ok, Sem.run_pure]) hS h
end
/-- what came in, and the sum that is told -/
def CC (w : World) (g : Nat) (x y : List Nat) (W : World) : Prop := Brow W w.heap.size 22 x ∧ Brow W g 25 y ∧ Below w.heap.size w W
theorem CC.below {w W W' : World} {g : Nat} {x y : List Nat} (h : CC w g x y W) (hb : Below W.heap.size W W') : CC w g x y W' :=
  ⟨h.1.below hb h.1.lt, h.2.1.below hb h.2.1.lt, h.2.2.trans (hb.mono h.2.2.size)⟩
theorem CC.drew {w W : World} {g : Nat} {x y : List Nat} (h : CC w g x y W) : CC w g x y W.drew := ⟨h.1.drew, h.2.1.drew, h.2.2.drew⟩
theorem CC.lay {w W : World} {x y : List Nat} (h : B1 w 22 x W) (V : Obj) (hV : V = .cells (cellsOf zs32).toArray 25 (0, 0)) : CC w W.heap.size x y ((W.alloc V).setRow W.heap.size (cellsOf y).toArray) := by
  subst hV
  have hb := ((Below.refl W.heap.size W).alloc (Nat.le_refl _) (.cells (cellsOf zs32).toArray 25 (0, 0))).setRow (Nat.le_refl _) (cellsOf y).toArray
  exact ⟨h.1.below hb h.1.lt, (Brow.new W 25 zs32).setRow, h.2.trans (hb.mono h.2.size)⟩
theorem CC.more {w W : World} {g : Nat} {x y z : List Nat} (h : CC w g x y W) (V : Obj) (hV : V = .cells (cellsOf zs32).toArray 25 (0, 0)) : CC w g x y ((W.alloc V).setRow W.heap.size (cellsOf z).toArray) ∧ Brow ((W.alloc V).setRow W.heap.size (cellsOf z).toArray) W.heap.size 25 z := by
  subst hV
  have hb := ((Below.refl W.heap.size W).alloc (Nat.le_refl _) (.cells (cellsOf zs32).toArray 25 (0, 0))).setRow (Nat.le_refl _) (cellsOf z).toArray
  exact ⟨h.below hb, (Brow.new W 25 zs32).setRow⟩
set_option maxRecDepth 100000 in
set_option maxHeartbeats 2000000 in
theorem climbs_no (x : List Nat) (key c : Nat) (a b : Int) (w : World) (hx : D32 x) (hk : key < 4294967296) (hc : c < 256) (h : a < 0 ∨ 15 < b ∨ b < a) (ht : Tab w) :
    Calls Tryd.prog 4 #[.agg (cellsOf x).toArray, .int .u32 (key : Int), .int .u8 (c : Int), .int .i64 a, .int .i64 b] w fun e w' => e = .returned (.bool true) ∧ Below w.heap.size w w' := by
  have HX := Lib.hid hx
  have HT := Lib.hid ht
  have hpos := ht.pos
  have HI := Lib.hid (info_r32 x hx)
  have HIZ := Lib.hid (info_d32 zs32 d32_zero)
  have HCL := Lib.hid (fun W => Climb_no key c a b x W hx h)
  have HEZ := Lib.hid (fun W => eqA W d32_zero)
  have HGT := Lib.hid (show Tryd.prog.eqGuardType Tryd.prog.depth 25 = false by kernel_rfl)
  clear hx ht
  by_cases h1 : a < 0
  · clear h
    go_enter Tryd.func4, Tryd.ntmps4
    go_upto_region 1 with fail
    refine gen_code (F := B1 w 22 x) (B1.new w _ _) ?_
    intro wA h
    have H0 := Lib.hid h
    clear h
    go_wp2_with (first | (refine wpList_load_row (by rfl) 22 _ (by rfl) w.heap.size (by rfl) _ (cellsOf x).toArray (0, 0) _ H0.out.1 Tryd.underlying22 (by rfl) HI.out ?_))
    refine (HCL.out wA).mono ?_
    rintro e1 w1 ⟨rfl, hb1⟩
    have H1 := Lib.hid (H0.out.below hb1)
    clear hb1
    go_upto_region 2 with (first | (refine wpList_store_row (by rfl) 25 _ _ (by rfl) w1.heap.size (cellsOf zs32).toArray (by rfl) (by rfl) 25 (cellsOf zs32).toArray (by exact heap_new _ _) HIZ.out rfl (cellsOf_all _) ?_))
    refine gen_code (F := CC w w1.heap.size x zs32) (CC.lay H1.out _ rfl) ?_
    intro w2 h
    have HC := Lib.hid h
    clear h H0 H1
    go_wp2_with (first | (go_at_call 14; refine (awake4_c _ (HT.out.below HC.out.2.2 hpos)).mono ?_; rintro e wb ⟨rfl, hbb⟩; have HC := Lib.hid (HC.out.below hbb); clear hbb) | (refine wpList_loadg 25 (.tmp 11) (by rfl) (by rfl) (.pointer (some ⟨w1.heap.size, 0, none⟩)) (by rfl) (.agg (cellsOf zs32).toArray) (loadA _ _ zs32 d32_zero HC.out.2.1) ?_) | (refine wpList_eqg 25 _ _ _ (by rfl) (by rfl) (cellsOf zs32).toArray (cellsOf zs32).toArray (by rfl) (by rfl) HGT.out true (HEZ.out _) ?_))
    go_ret
    exact ⟨rfl, HC.out.2.2⟩
  · by_cases h2 : (15 : Int) < b
    · clear h
      go_enter Tryd.func4, Tryd.ntmps4
      go_upto_region 1 with fail
      refine gen_code (F := B1 w 22 x) (B1.new w _ _) ?_
      intro wA h
      have H0 := Lib.hid h
      clear h
      go_wp2_with (first | (refine wpList_load_row (by rfl) 22 _ (by rfl) w.heap.size (by rfl) _ (cellsOf x).toArray (0, 0) _ H0.out.1 Tryd.underlying22 (by rfl) HI.out ?_))
      refine (HCL.out wA).mono ?_
      rintro e1 w1 ⟨rfl, hb1⟩
      have H1 := Lib.hid (H0.out.below hb1)
      clear hb1
      go_upto_region 2 with (first | (refine wpList_store_row (by rfl) 25 _ _ (by rfl) w1.heap.size (cellsOf zs32).toArray (by rfl) (by rfl) 25 (cellsOf zs32).toArray (by exact heap_new _ _) HIZ.out rfl (cellsOf_all _) ?_))
      refine gen_code (F := CC w w1.heap.size x zs32) (CC.lay H1.out _ rfl) ?_
      intro w2 h
      have HC := Lib.hid h
      clear h H0 H1
      go_wp2_with (first | (go_at_call 14; refine (awake4_c _ (HT.out.below HC.out.2.2 hpos)).mono ?_; rintro e wb ⟨rfl, hbb⟩; have HC := Lib.hid (HC.out.below hbb); clear hbb) | (refine wpList_loadg 25 (.tmp 11) (by rfl) (by rfl) (.pointer (some ⟨w1.heap.size, 0, none⟩)) (by rfl) (.agg (cellsOf zs32).toArray) (loadA _ _ zs32 d32_zero HC.out.2.1) ?_) | (refine wpList_eqg 25 _ _ _ (by rfl) (by rfl) (cellsOf zs32).toArray (cellsOf zs32).toArray (by rfl) (by rfl) HGT.out true (HEZ.out _) ?_))
      go_ret
      exact ⟨rfl, HC.out.2.2⟩
    · have h3 : b < a := by omega
      clear h
      go_enter Tryd.func4, Tryd.ntmps4
      go_upto_region 1 with fail
      refine gen_code (F := B1 w 22 x) (B1.new w _ _) ?_
      intro wA h
      have H0 := Lib.hid h
      clear h
      go_wp2_with (first | (refine wpList_load_row (by rfl) 22 _ (by rfl) w.heap.size (by rfl) _ (cellsOf x).toArray (0, 0) _ H0.out.1 Tryd.underlying22 (by rfl) HI.out ?_))
      refine (HCL.out wA).mono ?_
      rintro e1 w1 ⟨rfl, hb1⟩
      have H1 := Lib.hid (H0.out.below hb1)
      clear hb1
      go_upto_region 2 with (first | (refine wpList_store_row (by rfl) 25 _ _ (by rfl) w1.heap.size (cellsOf zs32).toArray (by rfl) (by rfl) 25 (cellsOf zs32).toArray (by exact heap_new _ _) HIZ.out rfl (cellsOf_all _) ?_))
      refine gen_code (F := CC w w1.heap.size x zs32) (CC.lay H1.out _ rfl) ?_
      intro w2 h
      have HC := Lib.hid h
      clear h H0 H1
      go_wp2_with (first | (go_at_call 14; refine (awake4_c _ (HT.out.below HC.out.2.2 hpos)).mono ?_; rintro e wb ⟨rfl, hbb⟩; have HC := Lib.hid (HC.out.below hbb); clear hbb) | (refine wpList_loadg 25 (.tmp 11) (by rfl) (by rfl) (.pointer (some ⟨w1.heap.size, 0, none⟩)) (by rfl) (.agg (cellsOf zs32).toArray) (loadA _ _ zs32 d32_zero HC.out.2.1) ?_) | (refine wpList_eqg 25 _ _ _ (by rfl) (by rfl) (cellsOf zs32).toArray (cellsOf zs32).toArray (by rfl) (by rfl) HGT.out true (HEZ.out _) ?_))
      go_ret
      exact ⟨rfl, HC.out.2.2⟩
set_option maxRecDepth 100000 in
set_option maxHeartbeats 4000000 in
theorem climbs_yes (x : List Nat) (key c f t : Nat) (w : World) (hx : D32 x) (hk : key < 4294967296) (hc : c < 256) (hft : f ≤ t) (ht15 : t ≤ 15) (ht : Tab w) :
    Calls Tryd.prog 4 #[.agg (cellsOf x).toArray, .int .u32 (key : Int), .int .u8 (c : Int), .int .i64 (f : Int), .int .i64 (t : Int)] w fun e w' => e = .returned (.bool true) ∧ Below w.heap.size w w' := by
  have HX := Lib.hid hx
  have HT := Lib.hid ht
  have hpos := ht.pos
  have HI := Lib.hid (info_r32 x hx)
  obtain ⟨Y, hY⟩ : ∃ Y, Y = Ch.climbS key c x f (t - f) := ⟨_, rfl⟩
  have HYD := Lib.hid (show D32 Y from by rw [hY]; exact Ch.d32_climb hx _ _)
  have HIY := Lib.hid (info_d32 Y HYD.out)
  have HZY := Lib.hid (zs_size Y HYD.out)
  have HCL := Lib.hid (show ∀ W, Tab W → Calls Tryd.prog 19 #[.int .u32 (key : Int), .int .u8 (c : Int), .agg (cellsOf x).toArray, .int .i64 (f : Int), .int .i64 (t : Int)] W (ClRet Y 0 W) from fun W hW => by rw [hY]; exact Climb_yes key c f t x W hx hk hc hft ht15 hW)
  have HRC := Lib.hid (show ∀ W, Calls Tryd.prog 20 #[.int .u32 (key : Int), .int .u8 (c : Int), .agg (cellsOf x).toArray, .int .i64 (f : Int), .int .i64 (t : Int)] W (DigRet Y W) from fun W => by rw [hY]; exact rclimb_c key c f t x W hx hk hc hft (by omega))
  obtain ⟨d, hd⟩ : ∃ d, d = t - f := ⟨_, rfl⟩
  obtain ⟨q, hq⟩ : ∃ q, q = d / 2 := ⟨_, rfl⟩
  obtain ⟨m, hm⟩ : ∃ m, m = f + q := ⟨_, rfl⟩
  obtain ⟨Z, hZ⟩ : ∃ Z, Z = Ch.climbS key c x f (m - f) := ⟨_, rfl⟩
  have HZD := Lib.hid (show D32 Z from by rw [hZ]; exact Ch.d32_climb hx _ _)
  have HIZ := Lib.hid (info_d32 Z HZD.out)
  have HZZ := Lib.hid (zs_size Z HZD.out)
  have HCM := Lib.hid (show ∀ W, Tab W → Calls Tryd.prog 19 #[.int .u32 (key : Int), .int .u8 (c : Int), .agg (cellsOf x).toArray, .int .i64 (f : Int), .int .i64 (m : Int)] W (ClRet Z 0 W) from fun W hW => by rw [hZ]; exact Climb_yes key c f m x W hx hk hc (by omega) (by omega) hW)
  have HCT := Lib.hid (show ∀ W, Tab W → Calls Tryd.prog 19 #[.int .u32 (key : Int), .int .u8 (c : Int), .agg (cellsOf Z).toArray, .int .i64 (m : Int), .int .i64 (t : Int)] W (ClRet Y 0 W) from fun W hW => by
    have h := Climb_yes key c m t Z W HZD.out hk hc (by omega) (by omega) hW
    have e := Ch.climb_add key c x f (m - f) (t - m)
    rw [show m - f + (t - m) = t - f by omega, show f + (m - f) = m by omega, ← hZ, ← hY] at e
    rwa [← e] at h)
  have e1 : (t : Int) - (f : Int) = (d : Int) := by omega
  have e2 : (d : Int) / 2 = (q : Int) := by omega
  have e3 : (f : Int) + (q : Int) = (m : Int) := by omega
  have HE := Lib.hid (And.intro e1 (And.intro e2 e3))
  have hd15 : d ≤ 15 := by omega
  have hm15 : m ≤ 15 := by omega
  have t1 : decide ((f : Int) < 0) = false := decide_eq_false (by omega)
  have t2 : decide (t < f) = false := decide_eq_false (by omega)
  have t3 : decide ((15 : Int) < (t : Int)) = false := decide_eq_false (by omega)
  have t4 : ¬ t < f := by omega
  have t5 : ¬ (15 : Int) < (t : Int) := by omega
  have HEY := Lib.hid (fun W => eqA W HYD.out)
  have HGT := Lib.hid (show Tryd.prog.eqGuardType Tryd.prog.depth 25 = false by kernel_rfl)
  clear hx ht hY hd hq hm hZ
  go_enter Tryd.func4, Tryd.ntmps4
  go_upto_region 1 with fail
  refine gen_code (F := B1 w 22 x) (B1.new w _ _) ?_
  intro wA h
  have H0 := Lib.hid h
  clear h
  go_wp2_with (first | (refine wpList_load_row (by rfl) 22 _ (by rfl) w.heap.size (by rfl) _ (cellsOf x).toArray (0, 0) _ H0.out.1 Tryd.underlying22 (by rfl) HI.out ?_))
  refine (HCL.out wA (HT.out.below H0.out.2 hpos)).mono ?_
  rintro e1 w1 ⟨rfl, hb1⟩
  have H1 := Lib.hid (H0.out.below hb1)
  clear hb1
  go_upto_region 2 with (first | (refine wpList_store_row (by rfl) 25 _ _ (by rfl) w1.heap.size (cellsOf Y).toArray (by rfl) (by rfl) 25 (cellsOf zs32).toArray (by exact heap_new _ _) HIY.out HZY.out (cellsOf_all _) ?_))
  obtain ⟨g, hg⟩ : ∃ g, g = w1.heap.size := ⟨_, rfl⟩
  refine gen_code (F := CC w g x Y) (by rw [hg]; exact CC.lay H1.out _ rfl) ?_
  intro w2 h
  have HC := Lib.hid h
  clear h H0 H1
  rw [← hg]
  clear hg
  go_upto_region 4 with (first | (go_at_call 14; refine (awake4_c _ (HT.out.below HC.out.2.2 hpos)).mono ?_; rintro e wb ⟨rfl, hbb⟩; have HC := Lib.hid (HC.out.below hbb); clear hbb))
  (try dsimp only [Act.put, List.setIfInBounds_toArray, List.set_cons_zero, List.set_cons_succ])
  have HS := Lib.hid HC.out.drew
  have HLX := Lib.hid (fun W (hW : CC w g x Y W) => loadR W w.heap.size x HX.out hW.1)
  have HLY := Lib.hid (fun W (hW : CC w g x Y W) => loadA W g Y HYD.out hW.2.1)
  clear e1 e2 e3 HC
  refine anyH_begin (S := CC w g x Y) (by kernel_rfl) ?_
  refine anyH_pureG 0 (d := 52) (op := .move (.tmp 12)) (gd := none) (.int .i64 0) (by rfl) (fun o ho => wanted_plain ho _) (by kernel_rfl) (by kernel_rfl) (by kernel_rfl) (fun _ _ _ h => h) (fun o ho W hW => by unfold execOp; simp only [ho]; go_simp) HS.out ?_
  simp only [Act.put, List.setIfInBounds_toArray, List.set_cons_zero, List.set_cons_succ]
  refine anyH_pureG 1 (d := 53) (op := .binOp .neq 33 (.tmp 52) (.const (.int .i64 0)) 33) (gd := none) (.bool false) (by rfl) (fun o ho => wanted_plain ho _) (by kernel_rfl) (by kernel_rfl) (by kernel_rfl) (fun _ _ _ h => h) (fun o ho W hW => by unfold execOp; simp only [ho]; go_simp) HS.out ?_
  simp only [Act.put, List.setIfInBounds_toArray, List.set_cons_zero, List.set_cons_succ]
  refine anyH_pureG 2 (d := 54) (op := .move (.tmp 53)) (gd := none) (.bool false) (by rfl) (fun o ho => wanted_plain ho _) (by kernel_rfl) (by kernel_rfl) (by kernel_rfl) (fun _ _ _ h => h) (fun o ho W hW => by unfold execOp; simp only [ho]; go_simp) HS.out ?_
  simp only [Act.put, List.setIfInBounds_toArray, List.set_cons_zero, List.set_cons_succ]
  refine anyH_loadG 3 (d := 55) (ty := 25) (x := (.tmp 11)) (gd := some (2, false)) (p := .pointer (some ⟨g, 0, none⟩)) (.agg (cellsOf Y).toArray) (by rfl) (fun o ho => by simp only [Region.wanted, ho]; rfl) (by kernel_rfl) (by kernel_rfl) (by kernel_rfl) (fun _ _ _ h => h) (by rfl) HLY.out HS.out ?_
  simp only [Act.put, List.setIfInBounds_toArray, List.set_cons_zero, List.set_cons_succ]
  refine anyH_pureG 4 (d := 56) (op := .move (.tmp 1)) (gd := some (2, false)) (.int .u32 (key : Int)) (by rfl) (fun o ho => by simp only [Region.wanted, ho]; rfl) (by kernel_rfl) (by kernel_rfl) (by kernel_rfl) (fun _ _ _ h => h) (fun o ho W hW => by unfold execOp; simp only [ho]; go_simp) HS.out ?_
  simp only [Act.put, List.setIfInBounds_toArray, List.set_cons_zero, List.set_cons_succ]
  refine anyH_pureG 5 (d := 57) (op := .move (.tmp 2)) (gd := some (2, false)) (.int .u8 (c : Int)) (by rfl) (fun o ho => by simp only [Region.wanted, ho]; rfl) (by kernel_rfl) (by kernel_rfl) (by kernel_rfl) (fun _ _ _ h => h) (fun o ho W hW => by unfold execOp; simp only [ho]; go_simp) HS.out ?_
  simp only [Act.put, List.setIfInBounds_toArray, List.set_cons_zero, List.set_cons_succ]
  refine anyH_loadG 6 (d := 58) (ty := 22) (x := (.tmp 5)) (gd := some (2, false)) (p := .pointer (some ⟨w.heap.size, 0, none⟩)) (.agg (cellsOf x).toArray) (by rfl) (fun o ho => by simp only [Region.wanted, ho]; rfl) (by kernel_rfl) (by kernel_rfl) (by kernel_rfl) (fun _ _ _ h => h) (by rfl) HLX.out HS.out ?_
  simp only [Act.put, List.setIfInBounds_toArray, List.set_cons_zero, List.set_cons_succ]
  refine anyH_pureG 7 (d := 59) (op := .move (.tmp 3)) (gd := some (2, false)) (.int .i64 (f : Int)) (by rfl) (fun o ho => by simp only [Region.wanted, ho]; rfl) (by kernel_rfl) (by kernel_rfl) (by kernel_rfl) (fun _ _ _ h => h) (fun o ho W hW => by unfold execOp; simp only [ho]; go_simp) HS.out ?_
  simp only [Act.put, List.setIfInBounds_toArray, List.set_cons_zero, List.set_cons_succ]
  refine anyH_pureG 8 (d := 60) (op := .move (.tmp 4)) (gd := some (2, false)) (.int .i64 (t : Int)) (by rfl) (fun o ho => by simp only [Region.wanted, ho]; rfl) (by kernel_rfl) (by kernel_rfl) (by kernel_rfl) (fun _ _ _ h => h) (fun o ho W hW => by unfold execOp; simp only [ho]; go_simp) HS.out ?_
  simp only [Act.put, List.setIfInBounds_toArray, List.set_cons_zero, List.set_cons_succ]
  refine anyH_callG 9 (d := some 61) (f := 20) (xs := #[(.tmp 56), (.tmp 57), (.tmp 58), (.tmp 59), (.tmp 60)]) (ts := #[23, 5, 22, 3, 3]) (gd := some (2, false)) (vs := #[.int .u32 (key : Int), .int .u8 (c : Int), .agg (cellsOf x).toArray, .int .i64 (f : Int), .int .i64 (t : Int)]) (by kernel_rfl) (by rfl) (fun o ho => by simp only [Region.wanted, ho]; rfl) (by go_simp) (by go_simp) (HRC.out _) ?_
  rintro e91 w91 ⟨rfl, hb91⟩
  refine ⟨_, rfl, HS.out.below hb91, fun hS91 => ?_⟩
  have HS := Lib.hid hS91
  clear hS91 hb91
  simp only [Act.put, List.setIfInBounds_toArray, List.set_cons_zero, List.set_cons_succ]
  refine anyH_neqC 10 (d := 62) (t := 25) (t' := 25) (x := (.tmp 55)) (y := (.tmp 61)) (gd := some (2, false)) ((cellsOf Y).toArray) ((cellsOf Y).toArray) true (by rfl) (fun o ho => by simp only [Region.wanted, ho]; rfl) (by kernel_rfl) (by kernel_rfl) (by kernel_rfl) (fun _ _ _ h => h) (by rfl) (by rfl) HGT.out (fun W => HEY.out W) HS.out ?_
  simp only [Act.put, List.setIfInBounds_toArray, List.set_cons_zero, List.set_cons_succ]
  refine anyH_pureG 11 (d := 63) (op := .pick (.tmp 54) (.const (.bool true)) (.tmp 62)) (gd := none) (.bool false) (by rfl) (fun o ho => wanted_plain ho _) (by kernel_rfl) (by kernel_rfl) (by kernel_rfl) (fun _ _ _ h => h) (fun o ho W hW => by unfold execOp; simp only [ho]; go_simp) HS.out ?_
  simp only [Act.put, List.setIfInBounds_toArray, List.set_cons_zero, List.set_cons_succ]
  refine wpAnyH_done (by kernel_rfl) ?_ _
  obtain ⟨e1, e2, e3⟩ := HE.out
  go_wp2_with (first | (refine wpList_load_row (by rfl) 22 _ (by rfl) w.heap.size (by rfl) _ (cellsOf x).toArray (0, 0) _ HS.out.1 Tryd.underlying22 (by rfl) HI.out ?_))
  refine (HCM.out _ (HT.out.below HS.out.2.2 hpos)).mono ?_
  rintro e5 w5 ⟨rfl, hb5⟩
  have H5 := Lib.hid (HS.out.below hb5)
  clear hb5 HS e1 e2 e3
  obtain ⟨g2, hg2⟩ : ∃ g2, g2 = w5.heap.size := ⟨_, rfl⟩
  go_upto_region 8 with (first | (refine wpList_store_row (by rfl) 25 _ _ (by rfl) w5.heap.size (cellsOf Z).toArray (by rfl) (by rfl) 25 (cellsOf zs32).toArray (by exact heap_new _ _) HIZ.out HZZ.out (cellsOf_all _) ?_))
  refine gen_code (F := fun W => CC w g x Y W ∧ Brow W g2 25 Z) (by rw [hg2]; exact CC.more H5.out _ rfl) ?_
  rintro w6 ⟨h, h'⟩
  have H6 := Lib.hid h
  have HZ6 := Lib.hid h'
  clear h h' H5
  rw [← hg2]
  clear hg2
  go_wp2_with (first | (refine wpList_load_row (by rfl) 25 _ (by rfl) g2 (by rfl) _ (cellsOf Z).toArray (0, 0) _ HZ6.out Tryd.underlying25 (by rfl) HIZ.out ?_))
  refine (HCT.out _ (HT.out.below H6.out.2.2 hpos)).mono ?_
  rintro e7 w7 ⟨rfl, hb7⟩
  have H7 := Lib.hid (H6.out.below hb7)
  clear hb7 H6 HZ6
  obtain ⟨g3, hg3⟩ : ∃ g3, g3 = w7.heap.size := ⟨_, rfl⟩
  go_upto_region 9 with (first | (refine wpList_store_row (by rfl) 25 _ _ (by rfl) w7.heap.size (cellsOf Y).toArray (by rfl) (by rfl) 25 (cellsOf zs32).toArray (by exact heap_new _ _) HIY.out HZY.out (cellsOf_all _) ?_))
  refine gen_code (F := fun W => CC w g x Y W ∧ Brow W g3 25 Y) (by rw [hg3]; exact CC.more H7.out _ rfl) ?_
  rintro w8 ⟨h, h'⟩
  have H8 := Lib.hid h
  have HY8 := Lib.hid (loadA _ _ Y HYD.out h')
  have HY8' := Lib.hid (loadA _ _ Y HYD.out h.2.1)
  clear h h' H7
  rw [← hg3]
  clear hg3
  go_wp2_with (first | (refine wpList_loadg 25 (.tmp 16) (by rfl) (by rfl) (.pointer (some ⟨g3, 0, none⟩)) (by rfl) (.agg (cellsOf Y).toArray) HY8.out ?_) | (refine wpList_loadg 25 (.tmp 11) (by rfl) (by rfl) (.pointer (some ⟨g, 0, none⟩)) (by rfl) (.agg (cellsOf Y).toArray) HY8'.out ?_) | (refine wpList_eqg 25 _ _ _ (by rfl) (by rfl) (cellsOf Y).toArray (cellsOf Y).toArray (by rfl) (by rfl) HGT.out true (HEY.out _) ?_))
  go_ret
  exact ⟨rfl, H8.out.2.2⟩
theorem cclimbs_c (x : List Nat) (key c a b : Int) (w : World) (hx : D32 x) (hk : (Lit.int .u32 key).wf = true) (hc : (Lit.int .u8 c).wf = true) (_ : (Lit.int .i64 a).wf = true) (_ : (Lit.int .i64 b).wf = true) (ht : Tab w) :
    Calls Tryd.prog 4 #[.agg (cellsOf x).toArray, .int .u32 key, .int .u8 c, .int .i64 a, .int .i64 b] w fun e w' => e = .returned (.bool true) ∧ Below w.heap.size w w' := by
  have h1 : 0 ≤ key ∧ key ≤ 4294967295 := by simpa [Lit.wf, IntKind.min, IntKind.max, IntKind.signed, IntKind.bits] using hk
  have h2 : 0 ≤ c ∧ c ≤ 255 := by simpa [Lit.wf, IntKind.min, IntKind.max, IntKind.signed, IntKind.bits] using hc
  obtain ⟨k', rfl⟩ : ∃ k : Nat, key = (k : Int) := ⟨key.toNat, by omega⟩
  obtain ⟨c', rfl⟩ : ∃ k : Nat, c = (k : Int) := ⟨c.toNat, by omega⟩
  by_cases h : a < 0 ∨ 15 < b ∨ b < a
  · exact climbs_no x k' c' a b w hx (by omega) (by omega) h ht
  · obtain ⟨f, rfl⟩ : ∃ k : Nat, a = (k : Int) := ⟨a.toNat, by omega⟩
    obtain ⟨t, rfl⟩ : ∃ k : Nat, b = (k : Int) := ⟨b.toNat, by omega⟩
    exact climbs_yes x k' c' f t w hx (by omega) (by omega) (by omega) (by omega) ht
end Go.Proofs.YtealeefkeikcbabDoor
