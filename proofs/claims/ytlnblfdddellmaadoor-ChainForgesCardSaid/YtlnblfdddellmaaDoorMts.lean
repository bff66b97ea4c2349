/-
  The walk over meets of layer 4's laws: two sums of a chain that climb to one end.
-/
import Derived.Test.YtlnblfdddellmaaDoorPas
import Derived.Test.YtlnblfdddellmaaDoorChf
import Derived.Test.YtlnblfdddellmaaDoorCho
namespace Go.Proofs.YtlnblfdddellmaaDoor
open Go.RowKit
set_option linter.unusedVariables false
namespace Ch
theorem meets_hit (key c : Nat) (x y : List Nat) (f t : Nat) (h : f < t) (e : climbS key c x f (t - f) = y) : meetsB key c x f y t = true := by
  rw [meetsB, if_pos h]
  simp [e]
theorem meets_miss (key c : Nat) (x y : List Nat) (f t : Nat) (hne : f < t → climbS key c x f (t - f) ≠ y) : meetsB key c x f y t = col key c (15 - max f t) (max f t) (climbS key c x f (t - f)) (climbS key c y t (f - t)) := by
  by_cases h : f < t
  · rw [meetsB, if_pos h, Nat.max_eq_right (by omega), show f - t = 0 by omega]
    simp [hne h, climbS]
  · rw [meetsB, if_neg h, Nat.max_eq_left (by omega), show t - f = 0 by omega]
    rfl
theorem col_same (key c n f : Nat) (x : List Nat) : col key c n f x x = false := by
  cases n with
  | zero => rfl
  | succ n => rw [col, if_pos rfl]
theorem col_step (key c n f : Nat) (x y : List Nat) (h : x ≠ y) (h2 : stepS key c f x ≠ stepS key c f y) : col key c (n + 1) f x y = col key c n (f + 1) (stepS key c f x) (stepS key c f y) := by
  rw [col, if_neg h, if_neg h2]
theorem col_hit (key c n f : Nat) (x y : List Nat) (h : x ≠ y) (h2 : stepS key c f x = stepS key c f y) : col key c (n + 1) f x y = true := by
  rw [col, if_neg h, if_pos h2]
end Ch
theorem B2.put2 {w W : World} {t : TypeId} {x y : List Nat} (h : B2 w t x y W) (z : List Nat) : B2 w t x z (W.setRow (w.heap.size + 1) (cellsOf z).toArray) := by
  have o : Only (w.heap.size + 1) W (W.setRow (w.heap.size + 1) (cellsOf z).toArray) := (Only.refl _ _).setRow _
  exact ⟨h.1.only o (by omega), h.2.1.setRow, h.2.2.trans (o.below (by omega) h.2.2.size)⟩
theorem B2.only {w W W' : World} {t : TypeId} {x y : List Nat} {g : Nat} (h : B2 w t x y W) (ho : Only g W W') (hg : w.heap.size + 1 < g) : B2 w t x y W' :=
  ⟨h.1.only ho (by omega), h.2.1.only ho (by omega), h.2.2.trans (ho.below (by omega) h.2.2.size)⟩
theorem B2.drew {w W : World} {t : TypeId} {x y : List Nat} (h : B2 w t x y W) : B2 w t x y W.drew := ⟨h.1.drew, h.2.1.drew, h.2.2.drew⟩
theorem B2.put1c {w W : World} {t : TypeId} {x y : List Nat} (h : B2 w t x y W) (z : List Nat) (hz : z.length = x.length) : B2 w t z y (W.setCells w.heap.size 0 (cellsOf z)) := by
  have o : Only w.heap.size W (W.setCells w.heap.size 0 (cellsOf z)) := Only.setCells _ 0 (Only.refl _ _)
  exact ⟨h.1.setAll hz, h.2.1.only o (by omega), h.2.2.trans (o.below (Nat.le_refl _) h.2.2.size)⟩
theorem B2.put2c {w W : World} {t : TypeId} {x y : List Nat} (h : B2 w t x y W) (z : List Nat) (hz : z.length = y.length) : B2 w t x z (W.setCells (w.heap.size + 1) 0 (cellsOf z)) := by
  have o : Only (w.heap.size + 1) W (W.setCells (w.heap.size + 1) 0 (cellsOf z)) := Only.setCells _ 0 (Only.refl _ _)
  exact ⟨h.1.only o (by omega), h.2.1.setAll hz, h.2.2.trans (o.below (by omega) h.2.2.size)⟩
theorem eqRR (W : World) {a b : List Nat} (ha : D32 a) (hb : D32 b) : (Op.equalIn 10000 31 (.agg (cellsOf a).toArray) (.agg (cellsOf b).toArray)).run Tryd.prog W = .ok (decide (a = b)) W := eq_dig 31 32 Tryd.underlying31 W a b ha.1 hb.1 ha.2 hb.2
theorem run_alloc_r32 (a : Act) (o : Oper) (ho : o.op = .alloc 31) (W : World) : (execOp a.eval o).run Tryd.prog W = .ok (.value (Par.ptr W.heap.size)) (W.alloc (.cells (cellsOf zs32).toArray 31)) := by
  unfold execOp
  simp only [ho]
  kernel_rfl
set_option maxRecDepth 100000 in
set_option maxHeartbeats 4000000 in
theorem meets_c (key c : Nat) (x y : List Nat) (f t : Nat) (w : World) (hx : D32 x) (hy : D32 y) (hk : key < 4294967296) (hc : c < 256) (hf : f ≤ 15) (ht : t ≤ 15) :
    Calls Tryd.prog 30 #[.int .u32 (key : Int), .int .u8 (c : Int), .agg (cellsOf x).toArray, .int .i64 (f : Int), .agg (cellsOf y).toArray, .int .i64 (t : Int)] w fun e w' => e = .returned (.bool (Ch.meetsB key c x f y t)) ∧ Below w.heap.size w w' := by
  have HX := Lib.hid hx
  have HY := Lib.hid hy
  obtain ⟨R, hR⟩ : ∃ R, R = Ch.meetsB key c x f y t := ⟨_, rfl⟩
  rw [← hR]
  have HHIT := Lib.hid (show f < t → Ch.climbS key c x f (t - f) = y → R = true from fun h e => by rw [hR]; exact Ch.meets_hit key c x y f t h e)
  have HMISS := Lib.hid (show (f < t → Ch.climbS key c x f (t - f) ≠ y) → R = Ch.col key c (15 - max f t) (max f t) (Ch.climbS key c x f (t - f)) (Ch.climbS key c y t (f - t)) from fun h => by rw [hR]; exact Ch.meets_miss key c x y f t h)
  have HGT := Lib.hid (show Tryd.prog.eqGuardType Tryd.prog.depth 31 = false by kernel_rfl)
  clear hx hy hR
  go_enter Tryd.func30, Tryd.ntmps30
  go_upto_region 1 with fail
  refine gen_code (F := B2 w 31 x y) (B2.new w _ _ _) ?_
  intro wA h
  have H0 := Lib.hid h
  clear h
  go_wp2_with fail
  go_loopw [3] (fun i wr => ∃ k : Nat, k ≤ t - f ∧ i = .int .i64 ((f + k : Nat) : Int) ∧ Hid (B2 w 31 (Ch.climbS key c x f k) y wr) ∧ Hid (f < t → k = t - f → Ch.climbS key c x f k ≠ y)) (fun i _ => t - (intOf i).toNat)
  case atStart => exact ⟨0, by omega, rfl, H0, Lib.hid (fun h1 h2 => by omega)⟩
  case round =>
    clear H0
    obtain ⟨k, hk1, rfl, HB, HN⟩ := hrel
    obtain ⟨X, hX⟩ : ∃ X, X = Ch.climbS key c x f k := ⟨_, rfl⟩
    rw [← hX] at HB HN
    have HXD := Lib.hid (show D32 X from by rw [hX]; exact Ch.d32_climb HX.out _ _)
    have HI := Lib.hid (info_r32 X HXD.out)
    have HXE := Lib.hid hX
    clear hX
    by_cases hkt : f + k < t
    · have hwr : IntKind.u8.wrap ((f + k : Nat) : Int) = ((f + k : Nat) : Int) := by rw [IntKind.wrap_u8]; omega
      have hwr' : IntKind.u8.wrap ((f : Int) + (k : Int)) = ((f + k : Nat) : Int) := by rw [IntKind.wrap_u8]; omega
      have HST := Lib.hid (rstep_c key c (f + k) X wr HXD.out hk hc (by omega))
      obtain ⟨Y, hY⟩ : ∃ Y, Y = Ch.stepS key c (f + k) X := ⟨_, rfl⟩
      rw [← hY] at HST
      have HYD := Lib.hid (show D32 Y from by rw [hY]; exact Ch.d32_step _ _ _ _)
      have HYE := Lib.hid (show Y = Ch.climbS key c x f (k + 1) from by rw [hY, HXE.out]; rfl)
      have HIY := Lib.hid (info_r32 Y HYD.out)
      have HZ := Lib.hid (dd_size X Y HXD.out HYD.out)
      clear hY HN
      go_upto_region 3 with (first | (refine wpList_load_row (by rfl) 31 _ (by rfl) w.heap.size (by rfl) _ (cellsOf X).toArray (0, 0) _ HB.out.1 Tryd.underlying31 (by rfl) HI.out ?_) | (go_at_call 48; refine HST.out.mono ?_; rintro e w1 ⟨rfl, hb1⟩; have H1 := Lib.hid (HB.out.below hb1); clear hb1) | (refine wpList_store_row (by rfl) 31 _ _ (by rfl) w.heap.size (cellsOf Y).toArray (by rfl) (by rfl) 31 (cellsOf X).toArray H1.out.1 HIY.out HZ.out (cellsOf_all _) ?_))
      refine gen_code (F := B2 w 31 Y y) (H1.out.put Y) ?_
      intro w2 h2
      have H2 := Lib.hid h2
      have HL8 := Lib.hid (loadR w2 w.heap.size Y HYD.out h2.1)
      have HL10 := Lib.hid (loadR w2 (w.heap.size + 1) y HY.out h2.2.1)
      have HEQ := Lib.hid (fun W => eqRR W HYD.out HY.out)
      clear h2 H1 HST HZ hwr hwr'
      by_cases hlast : f + k + 1 = t
      · have hq : ((f : Int) + (k : Int) + 1 == (t : Int)) = true := by rw [beq_iff_eq]; omega
        obtain ⟨b, hb⟩ : ∃ b, b = decide (Y = y) := ⟨_, rfl⟩
        rw [← hb] at HEQ
        have HBE := Lib.hid hb
        clear hb
        cases b with
        | true =>
          have hRt : R = true := HHIT.out (by omega) (by rw [show t - f = k + 1 by omega, ← HYE.out]; exact of_decide_eq_true HBE.out.symm)
          go_wp2_with (first | (refine wpList_loadg 31 _ (by rfl) (by rfl) (.pointer (some ⟨w.heap.size, 0, none⟩)) (by rfl) (.agg (cellsOf Y).toArray) HL8.out ?_) | (refine wpList_loadg 31 _ (by rfl) (by rfl) (.pointer (some ⟨w.heap.size + 1, 0, none⟩)) (by rfl) (.agg (cellsOf y).toArray) HL10.out ?_) | (refine wpList_eqg 31 _ _ _ (by rfl) (by rfl) (cellsOf Y).toArray (cellsOf y).toArray (by rfl) (by rfl) HGT.out true (HEQ.out _) ?_))
          go_ret
          exact ⟨by rw [hRt]; rfl, H2.out.2.2⟩
        | false =>
          go_wp2_with (first | (refine wpList_loadg 31 _ (by rfl) (by rfl) (.pointer (some ⟨w.heap.size, 0, none⟩)) (by rfl) (.agg (cellsOf Y).toArray) HL8.out ?_) | (refine wpList_loadg 31 _ (by rfl) (by rfl) (.pointer (some ⟨w.heap.size + 1, 0, none⟩)) (by rfl) (.agg (cellsOf y).toArray) HL10.out ?_) | (refine wpList_eqg 31 _ _ _ (by rfl) (by rfl) (cellsOf Y).toArray (cellsOf y).toArray (by rfl) (by rfl) HGT.out false (HEQ.out _) ?_))
          go_roundw
          case rel => exact ⟨k + 1, by omega, by go_num, by rw [← HYE.out]; exact H2, Lib.hid (fun _ _ => by rw [← HYE.out]; exact of_decide_eq_false HBE.out.symm)⟩
          case measure => simp [intOf]; omega
      · have hq : ((f : Int) + (k : Int) + 1 == (t : Int)) = false := by rw [beq_eq_false_iff_ne]; omega
        go_wp2_with fail
        go_roundw
        case rel => exact ⟨k + 1, by omega, by go_num, by rw [← HYE.out]; exact H2, Lib.hid (fun _ _ => by omega)⟩
        case measure => simp [intOf]; omega
    · have HR := Lib.hid (HMISS.out (fun h => by
        have := HN.out h (by omega)
        rw [HXE.out] at this
        rwa [show k = t - f by omega] at this))
      obtain ⟨F, hF⟩ : ∃ F, F = max f t := ⟨_, rfl⟩
      have hFk : f + k = F := by omega
      have hF15 : F ≤ 15 := by omega
      have hFt : F - t = f - t := by omega
      have htF : t ≤ F := by omega
      rw [← hF, show Ch.climbS key c x f (t - f) = X from by rw [HXE.out, show k = t - f by omega], ← hFt] at HR
      have hcast : (f : Int) + (k : Int) = (F : Int) := by omega
      have hcast' : ((f + k : Nat) : Int) = (F : Int) := by omega
      have hnFt : decide (F < t) = false := decide_eq_false (by omega)
      clear hF HN HXE HMISS HHIT hk1
      go_wp2_with fail
      try simp only [hcast, hcast', hnFt]
      clear hcast hcast' hFk hkt hnFt
      clear hf
      go_loopw [5] (fun i wr => ∃ j : Nat, j ≤ F - t ∧ i = .int .i64 ((t + j : Nat) : Int) ∧ Hid (B2 w 31 X (Ch.climbS key c y t j) wr)) (fun i _ => F - (intOf i).toNat)
      case atStart => exact ⟨0, by omega, rfl, HB⟩
      case round =>
        clear HB
        obtain ⟨j, hj1, rfl, HB⟩ := hrel
        obtain ⟨Y, hY⟩ : ∃ Y, Y = Ch.climbS key c y t j := ⟨_, rfl⟩
        rw [← hY] at HB
        have HYD := Lib.hid (show D32 Y from by rw [hY]; exact Ch.d32_climb HY.out _ _)
        have HIY := Lib.hid (info_r32 Y HYD.out)
        have HYE := Lib.hid hY
        clear hY
        by_cases hjF : t + j < F
        · have hwr : IntKind.u8.wrap ((t + j : Nat) : Int) = ((t + j : Nat) : Int) := by rw [IntKind.wrap_u8]; omega
          have hwr' : IntKind.u8.wrap ((t : Int) + (j : Int)) = ((t + j : Nat) : Int) := by rw [IntKind.wrap_u8]; omega
          have HST := Lib.hid (rstep_c key c (t + j) Y wr HYD.out hk hc (by omega))
          obtain ⟨V, hV⟩ : ∃ V, V = Ch.stepS key c (t + j) Y := ⟨_, rfl⟩
          rw [← hV] at HST
          have HVD := Lib.hid (show D32 V from by rw [hV]; exact Ch.d32_step _ _ _ _)
          have HVE := Lib.hid (show V = Ch.climbS key c y t (j + 1) from by rw [hV, HYE.out]; rfl)
          have HIV := Lib.hid (info_r32 V HVD.out)
          have HZ := Lib.hid (dd_size Y V HYD.out HVD.out)
          clear hV
          go_upto_region 8 with (first | (refine wpList_load_row (by rfl) 31 _ (by rfl) (w.heap.size + 1) (by rfl) _ (cellsOf Y).toArray (0, 0) _ HB.out.2.1 Tryd.underlying31 (by rfl) HIY.out ?_) | (go_at_call 48; refine HST.out.mono ?_; rintro e w1 ⟨rfl, hb1⟩; have H1 := Lib.hid (HB.out.below hb1); clear hb1) | (refine wpList_store_row (by rfl) 31 _ _ (by rfl) (w.heap.size + 1) (cellsOf V).toArray (by rfl) (by rfl) 31 (cellsOf Y).toArray H1.out.2.1 HIV.out HZ.out (cellsOf_all _) ?_))
          refine gen_code (F := B2 w 31 X V) (H1.out.put2 V) ?_
          intro w2 h2
          have H2 := Lib.hid h2
          clear h2 H1 HST HZ hwr hwr' HB
          go_wp2_with fail
          go_roundw
          case rel => exact ⟨j + 1, by omega, by go_num, by rw [← HVE.out]; exact H2⟩
          case measure => simp [intOf]; omega
        · have hRR : R = Ch.col key c (15 - F) F X Y := by
            rw [HR.out, show F - t = j by omega, ← HYE.out]
          have HR1 := Lib.hid hRR
          clear HR HYE hRR
          have hd37 : decide ((t : Int) + (j : Int) < (F : Int)) = false := decide_eq_false (by omega)
          go_wp2_with fail
          try simp only [Int.natCast_add]
          try simp only [hd37]
          clear hd37
          clear hjF hj1 htF hFt
          obtain ⟨X0, hX0⟩ : ∃ X0, X0 = X := ⟨_, rfl⟩
          obtain ⟨Y0, hY0⟩ : ∃ Y0, Y0 = Y := ⟨_, rfl⟩
          rw [← hX0, ← hY0] at HB HR1
          rw [← hX0] at HXD
          rw [← hY0] at HYD
          clear hX0 hY0 HI HIY
          go_loopw [3] (fun i wr => ∃ (q : Nat) (X Y : List Nat), q ≤ 15 ∧ i = .int .i64 (q : Int) ∧ Hid (B2 w 31 X Y wr) ∧ Hid (D32 X) ∧ Hid (D32 Y) ∧ Hid (R = Ch.col key c (15 - q) q X Y)) (fun i _ => 15 - (intOf i).toNat)
          case atStart => exact ⟨F, X0, Y0, hF15, rfl, HB, HXD, HYD, HR1⟩
          case round =>
            clear HB HXD HYD HR1
            obtain ⟨q, X, Y, hq15, rfl, HB, HXD, HYD, HR⟩ := hrel
            have HL8 := Lib.hid (loadR wr w.heap.size X HXD.out HB.out.1)
            have HL10 := Lib.hid (loadR wr (w.heap.size + 1) Y HYD.out HB.out.2.1)
            have HEQ := Lib.hid (fun W => eqRR W HXD.out HYD.out)
            obtain ⟨b, hb⟩ : ∃ b, b = decide (X = Y) := ⟨_, rfl⟩
            rw [← hb] at HEQ
            have HBE := Lib.hid hb
            clear hb
            cases b with
            | true =>
              have HRf := Lib.hid (show R = false from by
                rw [HR.out, of_decide_eq_true HBE.out.symm]
                exact Ch.col_same _ _ _ _ _)
              go_wp2_with (first | (refine wpList_loadg 31 _ (by rfl) (by rfl) (.pointer (some ⟨w.heap.size, 0, none⟩)) (by rfl) (.agg (cellsOf X).toArray) HL8.out ?_) | (refine wpList_loadg 31 _ (by rfl) (by rfl) (.pointer (some ⟨w.heap.size + 1, 0, none⟩)) (by rfl) (.agg (cellsOf Y).toArray) HL10.out ?_) | (refine wpList_neqg 31 _ _ _ (by rfl) (by rfl) (cellsOf X).toArray (cellsOf Y).toArray (by rfl) (by rfl) HGT.out true (HEQ.out _) ?_))
              go_ret
              exact ⟨by rw [HRf.out]; rfl, HB.out.2.2⟩
            | false =>
              have HNE := Lib.hid (show X ≠ Y from of_decide_eq_false HBE.out.symm)
              by_cases hq : q < 15
              · have hwr : IntKind.u8.wrap (q : Int) = (q : Int) := by rw [IntKind.wrap_u8]; omega
                obtain ⟨X2, hX2⟩ : ∃ X2, X2 = Ch.stepS key c q X := ⟨_, rfl⟩
                obtain ⟨Y2, hY2⟩ : ∃ Y2, Y2 = Ch.stepS key c q Y := ⟨_, rfl⟩
                have HX2D := Lib.hid (show D32 X2 from by rw [hX2]; exact Ch.d32_step _ _ _ _)
                have HY2D := Lib.hid (show D32 Y2 from by rw [hY2]; exact Ch.d32_step _ _ _ _)
                have HC1 := Lib.hid (show ∀ W, Calls Tryd.prog 48 #[.int .u32 (key : Int), .int .u8 (c : Int), .int .u8 (q : Int), .agg (cellsOf X).toArray] W (DigRet X2 W) from fun W => by rw [hX2]; exact rstep_c key c q X W HXD.out hk hc (by omega))
                have HC2 := Lib.hid (show ∀ W, Calls Tryd.prog 48 #[.int .u32 (key : Int), .int .u8 (c : Int), .int .u8 (q : Int), .agg (cellsOf Y).toArray] W (DigRet Y2 W) from fun W => by rw [hY2]; exact rstep_c key c q Y W HYD.out hk hc (by omega))
                have HHT := Lib.hid (show X2 = Y2 → R = true from fun h => by
                  rw [hX2, hY2] at h
                  rw [HR.out, show 15 - q = (15 - (q + 1)) + 1 by omega]
                  exact Ch.col_hit _ _ _ _ _ _ HNE.out h)
                have HNX := Lib.hid (show X2 ≠ Y2 → R = Ch.col key c (15 - (q + 1)) (q + 1) X2 Y2 from fun h => by
                  rw [hX2, hY2] at h ⊢
                  rw [HR.out, show 15 - q = (15 - (q + 1)) + 1 by omega]
                  exact Ch.col_step _ _ _ _ _ _ HNE.out h)
                clear hX2 hY2
                go_upto_region 10 with (first | (refine wpList_loadg 31 _ (by rfl) (by rfl) (.pointer (some ⟨w.heap.size, 0, none⟩)) (by rfl) (.agg (cellsOf X).toArray) HL8.out ?_) | (refine wpList_loadg 31 _ (by rfl) (by rfl) (.pointer (some ⟨w.heap.size + 1, 0, none⟩)) (by rfl) (.agg (cellsOf Y).toArray) HL10.out ?_) | (refine wpList_neqg 31 _ _ _ (by rfl) (by rfl) (cellsOf X).toArray (cellsOf Y).toArray (by rfl) (by rfl) HGT.out false (HEQ.out _) ?_))
                (try dsimp only [Act.put, List.setIfInBounds_toArray, List.set_cons_zero, List.set_cons_succ])
                have HS := Lib.hid HB.out.drew
                clear HB HL8 HL10
                refine anyH_begin (S := B2 w 31 X Y) (by kernel_rfl) ?_
                refine anyH_pureG 0 (d := 53) (op := .move (.tmp 0)) (gd := none) (.int .u32 (key : Int)) (by rfl) (fun o ho => wanted_plain ho _) (by kernel_rfl) (by kernel_rfl) (by kernel_rfl) (fun _ _ _ h => h) (fun o ho W hW => by unfold execOp; simp only [ho]; go_simp) HS.out ?_
                simp only [Act.put, List.setIfInBounds_toArray, List.set_cons_zero, List.set_cons_succ]
                refine anyH_pureG 1 (d := 54) (op := .move (.tmp 1)) (gd := none) (.int .u8 (c : Int)) (by rfl) (fun o ho => wanted_plain ho _) (by kernel_rfl) (by kernel_rfl) (by kernel_rfl) (fun _ _ _ h => h) (fun o ho W hW => by unfold execOp; simp only [ho]; go_simp) HS.out ?_
                simp only [Act.put, List.setIfInBounds_toArray, List.set_cons_zero, List.set_cons_succ]
                refine anyH_pureG 2 (d := 55) (op := .move (.tmp 3)) (gd := none) (.int .i64 (q : Int)) (by rfl) (fun o ho => wanted_plain ho _) (by kernel_rfl) (by kernel_rfl) (by kernel_rfl) (fun _ _ _ h => h) (fun o ho W hW => by unfold execOp; simp only [ho]; go_simp) HS.out ?_
                simp only [Act.put, List.setIfInBounds_toArray, List.set_cons_zero, List.set_cons_succ]
                refine anyH_pureG 3 (d := 56) (op := .convert 3 5 (.tmp 55)) (gd := none) (.int .u8 (q : Int)) (by rfl) (fun o ho => wanted_plain ho _) (by kernel_rfl) (by kernel_rfl) (by kernel_rfl) (fun _ _ _ h => h) (fun o ho W hW => by unfold execOp; simp only [ho]; go_simp) HS.out ?_
                simp only [Act.put, List.setIfInBounds_toArray, List.set_cons_zero, List.set_cons_succ]
                refine anyH_loadG 4 (d := 57) (ty := 31) (x := (.tmp 8)) (gd := none) (p := .pointer (some ⟨w.heap.size, 0, none⟩)) (.agg (cellsOf X).toArray) (by rfl) (fun o ho => wanted_plain ho _) (by kernel_rfl) (by kernel_rfl) (by kernel_rfl) (fun _ _ _ h => h) (by rfl) (fun W hW => loadR W w.heap.size X HXD.out hW.1) HS.out ?_
                simp only [Act.put, List.setIfInBounds_toArray, List.set_cons_zero, List.set_cons_succ]
                refine anyH_pureG 6 (d := 59) (op := .move (.tmp 0)) (gd := none) (.int .u32 (key : Int)) (by rfl) (fun o ho => wanted_plain ho _) (by kernel_rfl) (by kernel_rfl) (by kernel_rfl) (fun _ _ _ h => h) (fun o ho W hW => by unfold execOp; simp only [ho]; go_simp) HS.out ?_
                simp only [Act.put, List.setIfInBounds_toArray, List.set_cons_zero, List.set_cons_succ]
                refine anyH_pureG 7 (d := 60) (op := .move (.tmp 1)) (gd := none) (.int .u8 (c : Int)) (by rfl) (fun o ho => wanted_plain ho _) (by kernel_rfl) (by kernel_rfl) (by kernel_rfl) (fun _ _ _ h => h) (fun o ho W hW => by unfold execOp; simp only [ho]; go_simp) HS.out ?_
                simp only [Act.put, List.setIfInBounds_toArray, List.set_cons_zero, List.set_cons_succ]
                refine anyH_pureG 8 (d := 61) (op := .move (.tmp 3)) (gd := none) (.int .i64 (q : Int)) (by rfl) (fun o ho => wanted_plain ho _) (by kernel_rfl) (by kernel_rfl) (by kernel_rfl) (fun _ _ _ h => h) (fun o ho W hW => by unfold execOp; simp only [ho]; go_simp) HS.out ?_
                simp only [Act.put, List.setIfInBounds_toArray, List.set_cons_zero, List.set_cons_succ]
                refine anyH_pureG 9 (d := 62) (op := .convert 3 5 (.tmp 61)) (gd := none) (.int .u8 (q : Int)) (by rfl) (fun o ho => wanted_plain ho _) (by kernel_rfl) (by kernel_rfl) (by kernel_rfl) (fun _ _ _ h => h) (fun o ho W hW => by unfold execOp; simp only [ho]; go_simp) HS.out ?_
                simp only [Act.put, List.setIfInBounds_toArray, List.set_cons_zero, List.set_cons_succ]
                refine anyH_loadG 10 (d := 63) (ty := 31) (x := (.tmp 10)) (gd := none) (p := .pointer (some ⟨w.heap.size + 1, 0, none⟩)) (.agg (cellsOf Y).toArray) (by rfl) (fun o ho => wanted_plain ho _) (by kernel_rfl) (by kernel_rfl) (by kernel_rfl) (fun _ _ _ h => h) (by rfl) (fun W hW => loadR W (w.heap.size + 1) Y HYD.out hW.2.1) HS.out ?_
                simp only [Act.put, List.setIfInBounds_toArray, List.set_cons_zero, List.set_cons_succ]
                refine anyH_par { n := 2, al := (fun k => match k with | 0 => 12 | _ => 13), st := (fun k => match k with | 0 => 14 | _ => 15), d := (fun k => match k with | 0 => 13 | _ => 14), v := (fun k => match k with | 0 => 58 | _ => 64), ty := fun _ => 31, Z := fun _ => zs32, E := (fun k => match k with | 0 => X2 | _ => Y2), hc := fun _ => true, cl := (fun k => match k with | 0 => 5 | _ => 11), f := fun _ => 48, xs := (fun k => match k with | 0 => #[(.tmp 53), (.tmp 54), (.tmp 56), (.tmp 57)] | _ => #[(.tmp 59), (.tmp 60), (.tmp 62), (.tmp 63)]), ts := fun _ => #[47, 5, 5, 31], vs := (fun k => match k with | 0 => #[.int .u32 (key : Int), .int .u8 (c : Int), .int .u8 (q : Int), .agg (cellsOf X).toArray] | _ => #[.int .u32 (key : Int), .int .u8 (c : Int), .int .u8 (q : Int), .agg (cellsOf Y).toArray]) } (w.heap.size + 1 + 1) (by kernel_rfl) (by kernel_rfl) (by kernel_rfl) (by kernel_rfl) (Nat.le_of_ble_eq_true (by kernel_rfl)) (by kernel_rfl) (by kernel_rfl) ?_ ?_ ?_ ?_ (fun W W' h hb => h.below hb) (fun g W W' h hg ho => h.only ho (by omega)) (fun W h => h.2.1.lt) HS.out ?_
                · intro k hk
                  exact ⟨(by rcases (show k = 0 ∨ k = 1 by have hk : k < 2 := hk; omega) with rfl | rfl <;> kernel_rfl), fun a o ho W => run_alloc_r32 a o ho W⟩
                · intro k hk
                  rcases (show k = 0 ∨ k = 1 by have hk : k < 2 := hk; omega) with rfl | rfl
                  · exact ⟨by kernel_rfl, info_r32 X2 HX2D.out, by show X2.length = zs32.length; rw [HX2D.out.1, zs32_len]⟩
                  · exact ⟨by kernel_rfl, info_r32 Y2 HY2D.out, by show Y2.length = zs32.length; rw [HY2D.out.1, zs32_len]⟩
                · intro k hk h0
                  exact absurd (show true = false from h0) (by simp)
                · intro k hk _
                  rcases (show k = 0 ∨ k = 1 by have hk : k < 2 := hk; omega) with rfl | rfl
                  · refine ⟨by kernel_rfl, ?_, fun W => ?_, fun W _ => HC1.out W⟩
                    · show Array.map _ (#[(.tmp 53), (.tmp 54), (.tmp 56), (.tmp 57)] : Array Operand) = (#[.int .u32 (key : Int), .int .u8 (c : Int), .int .u8 (q : Int), .agg (cellsOf X).toArray] : Array Value)
                      go_simp
                    · show (callFunc 48 #[.int .u32 (key : Int), .int .u8 (c : Int), .int .u8 (q : Int), .agg (cellsOf X).toArray]).run Tryd.prog W = _
                      go_simp
                  · refine ⟨by kernel_rfl, ?_, fun W => ?_, fun W _ => HC2.out W⟩
                    · show Array.map _ (#[(.tmp 59), (.tmp 60), (.tmp 62), (.tmp 63)] : Array Operand) = (#[.int .u32 (key : Int), .int .u8 (c : Int), .int .u8 (q : Int), .agg (cellsOf Y).toArray] : Array Value)
                      go_simp
                    · show (callFunc 48 #[.int .u32 (key : Int), .int .u8 (c : Int), .int .u8 (q : Int), .agg (cellsOf Y).toArray]).run Tryd.prog W = _
                      go_simp
                intro g w3 hS3 hrow hne
                have h0 : w.heap.size + 1 + 1 ≤ g 0 ∧ Brow w3 (g 0) 31 X2 := hrow 0 (show 0 < 2 by omega)
                have h1 : w.heap.size + 1 + 1 ≤ g 1 ∧ Brow w3 (g 1) 31 Y2 := hrow 1 (show 1 < 2 by omega)
                rw [Par.fin_two _ _ _ 58 13 64 14 (.agg (cellsOf X2).toArray) (.agg (cellsOf Y2).toArray) rfl rfl rfl rfl rfl rfl rfl rfl rfl]
                obtain ⟨ga, hga⟩ : ∃ x, x = g 0 := ⟨_, rfl⟩
                obtain ⟨gb, hgb⟩ : ∃ x, x = g 1 := ⟨_, rfl⟩
                rw [← hga] at h0 ⊢
                rw [← hgb] at h1 ⊢
                have hga2 := h0.1
                have hgb2 := h1.1
                have HB3 := Lib.hid hS3
                have HS := Lib.hid (And.intro h0.2 h1.2)
                clear hS3 hrow hne hga hgb h0 h1
                simp only [Act.put, List.setIfInBounds_toArray, List.set_cons_zero, List.set_cons_succ]
                have HL13 := Lib.hid (loadR w3 ga X2 HX2D.out HS.out.1)
                have HL14 := Lib.hid (loadR w3 gb Y2 HY2D.out HS.out.2)
                have HEQ2 := Lib.hid (fun W => eqRR W HX2D.out HY2D.out)
                obtain ⟨b, hb⟩ : ∃ b, b = decide (X2 = Y2) := ⟨_, rfl⟩
                rw [← hb] at HEQ2
                have HBE2 := Lib.hid hb
                clear hb
                cases b with
                | true =>
                  have HRt := Lib.hid (HHT.out (of_decide_eq_true HBE2.out.symm))
                  go_wp2_with (first | (refine wpList_loadg 31 (.tmp 13) (by rfl) (by rfl) (.pointer (some ⟨ga, 0, none⟩)) (by rfl) (.agg (cellsOf X2).toArray) HL13.out ?_) | (refine wpList_loadg 31 (.tmp 14) (by rfl) (by rfl) (.pointer (some ⟨gb, 0, none⟩)) (by rfl) (.agg (cellsOf Y2).toArray) HL14.out ?_) | (refine wpList_eqg 31 _ (.tmp 65) (.tmp 66) (by rfl) (by rfl) (cellsOf X2).toArray (cellsOf Y2).toArray (by rfl) (by rfl) HGT.out true (HEQ2.out _) ?_))
                  go_ret
                  exact ⟨by rw [HRt.out]; rfl, HB3.out.2.2⟩
                | false =>
                  have HN2 := Lib.hid (show X2 ≠ Y2 from of_decide_eq_false HBE2.out.symm)
                  go_wp2_with (first | (refine wpList_loadg 31 (.tmp 13) (by rfl) (by rfl) (.pointer (some ⟨ga, 0, none⟩)) (by rfl) (.agg (cellsOf X2).toArray) HL13.out ?_) | (refine wpList_loadg 31 (.tmp 14) (by rfl) (by rfl) (.pointer (some ⟨gb, 0, none⟩)) (by rfl) (.agg (cellsOf Y2).toArray) HL14.out ?_) | (refine wpList_eqg 31 _ (.tmp 65) (.tmp 66) (by rfl) (by rfl) (cellsOf X2).toArray (cellsOf Y2).toArray (by rfl) (by rfl) HGT.out false (HEQ2.out _) ?_))
                  (try dsimp only [Act.put, List.setIfInBounds_toArray, List.set_cons_zero, List.set_cons_succ])
                  have HS := Lib.hid (And.intro HS.out.1.drew HS.out.2.drew)
                  have HB3 := Lib.hid HB3.out.drew
                  clear HL13 HL14
                  refine anyH_begin (S := fun W => Brow W ga 31 X2 ∧ Brow W gb 31 Y2) (by kernel_rfl) ?_
                  refine anyH_loadG 0 (d := 68) (ty := 31) (x := (.tmp 13)) (gd := none) (p := .pointer (some ⟨ga, 0, none⟩)) (.agg (cellsOf X2).toArray) (by rfl) (fun o ho => wanted_plain ho _) (by kernel_rfl) (by kernel_rfl) (by kernel_rfl) (fun _ _ _ h => h) (by rfl) (fun W hW => loadR W ga X2 HX2D.out hW.1) HS.out ?_
                  simp only [Act.put, List.setIfInBounds_toArray, List.set_cons_zero, List.set_cons_succ]
                  refine anyH_loadG 1 (d := 69) (ty := 31) (x := (.tmp 14)) (gd := none) (p := .pointer (some ⟨gb, 0, none⟩)) (.agg (cellsOf Y2).toArray) (by rfl) (fun o ho => wanted_plain ho _) (by kernel_rfl) (by kernel_rfl) (by kernel_rfl) (fun _ _ _ h => h) (by rfl) (fun W hW => loadR W gb Y2 HY2D.out hW.2) HS.out ?_
                  simp only [Act.put, List.setIfInBounds_toArray, List.set_cons_zero, List.set_cons_succ]
                  refine wpAnyH_all (rs := [2]) (by kernel_rfl) (by simp) ?_
                  intro k' hk'; simp only [List.mem_cons, List.not_mem_nil, or_false] at hk'; subst hk'
                  refine op_at 2 (d := none) (op := .store 31 (.tmp 8) (.tmp 68)) (by rfl) ?_
                  intro o0 hod hoo
                  refine wp_store_mid 31 (.tmp 8) (.tmp 68) hoo (w.heap.size) 0 (cellsOf X2).toArray (by rfl) (by rfl) (HB3.out.1.there _ (by rw [cellsOf_size, HX2D.out.1, HXD.out.1])) (info_r32 X2 HX2D.out) (cellsOf_all _) ?_
                  rw [hod, List.toList_toArray]
                  have ho : Only (w.heap.size) w3.drew (w3.drew.setCells (w.heap.size) 0 (cellsOf X2)) := Only.setCells (cellsOf X2) 0 (Only.refl (w.heap.size) _)
                  have hs2 := And.intro (HS.out.1.only ho (by omega)) (HS.out.2.only ho (by omega))
                  refine ⟨hs2, ?_⟩
                  have hb2 := HB3.out.put1c X2 (by rw [HX2D.out.1, HXD.out.1])
                  refine gen_anyH (F := fun W => (Brow W ga 31 X2 ∧ Brow W gb 31 Y2) ∧ B2 w 31 X2 Y W) ⟨hs2, by simpa using hb2⟩ ?_
                  rintro w5 ⟨hs5, hb5⟩
                  clear hod hoo ho hs2 hb2 HS HB3
                  have HS := Lib.hid hs5
                  have HB3 := Lib.hid hb5
                  clear hs5 hb5
                  simp only [Act.put]
                  refine wpAnyH_all (rs := [3]) (by kernel_rfl) (by simp) ?_
                  intro k' hk'; simp only [List.mem_cons, List.not_mem_nil, or_false] at hk'; subst hk'
                  refine op_at 3 (d := none) (op := .store 31 (.tmp 10) (.tmp 69)) (by rfl) ?_
                  intro o0 hod hoo
                  refine wp_store_mid 31 (.tmp 10) (.tmp 69) hoo (w.heap.size + 1) 0 (cellsOf Y2).toArray (by rfl) (by rfl) (HB3.out.2.1.there _ (by rw [cellsOf_size, HY2D.out.1, HYD.out.1])) (info_r32 Y2 HY2D.out) (cellsOf_all _) ?_
                  rw [hod, List.toList_toArray]
                  have ho : Only (w.heap.size + 1) w5 (w5.setCells (w.heap.size + 1) 0 (cellsOf Y2)) := Only.setCells (cellsOf Y2) 0 (Only.refl (w.heap.size + 1) _)
                  have hs2 := And.intro (HS.out.1.only ho (by omega)) (HS.out.2.only ho (by omega))
                  refine ⟨hs2, ?_⟩
                  have hb2 := HB3.out.put2c Y2 (by rw [HY2D.out.1, HYD.out.1])
                  refine gen_anyH (F := fun W => (Brow W ga 31 X2 ∧ Brow W gb 31 Y2) ∧ B2 w 31 X2 Y2 W) ⟨hs2, by simpa using hb2⟩ ?_
                  rintro w5 ⟨hs5, hb5⟩
                  clear hod hoo ho hs2 hb2 HS HB3
                  have HS := Lib.hid hs5
                  have HB3 := Lib.hid hb5
                  clear hs5 hb5
                  simp only [Act.put]
                  refine wpAnyH_done (by kernel_rfl) ?_ _
                  go_wp2_with fail
                  go_roundw
                  case rel => exact ⟨q + 1, X2, Y2, by omega, by go_num, HB3, HX2D, HY2D, Lib.hid (by rw [HNX.out HN2.out])⟩
                  case measure => simp [intOf]; omega
              · have HRf := Lib.hid (show R = false from by
                  rw [HR.out, show 15 - q = 0 by omega]
                  rfl)
                go_wp2_with (first | (refine wpList_loadg 31 _ (by rfl) (by rfl) (.pointer (some ⟨w.heap.size, 0, none⟩)) (by rfl) (.agg (cellsOf X).toArray) HL8.out ?_) | (refine wpList_loadg 31 _ (by rfl) (by rfl) (.pointer (some ⟨w.heap.size + 1, 0, none⟩)) (by rfl) (.agg (cellsOf Y).toArray) HL10.out ?_) | (refine wpList_neqg 31 _ _ _ (by rfl) (by rfl) (cellsOf X).toArray (cellsOf Y).toArray (by rfl) (by rfl) HGT.out false (HEQ.out _) ?_))
                go_ret
                exact ⟨by rw [HRf.out]; rfl, HB.out.2.2⟩
end Go.Proofs.YtlnblfdddellmaaDoor
