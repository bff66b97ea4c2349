/-
  The walk over the document's Extends; what Extends says, of any numbers.
-/
import Derived.Test.YtdcninfbpmhojaaDoorGrr
import Derived.Test.YtdcninfbpmhojaaDoorExz
namespace Go.Proofs.YtdcninfbpmhojaaDoor
open Go.RowKit
set_option linter.unusedVariables false
theorem rext_no (old root : List Nat) (m n : Int) (a : Option Addr) (l cap : Nat) (w : World) (h : m < 0 ∨ n < m) :
    Calls Tryd.prog 13 #[.agg (cellsOf old).toArray, .int .i64 m, .agg (cellsOf root).toArray, .int .i64 n, .slice a l cap] w fun e w' => e = .returned (.bool false) ∧ Below w.heap.size w w' := by
  by_cases h0 : m < 0
  · clear h
    go_enter Tryd.func13, Tryd.ntmps13
    go_wp2
    go_ret
    exact ⟨rfl, ((Below.refl _ _).alloc (Nat.le_refl _) _).alloc (by simp) _⟩
  · have h1 : n < m := by omega
    clear h
    go_enter Tryd.func13, Tryd.ntmps13
    go_wp2
    go_ret
    exact ⟨rfl, ((Below.refl _ _).alloc (Nat.le_refl _) _).alloc (by simp) _⟩
def RE3 (w : World) (old root : List Nat) (g : Nat) (x : List Nat) (W : World) : Prop := R2 w old root W ∧ Brow W g 22 x
set_option maxRecDepth 100000 in
set_option maxHeartbeats 4000000 in
theorem rext_zero (old root : List Nat) (n : Nat) (a : Option Addr) (l cap : Nat) (w : World) (hn : n ≤ 9223372036854775807) (ho : D32 old) (hr : D32 root) :
    Calls Tryd.prog 13 #[.agg (cellsOf old).toArray, .int .i64 0, .agg (cellsOf root).toArray, .int .i64 (n : Int), .slice a l cap] w fun e w' => e = .returned (.bool (decide (l = 0) && (decide (old = Sha.sum []) && (decide (n ≠ 0) || decide (root = Sha.sum []))))) ∧ Below w.heap.size w w' := by
  obtain ⟨E, hE⟩ : ∃ E, E = Sha.sum [] := ⟨_, rfl⟩
  rw [← hE]
  have he : D32 E := by rw [hE]; exact d32_sum _
  have HRE := Lib.hid (show ∀ W, Below w.heap.size w W → Calls Tryd.prog 35 #[.slice none 0 0] W (DigRet E W) from fun W hW => by rw [hE]; exact rsum_c [] none 0 0 W ⟨rfl, by simp, .inl rfl⟩ (by omega))
  have HO := Lib.hid ho
  have HR := Lib.hid hr
  have HE := Lib.hid he
  have q1 : ¬ (n : Int) < 0 := by omega
  have HIE := Lib.hid (info32 dtR he)
  have HZE := Lib.hid (zsize he)
  have HGT := Lib.hid (show Tryd.prog.eqGuardType Tryd.prog.depth 22 = false by kernel_rfl)
  have HEO := Lib.hid (fun W => eqDD dtR W HO.out HE.out)
  have HER := Lib.hid (fun W => eqDD dtR W HR.out HE.out)
  obtain ⟨V, hV⟩ : ∃ V, V = (decide (l = 0) && (decide (old = E) && (decide (n ≠ 0) || decide (root = E)))) := ⟨_, rfl⟩
  rw [← hV]
  have HV := Lib.hid hV
  clear ho hr he hE hV
  go_enter Tryd.func13, Tryd.ntmps13
  go_upto_region 1 with fail
  refine gen_code (F := R2 w old root) ⟨(heap_new2 _ _ _).1, (heap_new2 _ _ _).2, ((Below.refl _ _).alloc (Nat.le_refl _) _).alloc (by simp) _⟩ ?_
  intro wA hk
  have HK := Lib.hid hk
  clear hk
  go_wp2_with fail
  refine (HRE.out _ HK.out.2.2).mono ?_
  rintro e w1 ⟨rfl, hb1⟩
  have HK1 := Lib.hid (HK.out.below hb1)
  have K1 := Lib.hid (fun (O : Obj) (hO : O = .cells (cellsOf zs32).toArray 22 (0, 0)) => show RE3 w old root w1.heap.size E ((w1.alloc O).setRow w1.heap.size (cellsOf E).toArray) from by
    subst hO
    have hb : Below w1.heap.size w1 ((w1.alloc (.cells (cellsOf zs32).toArray 22 (0, 0))).setRow w1.heap.size (cellsOf E).toArray) := ((Below.refl _ _).alloc (Nat.le_refl _) _).setRow (Nat.le_refl _) _
    exact ⟨HK1.out.below hb, Brow.setRow (zs := zs32) (heap_new w1 _)⟩)
  have HG1 := Lib.hid (show ∀ O : Obj, O = .cells (cellsOf zs32).toArray 22 (0, 0) → (w1.alloc O).heap[w1.heap.size]? = some (.cells (cellsOf zs32).toArray 22 (0, 0)) from fun O h => by subst h; exact heap_new w1 _)
  clear hb1 HK
  go_upto_region 5 with (first | (refine wpList_store_row (by rfl) 22 _ _ (by rfl) w1.heap.size (cellsOf E).toArray (by rfl) (by rfl) 22 (cellsOf zs32).toArray (by exact HG1.out _ rfl) HIE.out HZE.out (cellsOf_all _) ?_; refine gen_world (F := RE3 w old root w1.heap.size E) (K1.out _ rfl) ?_; intro w3 h3; have H3 := Lib.hid h3; clear h3 K1 HG1))
  have HLE := Lib.hid (run_dload dtR w3 w1.heap.size 0 E HE.out H3.out.2.range)
  have HLO := Lib.hid (run_dload dtR w3 w.heap.size 0 old HO.out H3.out.1.1.range)
  have HLR := Lib.hid (run_dload dtR w3 (w.heap.size + 1) 0 root HR.out H3.out.1.2.1.range)
  by_cases hl : l = 0
  · subst hl
    by_cases hxo : old = E
    · rw [decide_eq_true hxo] at HEO HV
      by_cases hn0 : n = 0
      · subst hn0
        obtain ⟨c, hc⟩ : ∃ c, c = decide (root = E) := ⟨_, rfl⟩
        rw [← hc] at HER HV
        have HW := Lib.hid (show V = c from by rw [HV.out]; simp)
        clear hc hxo HV
        go_wp2_with (first | (refine wpList_loadg 22 _ (by rfl) (by rfl) (.pointer (some ⟨w1.heap.size, 0, none⟩)) (by rfl) (.agg (cellsOf E).toArray) HLE.out ?_) | (refine wpList_loadg 22 _ (by rfl) (by rfl) (.pointer (some ⟨w.heap.size, 0, none⟩)) (by rfl) (.agg (cellsOf old).toArray) HLO.out ?_) | (refine wpList_loadg 22 _ (by rfl) (by rfl) (.pointer (some ⟨w.heap.size + 1, 0, none⟩)) (by rfl) (.agg (cellsOf root).toArray) HLR.out ?_) | (refine wpList_eqg 22 _ _ _ (by rfl) (by rfl) (cellsOf old).toArray (cellsOf E).toArray (by rfl) (by rfl) HGT.out _ (HEO.out _) ?_) | (refine wpList_eqg 22 _ _ _ (by rfl) (by rfl) (cellsOf root).toArray (cellsOf E).toArray (by rfl) (by rfl) HGT.out _ (HER.out _) ?_))
        go_ret
        exact ⟨by rw [HW.out]; rfl, H3.out.1.2.2⟩
      · have HW := Lib.hid (show V = true from by rw [HV.out]; simp [hn0])
        clear hxo HV
        have q5 : (0 : Int) < (n : Int) := by omega
        go_wp2_with (first | (refine wpList_loadg 22 _ (by rfl) (by rfl) (.pointer (some ⟨w1.heap.size, 0, none⟩)) (by rfl) (.agg (cellsOf E).toArray) HLE.out ?_) | (refine wpList_loadg 22 _ (by rfl) (by rfl) (.pointer (some ⟨w.heap.size, 0, none⟩)) (by rfl) (.agg (cellsOf old).toArray) HLO.out ?_) | (refine wpList_eqg 22 _ _ _ (by rfl) (by rfl) (cellsOf old).toArray (cellsOf E).toArray (by rfl) (by rfl) HGT.out _ (HEO.out _) ?_))
        go_ret
        exact ⟨by rw [HW.out]; rfl, H3.out.1.2.2⟩
    · rw [decide_eq_false hxo] at HEO HV
      have HW := Lib.hid (show V = false from by rw [HV.out]; simp)
      clear hxo HV
      go_wp2_with (first | (refine wpList_loadg 22 _ (by rfl) (by rfl) (.pointer (some ⟨w1.heap.size, 0, none⟩)) (by rfl) (.agg (cellsOf E).toArray) HLE.out ?_) | (refine wpList_loadg 22 _ (by rfl) (by rfl) (.pointer (some ⟨w.heap.size, 0, none⟩)) (by rfl) (.agg (cellsOf old).toArray) HLO.out ?_) | (refine wpList_eqg 22 _ _ _ (by rfl) (by rfl) (cellsOf old).toArray (cellsOf E).toArray (by rfl) (by rfl) HGT.out _ (HEO.out _) ?_))
      go_ret
      exact ⟨by rw [HW.out]; rfl, H3.out.1.2.2⟩
  · have HW := Lib.hid (show V = false from by rw [HV.out]; simp [hl])
    have q6 : ¬ (l : Int) = 0 := by omega
    go_wp2
    go_ret
    exact ⟨by rw [HW.out]; rfl, H3.out.1.2.2⟩
theorem both_none {old : List Nat} {m n : Nat} {way : Ds} (h : growS old m n true way = none) (root : List Nat) : decide (bothS old m n true way = some (old, root)) = false := by
  unfold bothS Mk.both
  rw [show Mk.grow nodeS old m n true way = none from h]
  rfl
theorem both_more {old x y s : List Nat} {m n : Nat} {way r : Ds} (h : growS old m n true way = some (x, y, s :: r)) (root : List Nat) : decide (bothS old m n true way = some (old, root)) = false := by
  unfold bothS Mk.both
  rw [show Mk.grow nodeS old m n true way = some (x, y, s :: r) from h]
  rfl
theorem both_just {old x y : List Nat} {m n : Nat} {way : Ds} (h : growS old m n true way = some (x, y, [])) (root : List Nat) : decide (bothS old m n true way = some (old, root)) = (decide (x = old) && decide (y = root)) := by
  unfold bothS Mk.both
  rw [show Mk.grow nodeS old m n true way = some (x, y, []) from h]
  simp only [Option.some.injEq, Prod.mk.injEq, Bool.decide_and]
set_option maxRecDepth 100000 in
set_option maxHeartbeats 4000000 in
theorem rext_yes (old root : List Nat) (m n : Nat) (a : Option Addr) (l cap : Nat) (way : Ds) (w : World) (h1 : 1 ≤ m) (hm : m ≤ n) (hn : n ≤ 9223372036854775807) (ho : D32 old) (hr : D32 root) (hw : DR w a l way) (hlc : l ≤ cap) (hcm : cap ≤ 9223372036854775807) (hab : ∀ b, blkOf a = some b → b < w.heap.size) :
    Calls Tryd.prog 13 #[.agg (cellsOf old).toArray, .int .i64 (m : Int), .agg (cellsOf root).toArray, .int .i64 (n : Int), .slice a l cap] w fun e w' => e = .returned (.bool (decide (bothS old m n true way = some (old, root)))) ∧ Below w.heap.size w w' := by
  have HIN := Lib.hid (show ∀ W, Below w.heap.size w W → Calls Tryd.prog 10 #[.agg (cellsOf old).toArray, .int .i64 (m : Int), .int .i64 (n : Int), .bool true, .slice a l cap] W (GrowRet w.heap.size old m n true way W) from fun W hW => rgrow_c n hn w.heap.size n (by omega) old m true a l cap way W h1 hm ho (hw.below hW) hlc hcm hab hW.size)
  have HO := Lib.hid ho
  have HR := Lib.hid hr
  have q0 : ¬ (m : Int) < 0 := by omega
  have q1 : ¬ (n : Int) < (m : Int) := by omega
  have q2 : ¬ m = 0 := by omega
  have q3 : ¬ (m : Int) = 0 := by omega
  have HIO := Lib.hid (info32 dtR ho)
  have HGT := Lib.hid (show Tryd.prog.eqGuardType Tryd.prog.depth 22 = false by kernel_rfl)
  obtain ⟨V, hV⟩ : ∃ V, V = decide (bothS old m n true way = some (old, root)) := ⟨_, rfl⟩
  rw [← hV]
  have HV := Lib.hid hV
  clear ho hr hw hab hV
  go_enter Tryd.func13, Tryd.ntmps13
  go_upto_region 1 with fail
  refine gen_code (F := R2 w old root) ⟨(heap_new2 _ _ _).1, (heap_new2 _ _ _).2, ((Below.refl _ _).alloc (Nat.le_refl _) _).alloc (by simp) _⟩ ?_
  intro wA hk
  have HK := Lib.hid hk
  clear hk
  go_wp2_with (first | (refine wpList_load_row (by rfl) 22 _ (by rfl) w.heap.size (by rfl) _ (cellsOf old).toArray (0, 0) _ HK.out.1 Tryd.underlying22 (by rfl) HIO.out ?_))
  refine (HIN.out _ HK.out.2.2).mono ?_
  rintro e w1 ⟨hb1, ⟨hu, rfl⟩ | ⟨x, y, rest, ra, rl, rc, hu, hx, hy, hrr, hrc, hrcm, hrb, rfl⟩⟩
  · have HK1 := Lib.hid (HK.out.below hb1)
    have HW := Lib.hid (show V = false from by rw [HV.out]; exact both_none hu root)
    clear hb1 hu HK
    have HCI := Lib.hid (info_no)
    have HCO := Lib.hid (noC_one)
    have K1 := Lib.hid (fun (O : Obj) (hO : O = .cells noC 27 (0, 0)) => show R2 w old root ((w1.alloc O).setRow w1.heap.size noC) ∧ BR ((w1.alloc O).setRow w1.heap.size noC) w1.heap.size noC from by
      subst hO
      have hb : Below w1.heap.size w1 ((w1.alloc (.cells noC 27 (0, 0))).setRow w1.heap.size noC) := ((Below.refl _ _).alloc (Nat.le_refl _) _).setRow (Nat.le_refl _) _
      exact ⟨HK1.out.below hb, BR.setRow (C := noC) (heap_new _ _)⟩)
    go_upto_region 7 with (first | (refine wpList_storeB w1.heap.size noC noC (.tmp 12) (.tmp 44) (by rfl) (by rfl) (by rfl) (by rfl) (by exact heap_newB _ _ (by kernel_rfl)) HCI.out (by exact rfl) HCO.out ?_))
    refine gen_code (F := fun W => R2 w old root W ∧ BR W w1.heap.size noC) (K1.out _ (by kernel_rfl)) ?_
    rintro w2 ⟨hk, hb⟩
    have H2 := Lib.hid hk
    have hok := BR.okc (x := zs32) (y := zs32) (v := .slice none 0 0) (b := false) hb ⟨zs32_len, by decide⟩ ⟨zs32_len, by decide⟩
    clear hk hb K1
    go_wp2
    go_ret
    exact ⟨by rw [HW.out]; rfl, H2.out.2.2⟩
  · have HK1 := Lib.hid (HK.out.below hb1)
    have HX := Lib.hid hx
    have HY := Lib.hid hy
    have hrl := hrr.1
    have HU := Lib.hid hu
    have HCI := Lib.hid (info_bothC hx hy (.slice ra rl rc) true)
    have HCO := Lib.hid (bothC_one x y ra rl rc true)
    have HCS := Lib.hid (show noC.size = (bothC x y (.slice ra rl rc) true).size from by rw [bothC_size hx hy, noC_size])
    have K1 := Lib.hid (fun (O : Obj) (hO : O = .cells noC 27 (0, 0)) => show R2 w old root ((w1.alloc O).setRow w1.heap.size (bothC x y (.slice ra rl rc) true)) ∧ BR ((w1.alloc O).setRow w1.heap.size (bothC x y (.slice ra rl rc) true)) w1.heap.size (bothC x y (.slice ra rl rc) true) from by
      subst hO
      have hb : Below w1.heap.size w1 ((w1.alloc (.cells noC 27 (0, 0))).setRow w1.heap.size (bothC x y (.slice ra rl rc) true)) := ((Below.refl _ _).alloc (Nat.le_refl _) _).setRow (Nat.le_refl _) _
      exact ⟨HK1.out.below hb, BR.setRow (C := noC) (heap_new _ _)⟩)
    have HEX := Lib.hid (fun W => eqDD dtR W HX.out HO.out)
    have HEY := Lib.hid (fun W => eqDD dtR W HY.out HR.out)
    clear hb1 hu HK hx hy hrr hrb
    go_upto_region 7 with (first | (refine wpList_storeB w1.heap.size (bothC x y (.slice ra rl rc) true) noC (.tmp 12) (.tmp 44) (by rfl) (by rfl) (by rfl) (by rfl) (by exact heap_newB _ _ (by kernel_rfl)) HCI.out HCS.out HCO.out ?_))
    refine gen_code (F := fun W => R2 w old root W ∧ BR W w1.heap.size (bothC x y (.slice ra rl rc) true)) (K1.out _ (by kernel_rfl)) ?_
    rintro w2 ⟨hk, hb⟩
    have H2 := Lib.hid hk
    have hok := hb.okc HX.out HY.out
    have hrs := hb.restc HX.out HY.out
    have HLX := Lib.hid (hb.lfirst HX.out)
    have HLY := Lib.hid (hb.lsecond HX.out HY.out)
    have HLO := Lib.hid (run_dload dtR w2 w.heap.size 0 old HO.out hk.1.range)
    have HLR := Lib.hid (run_dload dtR w2 (w.heap.size + 1) 0 root HR.out hk.2.1.range)
    clear hk hb K1
    cases rest with
    | cons s r =>
      have HW := Lib.hid (show V = false from by rw [HV.out]; exact both_more HU.out root)
      have q5 : ¬ rl = 0 := by rw [← hrl]; simp
      clear hrl
      go_wp2
      go_ret
      exact ⟨by rw [HW.out]; rfl, H2.out.2.2⟩
    | nil =>
      obtain rfl : rl = 0 := by rw [← hrl]; rfl
      have HB := Lib.hid (both_just HU.out root)
      clear hrl
      by_cases hxo : x = old
      · rw [decide_eq_true hxo] at HEX HB
        have HW := Lib.hid (show V = decide (y = root) from by rw [HV.out, HB.out, Bool.true_and])
        clear hxo HB
        go_wp2_with (first | (refine wpList_loadg 22 _ (by rfl) (by rfl) (.pointer (some ⟨w1.heap.size, 0, none⟩)) (by rfl) (.agg (cellsOf x).toArray) HLX.out ?_) | (refine wpList_loadg 22 _ (by rfl) (by rfl) (.pointer (some ⟨w1.heap.size, 32, none⟩)) (by rfl) (.agg (cellsOf y).toArray) HLY.out ?_) | (refine wpList_loadg 22 _ (by rfl) (by rfl) (.pointer (some ⟨w.heap.size, 0, none⟩)) (by rfl) (.agg (cellsOf old).toArray) HLO.out ?_) | (refine wpList_loadg 22 _ (by rfl) (by rfl) (.pointer (some ⟨w.heap.size + 1, 0, none⟩)) (by rfl) (.agg (cellsOf root).toArray) HLR.out ?_) | (refine wpList_eqg 22 _ _ _ (by rfl) (by rfl) (cellsOf x).toArray (cellsOf old).toArray (by rfl) (by rfl) HGT.out _ (HEX.out _) ?_) | (refine wpList_eqg 22 _ _ _ (by rfl) (by rfl) (cellsOf y).toArray (cellsOf root).toArray (by rfl) (by rfl) HGT.out _ (HEY.out _) ?_))
        go_ret
        exact ⟨by rw [HW.out]; rfl, H2.out.2.2⟩
      · rw [decide_eq_false hxo] at HEX HB
        have HW := Lib.hid (show V = false from by rw [HV.out, HB.out, Bool.false_and])
        clear hxo HB
        go_wp2_with (first | (refine wpList_loadg 22 _ (by rfl) (by rfl) (.pointer (some ⟨w1.heap.size, 0, none⟩)) (by rfl) (.agg (cellsOf x).toArray) HLX.out ?_) | (refine wpList_loadg 22 _ (by rfl) (by rfl) (.pointer (some ⟨w.heap.size, 0, none⟩)) (by rfl) (.agg (cellsOf old).toArray) HLO.out ?_) | (refine wpList_eqg 22 _ _ _ (by rfl) (by rfl) (cellsOf x).toArray (cellsOf old).toArray (by rfl) (by rfl) HGT.out _ (HEX.out _) ?_))
        go_ret
        exact ⟨by rw [HW.out]; rfl, H2.out.2.2⟩
/-- what Extends says, of any numbers -/
def exB (old : List Nat) (m : Int) (root : List Nat) (n : Int) (way : Ds) : Bool :=
  if m < 0 ∨ n < m then false else if m = 0 then decide (way.length = 0) && (decide (old = Sha.sum []) && (decide (n.toNat ≠ 0) || decide (root = Sha.sum []))) else decide (bothS old m.toNat n.toNat true way = some (old, root))
theorem ext_g (m n : Int) (old root : List Nat) (a : Option Addr) (l cap : Nat) (way : Ds) (w : World) (hn : n ≤ 9223372036854775807) (ho : D32 old) (hr : D32 root) (hw : DR w a l way) (hlc : l ≤ cap) (hcm : cap ≤ 9223372036854775807) (ht : Tab w) :
    Calls Tryd.prog 11 #[.agg (cellsOf old).toArray, .int .i64 m, .agg (cellsOf root).toArray, .int .i64 n, .slice a l cap] w fun e w' => e = .returned (.bool (exB old m root n way)) ∧ Below w.heap.size w w' := by
  unfold exB
  by_cases h : m < 0 ∨ n < m
  · rw [if_pos h]; exact ext_no old root m n a l cap w h
  · rw [if_neg h]
    have e2 : n = (n.toNat : Int) := by omega
    by_cases h0 : m = 0
    · subst h0
      rw [if_pos rfl, hw.1]
      have := ext_zero old root n.toNat a l cap w (by omega) ho hr ht
      rw [← e2] at this
      exact this
    · rw [if_neg h0]
      have e1 : m = (m.toNat : Int) := by omega
      have := ext_yes old root m.toNat n.toNat a l cap way w (by omega) (by omega) (by omega) ho hr hw hlc hcm ht
      rw [← e1, ← e2] at this
      exact this
theorem rext_g (m n : Int) (old root : List Nat) (a : Option Addr) (l cap : Nat) (way : Ds) (w : World) (hn : n ≤ 9223372036854775807) (ho : D32 old) (hr : D32 root) (hw : DR w a l way) (hlc : l ≤ cap) (hcm : cap ≤ 9223372036854775807) (hab : ∀ b, blkOf a = some b → b < w.heap.size) :
    Calls Tryd.prog 13 #[.agg (cellsOf old).toArray, .int .i64 m, .agg (cellsOf root).toArray, .int .i64 n, .slice a l cap] w fun e w' => e = .returned (.bool (exB old m root n way)) ∧ Below w.heap.size w w' := by
  unfold exB
  by_cases h : m < 0 ∨ n < m
  · rw [if_pos h]; exact rext_no old root m n a l cap w h
  · rw [if_neg h]
    have e2 : n = (n.toNat : Int) := by omega
    by_cases h0 : m = 0
    · subst h0
      rw [if_pos rfl, hw.1]
      have := rext_zero old root n.toNat a l cap w (by omega) ho hr
      rw [← e2] at this
      exact this
    · rw [if_neg h0]
      have e1 : m = (m.toNat : Int) := by omega
      have := rext_yes old root m.toNat n.toNat a l cap way w (by omega) (by omega) (by omega) ho hr hw hlc hcm hab
      rw [← e1, ← e2] at this
      exact this
end Go.Proofs.YtdcninfbpmhojaaDoor
