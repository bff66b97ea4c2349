/-
  The walk over Check.
-/
import Derived.Test.YtdcninfbpmhojaaDoorClm
import Derived.Test.YtdcninfbpmhojaaDoorRpt
namespace Go.Proofs.YtdcninfbpmhojaaDoor
open Go.RowKit
set_option linter.unusedVariables false
theorem climb_c : ∀ (n : Nat), 1 ≤ n → n ≤ 9223372036854775807 → ∀ (i : Nat) (leaf : List Nat) (a : Option Addr) (l cap : Nat) (way : Ds) (w : World), i < n → D32 leaf → DR w a l way → l ≤ cap → cap ≤ 9223372036854775807 → Tab w →
    Calls Tryd.prog 42 #[.int .i64 (n : Int), .int .i64 (i : Int), .agg (cellsOf leaf).toArray, .slice a l cap] w (CliRet n i leaf way w) := by
  intro n
  induction n using Nat.strongRecOn with
  | ind n ih =>
    intro h1 hn i leaf a l cap way w hi hl hr hlc hcm ht
    by_cases hn1 : n = 1
    · subst hn1
      exact climb_1 i leaf a l cap way w hl hr hlc
    · by_cases hl0 : l = 0
      · subst hl0
        rw [hr.zero]
        exact climb_0 n i leaf a cap w (by omega) hl
      · obtain ⟨m, rfl⟩ : ∃ m, l = m + 1 := ⟨l - 1, by omega⟩
        have ih' : CIH n := fun m hm h1 i leaf a l cap way w hi hl hr hlc hcm ht => ih m hm h1 (by omega) i leaf a l cap way w hi hl hr hlc hcm ht
        by_cases hik : i < Mk.half n
        · exact climb_l n _ i ih' leaf a m cap way w (by omega) hn hi rfl hik hl hr hlc hcm ht
        · exact climb_r n _ i ih' leaf a m cap way w (by omega) hn hi rfl hik hl hr hlc hcm ht
set_option maxRecDepth 100000 in
set_option maxHeartbeats 2000000 in
theorem check_no (n i : Int) (root leaf : List Nat) (a : Option Addr) (l cap : Nat) (w : World) (h : i < 0 ∨ n ≤ i) :
    Calls Tryd.prog 27 #[.agg (cellsOf root).toArray, .int .i64 n, .int .i64 i, .agg (cellsOf leaf).toArray, .slice a l cap] w fun e w' => e = .returned (.bool false) ∧ Below w.heap.size w w' := by
  by_cases h0 : i < 0
  · clear h
    go_enter Tryd.func27, Tryd.ntmps27
    go_wp2
    go_ret
    exact ⟨rfl, ((Below.refl _ _).alloc (Nat.le_refl _) _).alloc (by simp) _⟩
  · have h1 : n ≤ i := by omega
    clear h
    go_enter Tryd.func27, Tryd.ntmps27
    go_wp2
    go_ret
    exact ⟨rfl, ((Below.refl _ _).alloc (Nat.le_refl _) _).alloc (by simp) _⟩
/-- the two blocks of Check, and the root that follows -/
def K2 (w : World) (root leaf : List Nat) (W : World) : Prop := Brow W w.heap.size 30 root ∧ Brow W (w.heap.size + 1) 30 leaf ∧ Below w.heap.size w W
theorem K2.below {w W W' : World} {root leaf : List Nat} (h : K2 w root leaf W) (hb : Below W.heap.size W W') : K2 w root leaf W' := ⟨h.1.below hb h.1.lt, h.2.1.below hb h.2.1.lt, h.2.2.trans (hb.mono h.2.2.size)⟩
set_option maxRecDepth 100000 in
set_option maxHeartbeats 2000000 in
theorem check_yes (n i : Nat) (root leaf : List Nat) (a : Option Addr) (l cap : Nat) (way : Ds) (w : World) (hn : n ≤ 9223372036854775807) (hi : i < n) (hr : D32 root) (hl : D32 leaf) (hw : DR w a l way) (hlc : l ≤ cap) (hcm : cap ≤ 9223372036854775807) (ht : Tab w) :
    Calls Tryd.prog 27 #[.agg (cellsOf root).toArray, .int .i64 (n : Int), .int .i64 (i : Int), .agg (cellsOf leaf).toArray, .slice a l cap] w fun e w' => e = .returned (.bool (decide (topS n i leaf way = some root))) ∧ Below w.heap.size w w' := by
  have HCL := Lib.hid (fun W => climb_c n (by omega) hn i leaf a l cap way W hi hl)
  have HR := Lib.hid hr
  have HL := Lib.hid hl
  have HW := Lib.hid hw
  have HT := Lib.hid ht
  have hpos := ht.pos
  have q0 : ¬ (i : Int) < 0 := by omega
  have q1 : (i : Int) < (n : Int) := by omega
  have HIL := Lib.hid (info32 dtA hl)
  have HIR := Lib.hid (info32 dtA hr)
  have HGT := Lib.hid (show Tryd.prog.eqGuardType Tryd.prog.depth 30 = false by kernel_rfl)
  clear hr hl hw ht
  go_enter Tryd.func27, Tryd.ntmps27
  go_upto_region 1 with fail
  refine gen_code (F := K2 w root leaf) ⟨(heap_new2 _ _ _).1, (heap_new2 _ _ _).2, ((Below.refl _ _).alloc (Nat.le_refl _) _).alloc (by simp) _⟩ ?_
  intro wA hk
  have HK := Lib.hid hk
  clear hk
  go_wp2_with (first | (refine wpList_load_row (by rfl) 30 _ (by rfl) (w.heap.size + 1) (by rfl) _ (cellsOf leaf).toArray (0, 0) _ HK.out.2.1 Tryd.underlying30 (by rfl) HIL.out ?_))
  refine (HCL.out _ (HW.out.below HK.out.2.2) hlc hcm (HT.out.below HK.out.2.2 hpos)).mono ?_
  rintro e w1 ⟨x, hx, rfl, hxe, hb1⟩
  have HK1 := Lib.hid (HK.out.below hb1)
  have HX := Lib.hid hx
  have HIX := Lib.hid (info32 dtA hx)
  have HZX := Lib.hid (zsize hx)
  have K1 := Lib.hid (fun (O : Obj) (hO : O = .cells (cellsOf zs32).toArray 30 (0, 0)) => show K2 w root leaf ((w1.alloc O).setRow w1.heap.size (cellsOf x).toArray) ∧ Brow ((w1.alloc O).setRow w1.heap.size (cellsOf x).toArray) w1.heap.size 30 x from by
    subst hO
    exact ⟨HK1.out.below (((Below.refl _ _).alloc (Nat.le_refl _) _).setRow (Nat.le_refl _) _), (Brow.new w1 30 zs32).setRow⟩)
  obtain ⟨c, hc⟩ : ∃ c, c = (topS n i leaf way).isSome := ⟨_, rfl⟩
  have HEND := Lib.hid (show (c && decide (x = root)) = decide (topS n i leaf way = some root) from by
    rw [hc]
    cases ht : topS n i leaf way with
    | none => rfl
    | some d =>
      rw [hxe d ht]
      simp)
  rw [← hc]
  have HEQ := Lib.hid (fun W => eqDD dtA W HX.out HR.out)
  clear hx hxe hb1 hc HK
  go_upto_region 4 with (first | (refine wpList_store_row (by rfl) 30 _ _ (by rfl) w1.heap.size (cellsOf x).toArray (by rfl) (by rfl) 30 (cellsOf zs32).toArray (by exact heap_new _ _) HIX.out HZX.out (cellsOf_all _) ?_))
  refine gen_code (F := fun W => K2 w root leaf W ∧ Brow W w1.heap.size 30 x) (K1.out _ rfl) ?_
  rintro w2 ⟨hk, hx⟩
  have HK2 := Lib.hid hk
  have HX2 := Lib.hid hx
  clear hk hx K1
  have HLX := Lib.hid (run_dload dtA w2 w1.heap.size 0 x HX.out HX2.out.range)
  have HLR := Lib.hid (run_dload dtA w2 w.heap.size 0 root HR.out HK2.out.1.range)
  cases c with
  | false =>
    rw [Bool.false_and] at HEND
    go_wp2
    go_ret
    exact ⟨by rw [← HEND.out]; rfl, HK2.out.2.2⟩
  | true =>
    rw [Bool.true_and] at HEND
    go_wp2_with (first | (refine wpList_loadg 30 _ (by rfl) (by rfl) (.pointer (some ⟨w1.heap.size, 0, none⟩)) (by rfl) (.agg (cellsOf x).toArray) HLX.out ?_) | (refine wpList_loadg 30 _ (by rfl) (by rfl) (.pointer (some ⟨w.heap.size, 0, none⟩)) (by rfl) (.agg (cellsOf root).toArray) HLR.out ?_) | (refine wpList_eqg 30 _ _ _ (by rfl) (by rfl) (cellsOf x).toArray (cellsOf root).toArray (by rfl) (by rfl) HGT.out _ (HEQ.out _) ?_))
    go_ret
    exact ⟨by rw [← HEND.out]; rfl, HK2.out.2.2⟩
end Go.Proofs.YtdcninfbpmhojaaDoor
