/-
  The walk over the document's Check.
-/
import Derived.Test.YthnfbdmkdpokcaaDoorRup
import Derived.Test.YthnfbdmkdpokcaaDoorChk
namespace Go.Proofs.YthnfbdmkdpokcaaDoor
open Go.RowKit
set_option linter.unusedVariables false
theorem rcheck_no (n i : Int) (root leaf : List Nat) (a : Option Addr) (l cap : Nat) (w : World) (h : i < 0 ∨ n ≤ i) :
    Calls Tryd.prog 26 #[.agg (cellsOf root).toArray, .int .i64 n, .int .i64 i, .agg (cellsOf leaf).toArray, .slice a l cap] w fun e w' => e = .returned (.bool false) ∧ Below w.heap.size w w' := by
  by_cases h0 : i < 0
  · clear h
    go_enter Tryd.func26, Tryd.ntmps26
    go_wp2
    go_ret
    exact ⟨rfl, ((Below.refl _ _).alloc (Nat.le_refl _) _).alloc (by simp) _⟩
  · have h1 : n ≤ i := by omega
    clear h
    go_enter Tryd.func26, Tryd.ntmps26
    go_wp2
    go_ret
    exact ⟨rfl, ((Below.refl _ _).alloc (Nat.le_refl _) _).alloc (by simp) _⟩
theorem top_up (n i : Nat) (leaf : List Nat) (way : Ds) (root : List Nat) : decide (topS n i leaf way = some root) = match upS n i leaf way with
    | some (d, []) => decide (d = root)
    | _ => false := by
  unfold topS Mk.top upS
  cases Mk.up nodeS n i leaf way with
  | none => rfl
  | some q =>
    obtain ⟨d, r⟩ := q
    cases r with
    | nil => simp
    | cons x r => rfl
set_option maxRecDepth 100000 in
set_option maxHeartbeats 2000000 in
theorem rcheck_yes (n i : Nat) (root leaf : List Nat) (a : Option Addr) (l cap : Nat) (way : Ds) (w : World) (hn : n ≤ 9223372036854775807) (hi : i < n) (hr : D32 root) (hl : D32 leaf) (hw : DR w a l way) (hlc : l ≤ cap) (hcm : cap ≤ 9223372036854775807) (hab : ∀ b, blkOf a = some b → b < w.heap.size) :
    Calls Tryd.prog 26 #[.agg (cellsOf root).toArray, .int .i64 (n : Int), .int .i64 (i : Int), .agg (cellsOf leaf).toArray, .slice a l cap] w fun e w' => e = .returned (.bool (decide (topS n i leaf way = some root))) ∧ Below w.heap.size w w' := by
  rw [top_up]
  obtain ⟨Z, hZ⟩ : ∃ Z, Z = (match upS n i leaf way with
    | some (d, []) => decide (d = root)
    | _ => false) := ⟨_, rfl⟩
  rw [← hZ]
  have HZE := Lib.hid hZ
  clear hZ
  have HCL := Lib.hid (show ∀ W, Below w.heap.size w W → Calls Tryd.prog 25 #[.int .i64 (n : Int), .int .i64 (i : Int), .agg (cellsOf leaf).toArray, .slice a l cap] W (UpRet w.heap.size n i leaf way W) from fun W hW => rup_g n w.heap.size (by omega) hn i leaf a l cap way W hi hl (hw.below hW) hlc hcm hab hW.size)
  have HR := Lib.hid hr
  have q0 : ¬ (i : Int) < 0 := by omega
  have q1 : (i : Int) < (n : Int) := by omega
  have HIL := Lib.hid (info32 dtR hl)
  have hz : D32 zs32 := ⟨zs32_len, by decide⟩
  have HIZ := Lib.hid (info32 dtR hz)
  have HGT := Lib.hid (show Tryd.prog.eqGuardType Tryd.prog.depth 26 = false by kernel_rfl)
  clear hr hl hw hab hz
  go_enter Tryd.func26, Tryd.ntmps26
  go_upto_region 1 with fail
  refine gen_code (F := R2 w root leaf) ⟨(heap_new2 _ _ _).1, (heap_new2 _ _ _).2, ((Below.refl _ _).alloc (Nat.le_refl _) _).alloc (by simp) _⟩ ?_
  intro wA hk
  have HK := Lib.hid hk
  clear hk
  go_wp2_with (first | (refine wpList_load_row (by rfl) 26 _ (by rfl) (w.heap.size + 1) (by rfl) _ (cellsOf leaf).toArray (0, 0) _ HK.out.2.1 Tryd.underlying26 (by rfl) HIL.out ?_))
  refine (HCL.out _ HK.out.2.2).mono ?_
  rintro e w1 ⟨hb1, ⟨hu, rfl⟩ | ⟨d, rest, ra, rl, rc, hu, hd, hrr, hrc, hrcm, _, rfl⟩⟩
  · have HK1 := Lib.hid (HK.out.below hb1)
    have HU := Lib.hid hu
    have K1 := Lib.hid (fun (O : Obj) (hO : O = .cells (cellsOf zs32).toArray 26 (0, 0)) => show R2 w root leaf ((w1.alloc O).setRow w1.heap.size (cellsOf zs32).toArray) from by
      subst hO
      exact HK1.out.below (((Below.refl _ _).alloc (Nat.le_refl _) _).setRow (Nat.le_refl _) _))
    clear hb1 hu HK
    go_upto_region 4 with (first | (refine wpList_store_row (by rfl) 26 _ _ (by rfl) w1.heap.size (cellsOf zs32).toArray (by rfl) (by rfl) 26 (cellsOf zs32).toArray (by exact heap_new _ _) HIZ.out (by rfl) (cellsOf_all _) ?_))
    refine gen_code (F := R2 w root leaf) (K1.out _ rfl) ?_
    intro w2 hk
    have HK2 := Lib.hid hk
    clear hk K1
    go_wp2
    go_ret
    exact ⟨by rw [HZE.out, HU.out]; rfl, HK2.out.2.2⟩
  · have HK1 := Lib.hid (HK.out.below hb1)
    have HU := Lib.hid hu
    have HX := Lib.hid hd
    have HIX := Lib.hid (info32 dtR hd)
    have HZX := Lib.hid (zsize hd)
    have HEQ := Lib.hid (fun W => eqDD dtR W hd HR.out)
    have K1 := Lib.hid (fun (O : Obj) (hO : O = .cells (cellsOf zs32).toArray 26 (0, 0)) => show R2 w root leaf ((w1.alloc O).setRow w1.heap.size (cellsOf d).toArray) ∧ Brow ((w1.alloc O).setRow w1.heap.size (cellsOf d).toArray) w1.heap.size 26 d from by
      subst hO
      exact ⟨HK1.out.below (((Below.refl _ _).alloc (Nat.le_refl _) _).setRow (Nat.le_refl _) _), (Brow.new w1 26 zs32).setRow⟩)
    have hrl := hrr.1
    clear hb1 hu HK hd hrr
    go_upto_region 4 with (first | (refine wpList_store_row (by rfl) 26 _ _ (by rfl) w1.heap.size (cellsOf d).toArray (by rfl) (by rfl) 26 (cellsOf zs32).toArray (by exact heap_new _ _) HIX.out HZX.out (cellsOf_all _) ?_))
    refine gen_code (F := fun W => R2 w root leaf W ∧ Brow W w1.heap.size 26 d) (K1.out _ rfl) ?_
    rintro w2 ⟨hk, hx⟩
    have HK2 := Lib.hid hk
    have HX2 := Lib.hid hx
    clear hk hx K1
    have HLX := Lib.hid (run_dload dtR w2 w1.heap.size 0 d HX.out HX2.out.range)
    have HLR := Lib.hid (run_dload dtR w2 w.heap.size 0 root HR.out HK2.out.1.range)
    cases rest with
    | nil =>
      obtain rfl : rl = 0 := by rw [← hrl]; rfl
      clear hrl
      go_wp2_with (first | (refine wpList_loadg 26 _ (by rfl) (by rfl) (.pointer (some ⟨w1.heap.size, 0, none⟩)) (by rfl) (.agg (cellsOf d).toArray) HLX.out ?_) | (refine wpList_loadg 26 _ (by rfl) (by rfl) (.pointer (some ⟨w.heap.size, 0, none⟩)) (by rfl) (.agg (cellsOf root).toArray) HLR.out ?_) | (refine wpList_eqg 26 _ _ _ (by rfl) (by rfl) (cellsOf d).toArray (cellsOf root).toArray (by rfl) (by rfl) HGT.out _ (HEQ.out _) ?_))
      go_ret
      exact ⟨by rw [HZE.out, HU.out]; rfl, HK2.out.2.2⟩
    | cons x rest =>
      have q5 : ¬ rl = 0 := by rw [← hrl]; simp
      clear hrl
      go_wp2
      go_ret
      exact ⟨by rw [HZE.out, HU.out]; rfl, HK2.out.2.2⟩
end Go.Proofs.YthnfbdmkdpokcaaDoor
