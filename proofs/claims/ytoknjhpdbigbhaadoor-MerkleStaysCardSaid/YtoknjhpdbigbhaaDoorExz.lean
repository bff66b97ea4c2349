/-
  Extends of no leaves.
-/
import Derived.Test.YtoknjhpdbigbhaaDoorPrx
namespace Go.Proofs.YtoknjhpdbigbhaaDoor
open Go.RowKit
set_option linter.unusedVariables false
def E3 (w : World) (old root : List Nat) (g : Nat) (x : List Nat) (W : World) : Prop := K2 w old root W ∧ Brow W g 32 x
set_option maxRecDepth 100000 in
set_option maxHeartbeats 4000000 in
theorem ext_zero (old root : List Nat) (n : Nat) (a : Option Addr) (l cap : Nat) (w : World) (hn : n ≤ 9223372036854775807) (ho : D32 old) (hr : D32 root) (ht : Tab w) :
    Calls Tryd.prog 21 #[.agg (cellsOf old).toArray, .int .i64 0, .agg (cellsOf root).toArray, .int .i64 (n : Int), .slice a l cap] w fun e w' => e = .returned (.bool (decide (l = 0) && (decide (old = Sha.sum []) && (decide (n ≠ 0) || decide (root = Sha.sum []))))) ∧ Below w.heap.size w w' := by
  obtain ⟨E, hE⟩ : ∃ E, E = Sha.sum [] := ⟨_, rfl⟩
  rw [← hE]
  have he : D32 E := by rw [hE]; exact d32_sum _
  have HRE := Lib.hid (show ∀ W, Below w.heap.size w W → Calls Tryd.prog 25 #[.slice none 0 0] W (DigRet E W) from fun W hW => by rw [hE, ← rootS_nil]; exact root_c 0 [] none 0 W (DR.nil W) (by omega) (by omega) (ht.below hW ht.pos))
  have HO := Lib.hid ho
  have HR := Lib.hid hr
  have HE := Lib.hid he
  have q1 : ¬ (n : Int) < 0 := by omega
  have HIE := Lib.hid (info32 dtA he)
  have HZE := Lib.hid (zsize he)
  have HGT := Lib.hid (show Tryd.prog.eqGuardType Tryd.prog.depth 32 = false by kernel_rfl)
  have HEO := Lib.hid (fun W => eqDD dtA W HO.out HE.out)
  have HER := Lib.hid (fun W => eqDD dtA W HR.out HE.out)
  obtain ⟨V, hV⟩ : ∃ V, V = (decide (l = 0) && (decide (old = E) && (decide (n ≠ 0) || decide (root = E)))) := ⟨_, rfl⟩
  rw [← hV]
  have HV := Lib.hid hV
  clear ho hr ht he hE hV
  go_enter Tryd.func21, Tryd.ntmps21
  go_upto_region 1 with fail
  refine gen_code (F := K2 w old root) ⟨(heap_new2 _ _ _).1, (heap_new2 _ _ _).2, ((Below.refl _ _).alloc (Nat.le_refl _) _).alloc (by simp) _⟩ ?_
  intro wA hk
  have HK := Lib.hid hk
  clear hk
  go_wp2_with fail
  refine (HRE.out _ HK.out.2.2).mono ?_
  rintro e w1 ⟨rfl, hb1⟩
  have HK1 := Lib.hid (HK.out.below hb1)
  have K1 := Lib.hid (fun (O : Obj) (hO : O = .cells (cellsOf zs32).toArray 32 (0, 0)) => show E3 w old root w1.heap.size E ((w1.alloc O).setRow w1.heap.size (cellsOf E).toArray) from by
    subst hO
    have hb : Below w1.heap.size w1 ((w1.alloc (.cells (cellsOf zs32).toArray 32 (0, 0))).setRow w1.heap.size (cellsOf E).toArray) := ((Below.refl _ _).alloc (Nat.le_refl _) _).setRow (Nat.le_refl _) _
    exact ⟨HK1.out.below hb, Brow.setRow (zs := zs32) (heap_new w1 _)⟩)
  have HG1 := Lib.hid (show ∀ O : Obj, O = .cells (cellsOf zs32).toArray 32 (0, 0) → (w1.alloc O).heap[w1.heap.size]? = some (.cells (cellsOf zs32).toArray 32 (0, 0)) from fun O h => by subst h; exact heap_new w1 _)
  clear hb1 HK
  go_upto_region 5 with (first | (refine wpList_store_row (by rfl) 32 _ _ (by rfl) w1.heap.size (cellsOf E).toArray (by rfl) (by rfl) 32 (cellsOf zs32).toArray (by exact HG1.out _ rfl) HIE.out HZE.out (cellsOf_all _) ?_; refine gen_world (F := E3 w old root w1.heap.size E) (K1.out _ rfl) ?_; intro w3 h3; have H3 := Lib.hid h3; clear h3 K1 HG1))
  have HLE := Lib.hid (run_dload dtA w3 w1.heap.size 0 E HE.out H3.out.2.range)
  have HLO := Lib.hid (run_dload dtA w3 w.heap.size 0 old HO.out H3.out.1.1.range)
  have HLR := Lib.hid (run_dload dtA w3 (w.heap.size + 1) 0 root HR.out H3.out.1.2.1.range)
  by_cases hl : l = 0
  · subst hl
    by_cases hxo : old = E
    · rw [decide_eq_true hxo] at HEO HV
      by_cases hn0 : n = 0
      · subst hn0
        obtain ⟨c, hc⟩ : ∃ c, c = decide (root = E) := ⟨_, rfl⟩
        rw [← hc] at HER HV
        have HW := Lib.hid (show V = c from by rw [HV.out]; simp)
        clear hc hxo HV
        go_wp2_with (first | (refine wpList_loadg 32 _ (by rfl) (by rfl) (.pointer (some ⟨w1.heap.size, 0, none⟩)) (by rfl) (.agg (cellsOf E).toArray) HLE.out ?_) | (refine wpList_loadg 32 _ (by rfl) (by rfl) (.pointer (some ⟨w.heap.size, 0, none⟩)) (by rfl) (.agg (cellsOf old).toArray) HLO.out ?_) | (refine wpList_loadg 32 _ (by rfl) (by rfl) (.pointer (some ⟨w.heap.size + 1, 0, none⟩)) (by rfl) (.agg (cellsOf root).toArray) HLR.out ?_) | (refine wpList_eqg 32 _ _ _ (by rfl) (by rfl) (cellsOf old).toArray (cellsOf E).toArray (by rfl) (by rfl) HGT.out _ (HEO.out _) ?_) | (refine wpList_eqg 32 _ _ _ (by rfl) (by rfl) (cellsOf root).toArray (cellsOf E).toArray (by rfl) (by rfl) HGT.out _ (HER.out _) ?_))
        go_ret
        exact ⟨by rw [HW.out]; rfl, H3.out.1.2.2⟩
      · have HW := Lib.hid (show V = true from by rw [HV.out]; simp [hn0])
        clear hxo HV
        have q5 : ¬ (n : Int) = 0 := by omega
        go_wp2_with (first | (refine wpList_loadg 32 _ (by rfl) (by rfl) (.pointer (some ⟨w1.heap.size, 0, none⟩)) (by rfl) (.agg (cellsOf E).toArray) HLE.out ?_) | (refine wpList_loadg 32 _ (by rfl) (by rfl) (.pointer (some ⟨w.heap.size, 0, none⟩)) (by rfl) (.agg (cellsOf old).toArray) HLO.out ?_) | (refine wpList_eqg 32 _ _ _ (by rfl) (by rfl) (cellsOf old).toArray (cellsOf E).toArray (by rfl) (by rfl) HGT.out _ (HEO.out _) ?_))
        go_ret
        exact ⟨by rw [HW.out]; rfl, H3.out.1.2.2⟩
    · rw [decide_eq_false hxo] at HEO HV
      have HW := Lib.hid (show V = false from by rw [HV.out]; simp)
      clear hxo HV
      go_wp2_with (first | (refine wpList_loadg 32 _ (by rfl) (by rfl) (.pointer (some ⟨w1.heap.size, 0, none⟩)) (by rfl) (.agg (cellsOf E).toArray) HLE.out ?_) | (refine wpList_loadg 32 _ (by rfl) (by rfl) (.pointer (some ⟨w.heap.size, 0, none⟩)) (by rfl) (.agg (cellsOf old).toArray) HLO.out ?_) | (refine wpList_eqg 32 _ _ _ (by rfl) (by rfl) (cellsOf old).toArray (cellsOf E).toArray (by rfl) (by rfl) HGT.out _ (HEO.out _) ?_))
      go_ret
      exact ⟨by rw [HW.out]; rfl, H3.out.1.2.2⟩
  · have HW := Lib.hid (show V = false from by rw [HV.out]; simp [hl])
    have q6 : ¬ (l : Int) = 0 := by omega
    go_wp2
    go_ret
    exact ⟨by rw [HW.out]; rfl, H3.out.1.2.2⟩
end Go.Proofs.YtoknjhpdbigbhaaDoor
