/-
  The walk over Extends.
-/
import Derived.Test.YtoknjhpdbigbhaaDoorReb
namespace Go.Proofs.YtoknjhpdbigbhaaDoor
open Go.RowKit
set_option linter.unusedVariables false
theorem ext_no (old root : List Nat) (m n : Int) (a : Option Addr) (l cap : Nat) (w : World) (h : m < 0 ∨ n < m) :
    Calls Tryd.prog 21 #[.agg (cellsOf old).toArray, .int .i64 m, .agg (cellsOf root).toArray, .int .i64 n, .slice a l cap] w fun e w' => e = .returned (.bool false) ∧ Below w.heap.size w w' := by
  by_cases h0 : m < 0
  · clear h
    go_enter Tryd.func21, Tryd.ntmps21
    go_wp2
    go_ret
    exact ⟨rfl, ((Below.refl _ _).alloc (Nat.le_refl _) _).alloc (by simp) _⟩
  · have h1 : n < m := by omega
    clear h
    go_enter Tryd.func21, Tryd.ntmps21
    go_wp2
    go_ret
    exact ⟨rfl, ((Below.refl _ _).alloc (Nat.le_refl _) _).alloc (by simp) _⟩
def E2 (w : World) (old root : List Nat) (g : Nat) (x y : List Nat) (W : World) : Prop := K2 w old root W ∧ Brow W g 32 x ∧ Brow W (g + 1) 32 y
set_option maxRecDepth 100000 in
set_option maxHeartbeats 4000000 in
theorem ext_yes (old root : List Nat) (m n : Nat) (a : Option Addr) (l cap : Nat) (way : Ds) (w : World) (h1 : 1 ≤ m) (hm : m ≤ n) (hn : n ≤ 9223372036854775807) (ho : D32 old) (hr : D32 root) (hw : DR w a l way) (hlc : l ≤ cap) (hcm : cap ≤ 9223372036854775807) (ht : Tab w) :
    Calls Tryd.prog 21 #[.agg (cellsOf old).toArray, .int .i64 (m : Int), .agg (cellsOf root).toArray, .int .i64 (n : Int), .slice a l cap] w fun e w' => e = .returned (.bool (decide (bothS old m n true way = some (old, root)))) ∧ Below w.heap.size w w' := by
  have HRE := Lib.hid (show ∀ W, Below w.heap.size w W → Calls Tryd.prog 33 #[.agg (cellsOf old).toArray, .int .i64 (m : Int), .int .i64 (n : Int), .bool true, .slice a l cap] W (RebRet old m n true way W) from fun W hW => reb_c n hn old m true a l cap way W h1 hm ho (hw.below hW) hlc hcm (ht.below hW ht.pos))
  have HO := Lib.hid ho
  have HR := Lib.hid hr
  have q0 : ¬ (m : Int) < 0 := by omega
  have q1 : ¬ (n : Int) < (m : Int) := by omega
  have q2 : ¬ m = 0 := by omega
  have q3 : ¬ (m : Int) = 0 := by omega
  have HIO := Lib.hid (info32 dtA ho)
  have HGT := Lib.hid (show Tryd.prog.eqGuardType Tryd.prog.depth 32 = false by kernel_rfl)
  clear ho hr hw ht
  go_enter Tryd.func21, Tryd.ntmps21
  go_upto_region 1 with fail
  refine gen_code (F := K2 w old root) ⟨(heap_new2 _ _ _).1, (heap_new2 _ _ _).2, ((Below.refl _ _).alloc (Nat.le_refl _) _).alloc (by simp) _⟩ ?_
  intro wA hk
  have HK := Lib.hid hk
  clear hk
  go_wp2_with (first | (refine wpList_load_row (by rfl) 32 _ (by rfl) w.heap.size (by rfl) _ (cellsOf old).toArray (0, 0) _ HK.out.1 Tryd.underlying32 (by rfl) HIO.out ?_))
  refine (HRE.out _ HK.out.2.2).mono ?_
  rintro e w1 ⟨x, y, hx, hy, rfl, hxe, hb1⟩
  have HK1 := Lib.hid (HK.out.below hb1)
  have HX := Lib.hid hx
  have HY := Lib.hid hy
  have HIX := Lib.hid (info32 dtA hx)
  have HIY := Lib.hid (info32 dtA hy)
  have HZX := Lib.hid (zsize hx)
  have HZY := Lib.hid (zsize hy)
  obtain ⟨c, hc⟩ : ∃ c, c = (bothS old m n true way).isSome := ⟨_, rfl⟩
  have HEND := Lib.hid (show (c && (decide (x = old) && decide (y = root))) = decide (bothS old m n true way = some (old, root)) from by
    rw [hc]
    cases hb : bothS old m n true way with
    | none => rfl
    | some q =>
      obtain ⟨p, q⟩ := q
      have := hxe _ hb
      simp only [Prod.mk.injEq] at this
      obtain ⟨rfl, rfl⟩ := this
      simp only [Option.isSome_some, Bool.true_and, Option.some.injEq, Prod.mk.injEq, Bool.decide_and])
  rw [← hc]
  have HEX := Lib.hid (fun W => eqDD dtA W HX.out HO.out)
  have HEY := Lib.hid (fun W => eqDD dtA W HY.out HR.out)
  have K1 := Lib.hid (fun (O P : Obj) (hO : O = .cells (cellsOf zs32).toArray 32 (0, 0)) (hP : P = .cells (cellsOf zs32).toArray 32 (0, 0)) => show E2 w old root w1.heap.size x zs32 (((w1.alloc O).alloc P).setRow w1.heap.size (cellsOf x).toArray) from by
    subst hO hP
    have hb : Below w1.heap.size w1 (((w1.alloc (.cells (cellsOf zs32).toArray 32 (0, 0))).alloc (.cells (cellsOf zs32).toArray 32 (0, 0))).setRow w1.heap.size (cellsOf x).toArray) := (((Below.refl _ _).alloc (Nat.le_refl _) _).alloc (by simp) _).setRow (Nat.le_refl _) _
    exact ⟨HK1.out.below hb, Brow.setRow (zs := zs32) (heap_new2 w1 _ _).1, Brow.only (g' := w1.heap.size) (heap_new2 w1 _ _).2 ((Only.refl _ _).setRow _) (by omega)⟩)
  have hg1 : (∀ O P : Obj, O = .cells (cellsOf zs32).toArray 32 (0, 0) → ((w1.alloc O).alloc P).heap[w1.heap.size]? = some (.cells (cellsOf zs32).toArray 32 (0, 0))) := fun O P h => by subst h; exact (heap_new2 w1 _ _).1
  have HG1 := Lib.hid hg1
  clear hx hy hxe hb1 hc HK hg1
  go_upto_region 7 with (first | (refine wpList_store_row (by rfl) 32 _ _ (by rfl) w1.heap.size (cellsOf x).toArray (by rfl) (by rfl) 32 (cellsOf zs32).toArray (by exact HG1.out _ _ rfl) HIX.out HZX.out (cellsOf_all _) ?_; refine gen_world (F := E2 w old root w1.heap.size x zs32) (K1.out _ _ rfl rfl) ?_; intro w2 h2; have H2 := Lib.hid h2; clear h2 K1 HG1) | (refine wpList_store_row (by rfl) 32 _ _ (by rfl) (w1.heap.size + 1) (cellsOf y).toArray (by rfl) (by rfl) 32 (cellsOf zs32).toArray H2.out.2.2 HIY.out HZY.out (cellsOf_all _) ?_; refine gen_world (F := E2 w old root w1.heap.size x y) ⟨⟨H2.out.1.1.only ((Only.refl (w1.heap.size + 1) _).setRow _) (by have := HK1.out.1.lt; omega), H2.out.1.2.1.only ((Only.refl (w1.heap.size + 1) _).setRow _) (by have := HK1.out.2.1.lt; omega), H2.out.1.2.2.trans (Only.below (g := w1.heap.size + 1) ((Only.refl _ _).setRow _) (by have := HK1.out.1.lt; omega) H2.out.1.2.2.size)⟩, H2.out.2.1.only ((Only.refl (w1.heap.size + 1) _).setRow _) (by omega), H2.out.2.2.setRow⟩ ?_; intro w3 h3; have H3 := Lib.hid h3; clear h3 H2))
  have HLX := Lib.hid (run_dload dtA w3 w1.heap.size 0 x HX.out H3.out.2.1.range)
  have HLY := Lib.hid (run_dload dtA w3 (w1.heap.size + 1) 0 y HY.out H3.out.2.2.range)
  have HLO := Lib.hid (run_dload dtA w3 w.heap.size 0 old HO.out H3.out.1.1.range)
  have HLR := Lib.hid (run_dload dtA w3 (w.heap.size + 1) 0 root HR.out H3.out.1.2.1.range)
  cases c with
  | false =>
    rw [Bool.false_and] at HEND
    go_wp2
    go_ret
    exact ⟨by rw [← HEND.out]; rfl, H3.out.1.2.2⟩
  | true =>
    rw [Bool.true_and] at HEND
    by_cases hxo : x = old
    · rw [decide_eq_true hxo] at HEX HEND
      rw [Bool.true_and] at HEND
      clear hxo
      go_wp2_with (first | (refine wpList_loadg 32 _ (by rfl) (by rfl) (.pointer (some ⟨w1.heap.size, 0, none⟩)) (by rfl) (.agg (cellsOf x).toArray) HLX.out ?_) | (refine wpList_loadg 32 _ (by rfl) (by rfl) (.pointer (some ⟨w1.heap.size + 1, 0, none⟩)) (by rfl) (.agg (cellsOf y).toArray) HLY.out ?_) | (refine wpList_loadg 32 _ (by rfl) (by rfl) (.pointer (some ⟨w.heap.size, 0, none⟩)) (by rfl) (.agg (cellsOf old).toArray) HLO.out ?_) | (refine wpList_loadg 32 _ (by rfl) (by rfl) (.pointer (some ⟨w.heap.size + 1, 0, none⟩)) (by rfl) (.agg (cellsOf root).toArray) HLR.out ?_) | (refine wpList_eqg 32 _ _ _ (by rfl) (by rfl) (cellsOf x).toArray (cellsOf old).toArray (by rfl) (by rfl) HGT.out _ (HEX.out _) ?_) | (refine wpList_eqg 32 _ _ _ (by rfl) (by rfl) (cellsOf y).toArray (cellsOf root).toArray (by rfl) (by rfl) HGT.out _ (HEY.out _) ?_))
      go_ret
      exact ⟨by rw [← HEND.out]; rfl, H3.out.1.2.2⟩
    · rw [decide_eq_false hxo] at HEX HEND
      rw [Bool.false_and] at HEND
      clear hxo
      go_wp2_with (first | (refine wpList_loadg 32 _ (by rfl) (by rfl) (.pointer (some ⟨w1.heap.size, 0, none⟩)) (by rfl) (.agg (cellsOf x).toArray) HLX.out ?_) | (refine wpList_loadg 32 _ (by rfl) (by rfl) (.pointer (some ⟨w.heap.size, 0, none⟩)) (by rfl) (.agg (cellsOf old).toArray) HLO.out ?_) | (refine wpList_eqg 32 _ _ _ (by rfl) (by rfl) (cellsOf x).toArray (cellsOf old).toArray (by rfl) (by rfl) HGT.out _ (HEX.out _) ?_))
      go_ret
      exact ⟨by rw [← HEND.out]; rfl, H3.out.1.2.2⟩
end Go.Proofs.YtoknjhpdbigbhaaDoor
