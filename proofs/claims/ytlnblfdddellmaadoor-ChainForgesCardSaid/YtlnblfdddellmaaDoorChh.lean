/-
  The walk over the document's Digits of one-time keys.
-/
import Derived.Test.YtlnblfdddellmaaDoorChg
namespace Go.Proofs.YtlnblfdddellmaaDoor
open Go.RowKit
set_option linter.unusedVariables false
theorem D3.drewN {w W : World} {t : TypeId} {x y z : List Nat} (h : D3 w t x y z W) (n : Nat) : D3 w t x y z (W.drewN n) := ⟨h.1, h.2.1, h.2.2.1, h.2.2.2.trans (below_drewN' _ _ _)⟩
theorem D3.drew {w W : World} {t : TypeId} {x y z : List Nat} (h : D3 w t x y z W) : D3 w t x y z W.drew := ⟨h.1, h.2.1, h.2.2.1, h.2.2.2.drew⟩
theorem dz_at (m : List Nat) (hm : m.length = 32) (k : Nat) (hk : k < 32) : (dz m (k + 1)).getD (2 * k) 0 = m.getD k 0 / 16 ∧ (dz m (k + 1)).getD (2 * k + 1) 0 = m.getD k 0 % 16 := by
  have hl := dz_len m hm k (by omega)
  rw [← dz_next m hm k hk]
  simp only [List.getD_eq_getElem?_getD]
  refine ⟨?_, ?_⟩
  · rw [List.getElem?_set_ne (by omega), List.getElem?_set_self (by omega)]; rfl
  · rw [List.getElem?_set_self (by rw [List.length_set]; omega)]; rfl
set_option maxRecDepth 100000 in
set_option maxHeartbeats 2000000 in
theorem rdigits_c (m : List Nat) (w : World) (hm : D32 m) :
    Calls Tryd.prog 29 #[.agg (cellsOf m).toArray] w (DigRet (Dg.digs m) w) := by
  have HM := Lib.hid hm
  clear hm
  go_enter Tryd.func29, Tryd.ntmps29
  go_upto_region 2 with fail
  refine gen_code (F := D3 w 31 m zs67 zs67) (D3.new w _ _ _ _) ?_
  intro wA h
  have H0 := Lib.hid h
  clear h
  go_wp2_with fail
  go_loopw [4, 5] (fun s i wr => ∃ k : Nat, k ≤ 32 ∧ i = .int .i64 k ∧ s = .int .i64 ((Dg.left (m.take k) : Nat) : Int) ∧ Hid (D3 w 31 m zs67 (dz m k) wr)) (fun _ i _ => 32 - (intOf i).toNat)
  case atStart => exact ⟨0, by omega, rfl, rfl, by rw [dz_zero]; exact H0⟩
  case round =>
    clear H0
    obtain ⟨k, hk, rfl, rfl, HB⟩ := hrel
    have hS := Dg.left_le (m.take k)
    rw [List.length_take] at hS
    by_cases hk32 : k < 32
    · obtain ⟨b, hb⟩ : ∃ b, b = m.getD k 0 := ⟨_, rfl⟩
      have hb8 : b < 256 := by rw [hb, getD_at _ _ (by rw [HM.out.1]; exact hk32)]; exact HM.out.2 _ (List.getElem_mem _)
      obtain ⟨q, hq⟩ : ∃ q, q = b / 16 := ⟨_, rfl⟩
      obtain ⟨r, hr⟩ : ∃ r, r = b % 16 := ⟨_, rfl⟩
      obtain ⟨s, hs⟩ : ∃ s, s = Dg.left (m.take k) := ⟨_, rfl⟩
      rw [← hs] at hS ⊢
      have hq15 : q ≤ 15 := by omega
      have hr15 : r ≤ 15 := by omega
      have e1 : (b : Int) / 16 = (q : Int) := by omega
      have e2 : (b : Int) % 16 = (r : Int) := by omega
      have HNX := Lib.hid (show s + (15 - q + (15 - r)) = Dg.left (m.take (k + 1)) from by
        rw [take_snoc m k (by rw [HM.out.1]; exact hk32), Dg.left_app, ← getD_at m k (by rw [HM.out.1]; exact hk32), ← hb, ← hs]
        simp only [Dg.left]
        omega)
      have hlen := dz_len m HM.out.1 k hk
      have f0 : wr.cell? ⟨w.heap.size, k, none⟩ = some (.int .u8 (b : Int)) := by rw [hb]; exact HB.out.1.cell _ (by rw [HM.out.1]; exact hk32)
      have f1 : wr.cell? ⟨w.heap.size + 1 + 1, 2 * k, none⟩ = some (.int .u8 (((dz m k).getD (2 * k) 0 : Nat) : Int)) := HB.out.2.2.1.cell _ (by omega)
      have f2 : wr.frozen? ⟨w.heap.size + 1 + 1, 2 * k, none⟩ = false := HB.out.2.2.1.frozen _
      have HB1 := Lib.hid (HB.out.set (2 * k) q)
      have f3 : (wr.setCell ⟨w.heap.size + 1 + 1, 2 * k, none⟩ (.int .u8 (q : Int))).cell? ⟨w.heap.size + 1 + 1, 2 * k + 1, none⟩ = some (.int .u8 ((((dz m k).set (2 * k) q).getD (2 * k + 1) 0 : Nat) : Int)) := HB1.out.2.2.1.cell _ (by rw [List.length_set]; omega)
      have f4 : (wr.setCell ⟨w.heap.size + 1 + 1, 2 * k, none⟩ (.int .u8 (q : Int))).frozen? ⟨w.heap.size + 1 + 1, 2 * k + 1, none⟩ = false := HB1.out.2.2.1.frozen _
      have f5 : (wr.setCell ⟨w.heap.size + 1 + 1, 2 * k, none⟩ (.int .u8 (q : Int))).cell? ⟨w.heap.size, k, none⟩ = some (.int .u8 (b : Int)) := by rw [hb]; exact HB1.out.1.cell _ (by rw [HM.out.1]; exact hk32)
      have HB2 := Lib.hid (HB1.out.set (2 * k + 1) r)
      have HDZ := Lib.hid (show ((dz m k).set (2 * k) q).set (2 * k + 1) r = dz m (k + 1) from by rw [hq, hr, hb]; exact dz_next m HM.out.1 k hk32)
      have HAT := Lib.hid (show (dz m (k + 1)).getD (2 * k) 0 = q ∧ (dz m (k + 1)).getD (2 * k + 1) 0 = r from by rw [hq, hr, hb]; exact dz_at m HM.out.1 k hk32)
      rw [HDZ.out] at HB2
      clear hb hq hr hs hlen HB1 HB HDZ
      go_upto_region 8 with fail
      refine gen_code (F := D3 w 31 m zs67 (dz m (k + 1))) HB2.out ?_
      intro wF hf
      have HF := Lib.hid hf
      have hlen := dz_len m HM.out.1 (k + 1) (by omega)
      clear hf HB2 f0 f1 f2 f3 f4 f5 e1 e2
      have g1 : wF.cell? ⟨w.heap.size + 1 + 1, 2 * k, none⟩ = some (.int .u8 (q : Int)) := by rw [← HAT.out.1]; exact HF.out.2.2.1.cell _ (by omega)
      have g2 : wF.cell? ⟨w.heap.size + 1 + 1, 2 * k + 1, none⟩ = some (.int .u8 (r : Int)) := by rw [← HAT.out.2]; exact HF.out.2.2.1.cell _ (by omega)
      clear hlen
      go_region
      go_wp2_with fail
      go_roundw
      case rel => exact ⟨k + 1, by omega, by go_num, congrArg (Value.int .i64) (by rw [← HNX.out]; omega), HF.out.drew⟩
      case measure => simp [intOf]; omega
    · obtain rfl : k = 32 := by omega
      have hta : m.take 32 = m := List.take_of_length_le (by rw [HM.out.1]; omega)
      rw [dz_all m HM.out.1] at HB
      rw [hta] at hS ⊢
      clear hta
      obtain ⟨s, hs⟩ : ∃ s, s = Dg.left m := ⟨_, rfl⟩
      rw [← hs] at hS ⊢
      obtain ⟨A, hA⟩ : ∃ A, A = s / 256 := ⟨_, rfl⟩
      obtain ⟨B, hB⟩ : ∃ B, B = s / 16 % 16 := ⟨_, rfl⟩
      obtain ⟨C, hC⟩ : ∃ C, C = s % 16 := ⟨_, rfl⟩
      have hA8 : A < 256 := by omega
      have hB8 : B < 256 := by omega
      have hC8 : C < 256 := by omega
      have e1 : (s : Int) / 256 = (A : Int) := by omega
      have e2 : (s : Int) / 16 % 16 = (B : Int) := by omega
      have e3 : (s : Int) % 16 = (C : Int) := by omega
      have w1 : IntKind.u8.wrap (A : Int) = (A : Int) := by rw [IntKind.wrap_u8]; omega
      have w2 : IntKind.u8.wrap (B : Int) = (B : Int) := by rw [IntKind.wrap_u8]; omega
      have w3 : IntKind.u8.wrap (C : Int) = (C : Int) := by rw [IntKind.wrap_u8]; omega
      have hl : (Dg.nib m).length = 64 := by rw [Dg.nib_len, HM.out.1]
      obtain ⟨N, hN⟩ : ∃ N, N = Dg.nib m := ⟨_, rfl⟩
      have HDE := Lib.hid (show N ++ [A, B, C] = Dg.digs m from by rw [hN, hA, hB, hC, hs]; rfl)
      rw [← hN] at hl HB
      have HHL := Lib.hid hl
      have f1 : wr.cell? ⟨w.heap.size + 1 + 1, 64, none⟩ = some (.int .u8 (((N ++ [0, 0, 0]).getD 64 0 : Nat) : Int)) := HB.out.2.2.1.cell _ (by simp; omega)
      have f2 : wr.frozen? ⟨w.heap.size + 1 + 1, 64, none⟩ = false := HB.out.2.2.1.frozen _
      have HB1 := Lib.hid (HB.out.set 64 A)
      have f3 : (wr.setCell ⟨w.heap.size + 1 + 1, 64, none⟩ (.int .u8 (A : Int))).cell? ⟨w.heap.size + 1 + 1, 65, none⟩ = some (.int .u8 ((((N ++ [0, 0, 0]).set 64 A).getD 65 0 : Nat) : Int)) := HB1.out.2.2.1.cell _ (by simp; omega)
      have f4 : (wr.setCell ⟨w.heap.size + 1 + 1, 64, none⟩ (.int .u8 (A : Int))).frozen? ⟨w.heap.size + 1 + 1, 65, none⟩ = false := HB1.out.2.2.1.frozen _
      have HB2 := Lib.hid (HB1.out.set 65 B)
      have f5 : ((wr.setCell ⟨w.heap.size + 1 + 1, 64, none⟩ (.int .u8 (A : Int))).setCell ⟨w.heap.size + 1 + 1, 65, none⟩ (.int .u8 (B : Int))).cell? ⟨w.heap.size + 1 + 1, 66, none⟩ = some (.int .u8 (((((N ++ [0, 0, 0]).set 64 A).set 65 B).getD 66 0 : Nat) : Int)) := HB2.out.2.2.1.cell _ (by simp; omega)
      have f6 : ((wr.setCell ⟨w.heap.size + 1 + 1, 64, none⟩ (.int .u8 (A : Int))).setCell ⟨w.heap.size + 1 + 1, 65, none⟩ (.int .u8 (B : Int))).frozen? ⟨w.heap.size + 1 + 1, 66, none⟩ = false := HB2.out.2.2.1.frozen _
      have HB3 := Lib.hid (HB2.out.set 66 C)
      have HSS := Lib.hid (show (((N ++ [0, 0, 0]).set 64 A).set 65 B).set 66 C = Dg.digs m from by
        rw [← HDE.out, List.set_append_right _ _ (by omega), hl, List.set_append_right _ _ (by omega), hl, List.set_append_right _ _ (by omega), hl]; rfl)
      rw [HSS.out] at HB3
      have HDL := Lib.hid (show (Dg.digs m).length = 67 from by rw [← HDE.out, List.length_append, hl]; rfl)
      obtain ⟨D, hD⟩ : ∃ D, D = Dg.digs m := ⟨_, rfl⟩
      rw [← hD] at HB3 HDL
      have HDD := Lib.hid hD
      have HI7 := Lib.hid (show (Tryd.prog.info? 59).map (·.size) = some (cellsOf D).toArray.size from by rw [cellsOf_size, HDL.out]; exact info_67)
      have HZ7 := Lib.hid (show (cellsOf zs67).toArray.size = (cellsOf D).toArray.size from by rw [cellsOf_size, cellsOf_size, HDL.out]; rfl)
      clear hA hB hC hs hl hN hD HB1 HB2 HB HSS HDE
      go_upto_region 12 with fail
      refine gen_code (F := D3 w 31 m zs67 D) HB3.out ?_
      intro wF hf
      have HF := Lib.hid hf
      clear hf HB3 f1 f2 f3 f4 f5 f6 e1 e2 e3 w1 w2 w3
      go_wp2_with (first | (refine wpList_load_row (by rfl) 59 _ (by rfl) (w.heap.size + 1 + 1) (by rfl) _ (cellsOf D).toArray (0, 0) _ HF.out.2.2.1 Tryd.underlying59 (by rfl) HI7.out ?_) | (refine wpList_store_row (by rfl) 59 _ _ (by rfl) (w.heap.size + 1) (cellsOf D).toArray (by rfl) (by rfl) 59 (cellsOf zs67).toArray HF.out.2.1 HI7.out HZ7.out (cellsOf_all _) ?_))
      refine bodyPost_ret (results_cell_row (by rfl) _ _ (w.heap.size + 1) _ (cellsOf D).toArray (0, 0) _ (by rfl) HF.out.2.1.setRow Tryd.underlying59 (by rfl) HI7.out) ?_ ?_
      · rfl
      · exact ⟨by rw [HDD.out], HF.out.2.2.2.setRow (by omega) _⟩
end Go.Proofs.YtlnblfdddellmaaDoor
