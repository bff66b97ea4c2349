/-
  The walks over Digits of one-time keys, and over the document's.
-/
import Derived.Test.YtlnblfdddellmaaDoorChr
namespace Go.Proofs.YtlnblfdddellmaaDoor
open Go.RowKit
set_option linter.unusedVariables false
theorem run_index_bytes (ws : List Nat) (k : Nat) (hk : k < ws.length) (ty n : Nat) (hu : Tryd.prog.underlying ty = some (.array n 5)) (hn : ws.length = n) (W : World) :
    (Instr.index ty (.agg (cellsOf ws).toArray) (.int .i64 (k : Int))).run Tryd.prog W = .ok (.int .u8 ((ws.getD k 0 : Nat) : Int)) W := by
  have h1 := cellsOf_get ws k hk
  simp [Instr.index, run_underlying hu, asIntOf, go_sem]
  rw [← List.getElem?_toArray] at h1
  rw [if_pos (by omega)]
  rw [List.getElem?_toArray] at h1
  rw [h1]
  simp
theorem andi15 (n : Int) : bits .and .i64 n 15 = n % 16 := by
  show IntKind.i64.wrap ((BitVec.ofInt 64 n &&& BitVec.ofInt 64 15).toNat : Int) = _
  have h : (BitVec.ofInt 64 n &&& BitVec.ofInt 64 15).toNat = (BitVec.ofInt 64 n).toNat % 16 := by
    rw [BitVec.toNat_and, show (BitVec.ofInt 64 15).toNat = 2 ^ 4 - 1 by rfl, Nat.and_two_pow_sub_one_eq_mod]
  have h2 : ((BitVec.ofInt 64 n).toNat : Int) % 16 = n % 16 := by
    rw [BitVec.toNat_ofInt]
    omega
  rw [h]
  have : IntKind.i64.wrap (((BitVec.ofInt 64 n).toNat % 16 : Nat) : Int) = (((BitVec.ofInt 64 n).toNat % 16 : Nat) : Int) := by
    simp [IntKind.wrap, IntKind.bits, IntKind.signed]
    omega
  rw [this]
  omega
/-- the digits of the first k bytes, and zeros behind -/
def dz (m : List Nat) (k : Nat) : List Nat := Dg.nib (m.take k) ++ List.replicate (67 - 2 * k) 0
theorem dz_len (m : List Nat) (hm : m.length = 32) (k : Nat) (hk : k ≤ 32) : (dz m k).length = 67 := by
  simp only [dz, List.length_append, Dg.nib_len, List.length_take, List.length_replicate]; omega
theorem dz_next (m : List Nat) (hm : m.length = 32) (k : Nat) (hk : k < 32) : ((dz m k).set (2 * k) (m.getD k 0 / 16)).set (2 * k + 1) (m.getD k 0 % 16) = dz m (k + 1) := by
  have hl : (Dg.nib (m.take k)).length = 2 * k := by rw [Dg.nib_len, List.length_take]; omega
  obtain ⟨r, hr⟩ : ∃ r, 67 - 2 * k = r + 1 + 1 := ⟨65 - 2 * k, by omega⟩
  have hr' : 67 - 2 * (k + 1) = r := by omega
  unfold dz
  rw [hr, hr', List.replicate_succ, List.replicate_succ, take_snoc m k (by omega), Dg.nib_app, ← getD_at m k (by omega)]
  rw [List.set_append_right _ _ (by omega), hl, Nat.sub_self, List.set_cons_zero, List.set_append_right _ _ (by omega), hl, Nat.add_sub_cancel_left]
  simp [Dg.nib]
theorem dz_zero (m : List Nat) : dz m 0 = List.replicate 67 0 := by simp [dz, Dg.nib]
theorem dz_all (m : List Nat) (hm : m.length = 32) : dz m 32 = Dg.nib m ++ [0, 0, 0] := by
  unfold dz; rw [List.take_of_length_le (by omega)]; rfl
def zs67 : List Nat := List.replicate 67 0
theorem info_67 : (Tryd.prog.info? 59).map (·.size) = some 67 := by kernel_rfl
/-- three blocks: what came in, the result, the digits so far -/
def D3 (w : World) (t : TypeId) (x y z : List Nat) (W : World) : Prop := Brow W w.heap.size t x ∧ Brow W (w.heap.size + 1) 59 y ∧ Brow W (w.heap.size + 1 + 1) 59 z ∧ Below w.heap.size w W
theorem D3.new (w : World) (t : TypeId) (x y z : List Nat) : D3 w t x y z (((w.alloc (.cells (cellsOf x).toArray t)).alloc (.cells (cellsOf y).toArray 59)).alloc (.cells (cellsOf z).toArray 59)) :=
  ⟨(heap_new3 _ _ _ _).1, (heap_new3 _ _ _ _).2.1, (heap_new3 _ _ _ _).2.2, (((Below.refl _ _).alloc (Nat.le_refl _) _).alloc (by simp) _).alloc (by simp; omega) _⟩
theorem D3.set {w W : World} {t : TypeId} {x y z : List Nat} (h : D3 w t x y z W) (j v : Nat) : D3 w t x y (z.set j v) (W.setCell ⟨w.heap.size + 1 + 1, j, none⟩ (.int .u8 (v : Int))) := by
  have o : Only (w.heap.size + 1 + 1) W (W.setCell ⟨w.heap.size + 1 + 1, j, none⟩ (.int .u8 (v : Int))) := (Only.refl _ _).setCell _ _
  exact ⟨h.1.only o (by omega), h.2.1.only o (by omega), h.2.2.1.set j v, h.2.2.2.trans (o.below (by omega) h.2.2.2.size)⟩
set_option maxRecDepth 100000 in
set_option maxHeartbeats 2000000 in
theorem digits_c (m : List Nat) (w : World) (hm : D32 m) :
    Calls Tryd.prog 40 #[.agg (cellsOf m).toArray] w (DigRet (Dg.digs m) w) := by
  have HM := Lib.hid hm
  have HI := Lib.hid (info_d32 m hm)
  clear hm
  go_enter Tryd.func40, Tryd.ntmps40
  go_upto_region 2 with fail
  refine gen_code (F := D3 w 32 m zs67 zs67) (D3.new w _ _ _ _) ?_
  intro wA h
  have H0 := Lib.hid h
  clear h
  go_wp2_with (first | (refine wpList_load_row (by rfl) 32 _ (by rfl) w.heap.size (by rfl) _ (cellsOf m).toArray (0, 0) _ H0.out.1 Tryd.underlying32 (by rfl) HI.out ?_))
  go_loopw [4, 11] (fun s i wr => ∃ k : Nat, k ≤ 32 ∧ i = .int .i64 k ∧ s = .int .i64 ((Dg.left (m.take k) : Nat) : Int) ∧ Hid (D3 w 32 m zs67 (dz m k) wr)) (fun _ i _ => 32 - (intOf i).toNat)
  case atStart => exact ⟨0, by omega, rfl, rfl, by rw [dz_zero]; exact H0⟩
  case round =>
    clear H0
    obtain ⟨k, hk, rfl, rfl, HB⟩ := hrel
    have hS := Dg.left_le (m.take k)
    rw [List.length_take] at hS
    by_cases hk32 : k < 32
    · obtain ⟨b, hb⟩ : ∃ b, b = m.getD k 0 := ⟨_, rfl⟩
      have hb8 : b < 256 := by rw [hb, getD_at _ _ (by rw [HM.out.1]; exact hk32)]; exact HM.out.2 _ (List.getElem_mem _)
      have hix : ∀ W : World, (Instr.index 32 (.agg (cellsOf m).toArray) (.int .i64 (k : Int))).run Tryd.prog W = .ok (.int .u8 (b : Int)) W := by
        intro W; rw [hb]
        exact run_index_bytes m k (by rw [HM.out.1]; exact hk32) 32 32 Tryd.underlying32 HM.out.1 W
      obtain ⟨q, hq⟩ : ∃ q, q = b / 16 := ⟨_, rfl⟩
      obtain ⟨r, hr⟩ : ∃ r, r = b % 16 := ⟨_, rfl⟩
      obtain ⟨s, hs⟩ : ∃ s, s = Dg.left (m.take k) := ⟨_, rfl⟩
      rw [← hs] at hS ⊢
      have hq15 : q ≤ 15 := by omega
      have hr15 : r ≤ 15 := by omega
      have e1 : (b : Int) / 16 = (q : Int) := by omega
      have e2 : bits .and .u8 (b : Int) 15 = (r : Int) := by rw [and15 b hb8]; omega
      have HNX := Lib.hid (show s + (15 - q + (15 - r)) = Dg.left (m.take (k + 1)) from by
        rw [take_snoc m k (by rw [HM.out.1]; exact hk32), Dg.left_app, ← getD_at m k (by rw [HM.out.1]; exact hk32), ← hb, ← hs]
        simp only [Dg.left]
        omega)
      have hlen := dz_len m HM.out.1 k hk
      have f1 : wr.cell? ⟨w.heap.size + 1 + 1, 2 * k, none⟩ = some (.int .u8 (((dz m k).getD (2 * k) 0 : Nat) : Int)) := HB.out.2.2.1.cell _ (by omega)
      have f2 : wr.frozen? ⟨w.heap.size + 1 + 1, 2 * k, none⟩ = false := HB.out.2.2.1.frozen _
      have HB1 := Lib.hid (HB.out.set (2 * k) q)
      have f3 : (wr.setCell ⟨w.heap.size + 1 + 1, 2 * k, none⟩ (.int .u8 (q : Int))).cell? ⟨w.heap.size + 1 + 1, 2 * k + 1, none⟩ = some (.int .u8 ((((dz m k).set (2 * k) q).getD (2 * k + 1) 0 : Nat) : Int)) := HB1.out.2.2.1.cell _ (by rw [List.length_set]; omega)
      have f4 : (wr.setCell ⟨w.heap.size + 1 + 1, 2 * k, none⟩ (.int .u8 (q : Int))).frozen? ⟨w.heap.size + 1 + 1, 2 * k + 1, none⟩ = false := HB1.out.2.2.1.frozen _
      have HB2 := Lib.hid (HB1.out.set (2 * k + 1) r)
      have HDZ := Lib.hid (show ((dz m k).set (2 * k) q).set (2 * k + 1) r = dz m (k + 1) from by rw [hq, hr, hb]; exact dz_next m HM.out.1 k hk32)
      rw [HDZ.out] at HB2
      clear hb hq hr hs hlen HB1 HB HDZ
      go_wp2_with fail
      go_roundw
      case rel => exact ⟨k + 1, by omega, by go_num, congrArg (Value.int .i64) (by rw [← HNX.out]; omega), HB2⟩
      case measure => simp [intOf]; omega
    · obtain rfl : k = 32 := by omega
      have hta : m.take 32 = m := List.take_of_length_le (by rw [HM.out.1]; omega)
      rw [dz_all m HM.out.1] at HB
      rw [hta] at hS ⊢
      clear hta
      obtain ⟨s, hs⟩ : ∃ s, s = Dg.left m := ⟨_, rfl⟩
      rw [← hs] at hS ⊢
      obtain ⟨A, hA⟩ : ∃ A, A = s / 256 := ⟨_, rfl⟩
      obtain ⟨B, hB⟩ : ∃ B, B = s / 16 % 16 := ⟨_, rfl⟩
      obtain ⟨C, hC⟩ : ∃ C, C = s % 16 := ⟨_, rfl⟩
      have hA8 : A < 256 := by omega
      have hB8 : B < 256 := by omega
      have hC8 : C < 256 := by omega
      have e1 : (s : Int) / 256 = (A : Int) := by omega
      have e2 : bits .and .i64 ((s : Int) / 16) 15 = (B : Int) := by rw [andi15]; omega
      have e3 : bits .and .i64 (s : Int) 15 = (C : Int) := by rw [andi15]; omega
      have w1 : IntKind.u8.wrap (A : Int) = (A : Int) := by rw [IntKind.wrap_u8]; omega
      have w2 : IntKind.u8.wrap (B : Int) = (B : Int) := by rw [IntKind.wrap_u8]; omega
      have w3 : IntKind.u8.wrap (C : Int) = (C : Int) := by rw [IntKind.wrap_u8]; omega
      have hl : (Dg.nib m).length = 64 := by rw [Dg.nib_len, HM.out.1]
      obtain ⟨N, hN⟩ : ∃ N, N = Dg.nib m := ⟨_, rfl⟩
      have HDE := Lib.hid (show N ++ [A, B, C] = Dg.digs m from by rw [hN, hA, hB, hC, hs]; rfl)
      rw [← hN] at hl HB
      have HHL := Lib.hid hl
      have f1 : wr.cell? ⟨w.heap.size + 1 + 1, 64, none⟩ = some (.int .u8 (((N ++ [0, 0, 0]).getD 64 0 : Nat) : Int)) := HB.out.2.2.1.cell _ (by simp; omega)
      have f2 : wr.frozen? ⟨w.heap.size + 1 + 1, 64, none⟩ = false := HB.out.2.2.1.frozen _
      have HB1 := Lib.hid (HB.out.set 64 A)
      have f3 : (wr.setCell ⟨w.heap.size + 1 + 1, 64, none⟩ (.int .u8 (A : Int))).cell? ⟨w.heap.size + 1 + 1, 65, none⟩ = some (.int .u8 ((((N ++ [0, 0, 0]).set 64 A).getD 65 0 : Nat) : Int)) := HB1.out.2.2.1.cell _ (by simp; omega)
      have f4 : (wr.setCell ⟨w.heap.size + 1 + 1, 64, none⟩ (.int .u8 (A : Int))).frozen? ⟨w.heap.size + 1 + 1, 65, none⟩ = false := HB1.out.2.2.1.frozen _
      have HB2 := Lib.hid (HB1.out.set 65 B)
      have f5 : ((wr.setCell ⟨w.heap.size + 1 + 1, 64, none⟩ (.int .u8 (A : Int))).setCell ⟨w.heap.size + 1 + 1, 65, none⟩ (.int .u8 (B : Int))).cell? ⟨w.heap.size + 1 + 1, 66, none⟩ = some (.int .u8 (((((N ++ [0, 0, 0]).set 64 A).set 65 B).getD 66 0 : Nat) : Int)) := HB2.out.2.2.1.cell _ (by simp; omega)
      have f6 : ((wr.setCell ⟨w.heap.size + 1 + 1, 64, none⟩ (.int .u8 (A : Int))).setCell ⟨w.heap.size + 1 + 1, 65, none⟩ (.int .u8 (B : Int))).frozen? ⟨w.heap.size + 1 + 1, 66, none⟩ = false := HB2.out.2.2.1.frozen _
      have HB3 := Lib.hid (HB2.out.set 66 C)
      have HSS := Lib.hid (show (((N ++ [0, 0, 0]).set 64 A).set 65 B).set 66 C = Dg.digs m from by
        rw [← HDE.out, List.set_append_right _ _ (by omega), hl, List.set_append_right _ _ (by omega), hl, List.set_append_right _ _ (by omega), hl]; rfl)
      rw [HSS.out] at HB3
      have HDL := Lib.hid (show (Dg.digs m).length = 67 from by rw [← HDE.out, List.length_append, hl]; rfl)
      obtain ⟨D, hD⟩ : ∃ D, D = Dg.digs m := ⟨_, rfl⟩
      rw [← hD] at HB3 HDL
      have HDD := Lib.hid hD
      have HI7 := Lib.hid (show (Tryd.prog.info? 59).map (·.size) = some (cellsOf D).toArray.size from by rw [cellsOf_size, HDL.out]; exact info_67)
      have HZ7 := Lib.hid (show (cellsOf zs67).toArray.size = (cellsOf D).toArray.size from by rw [cellsOf_size, cellsOf_size, HDL.out]; rfl)
      clear hA hB hC hs hl hN hD HB1 HB2 HB HSS HDE
      go_upto_region 12 with fail
      refine gen_code (F := D3 w 32 m zs67 D) HB3.out ?_
      intro wF hf
      have HF := Lib.hid hf
      clear hf HB3 f1 f2 f3 f4 f5 f6 e1 e2 e3 w1 w2 w3
      go_wp2_with (first | (refine wpList_load_row (by rfl) 59 _ (by rfl) (w.heap.size + 1 + 1) (by rfl) _ (cellsOf D).toArray (0, 0) _ HF.out.2.2.1 Tryd.underlying59 (by rfl) HI7.out ?_) | (refine wpList_store_row (by rfl) 59 _ _ (by rfl) (w.heap.size + 1) (cellsOf D).toArray (by rfl) (by rfl) 59 (cellsOf zs67).toArray HF.out.2.1 HI7.out HZ7.out (cellsOf_all _) ?_))
      refine bodyPost_ret (results_cell_row (by rfl) _ _ (w.heap.size + 1) _ (cellsOf D).toArray (0, 0) _ (by rfl) HF.out.2.1.setRow Tryd.underlying59 (by rfl) HI7.out) ?_ ?_
      · rfl
      · exact ⟨by rw [HDD.out], HF.out.2.2.2.setRow (by omega) _⟩
end Go.Proofs.YtlnblfdddellmaaDoor
