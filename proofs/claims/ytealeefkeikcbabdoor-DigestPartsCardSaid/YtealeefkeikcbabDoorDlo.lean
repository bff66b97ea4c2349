/-
  The walk over Load of a state's bytes that it takes.
-/
import Derived.Test.YtealeefkeikcbabDoorDld
namespace Go.Proofs.YtealeefkeikcbabDoor
open Go.RowKit
set_option linter.unusedVariables false
def zs8w : List Nat := List.replicate 8 0
theorem zt_st : Tryd.zeroCells109 = (stCells zs8w zs64 0).toArray := by kernel_rfl
theorem st_zero (n : Nat) : Tryd.zeroCells109.setIfInBounds 72 (.int .i64 (n : Int)) = (stCells zs8w zs64 n).toArray := by
  rw [zt_st, List.setIfInBounds_toArray]
  congr 1
/-- the first k words of a state, zeros behind -/
def wp8 (ws : List Nat) (k : Nat) : List Nat := ws.take k ++ List.replicate (8 - k) 0
theorem wp8_zero (ws : List Nat) : wp8 ws 0 = zs8w := by simp [wp8, zs8w]
theorem wp8_all (ws : List Nat) (h : ws.length = 8) : wp8 ws 8 = ws := by simp [wp8, List.take_of_length_le (show ws.length ≤ 8 by omega)]
theorem wp8_len (ws : List Nat) (h : ws.length = 8) (k : Nat) (hk : k ≤ 8) : (wp8 ws k).length = 8 := by simp [wp8, h]; omega
theorem wp8_set (ws : List Nat) (h : ws.length = 8) (k : Nat) (hk : k < 8) : (wp8 ws k).set k (ws.getD k 0) = wp8 ws (k + 1) := by
  unfold wp8
  obtain ⟨r, hr⟩ : ∃ r, 8 - k = r + 1 := ⟨7 - k, by omega⟩
  have hr' : 8 - (k + 1) = r := by omega
  rw [hr, hr', List.replicate_succ, take_snoc ws k (by omega), List.set_append_right _ _ (by rw [List.length_take]; omega), List.length_take, show k - min k ws.length = 0 by omega, List.set_cons_zero, List.append_assoc, getD_at ws k (by omega)]
  rfl
theorem wp8_8 (ws : List Nat) (h : Sha.W8 ws) (k : Nat) (hk : k ≤ 8) : Sha.W8 (wp8 ws k) := by
  refine ⟨wp8_len ws h.1 k hk, fun z hz => ?_⟩
  rcases List.mem_append.1 hz with h1 | h1
  · exact h.2 z (List.mem_of_mem_take h1)
  · rw [List.eq_of_mem_replicate h1]; omega
theorem St.setWord {w : World} {g : Nat} {hs bs : List Nat} {n : Nat} (h : St w g hs bs n) (k x : Nat) (hk : k < 8) (hx : x < 4294967296) : St (w.setCell ⟨g, k, none⟩ (.int .u32 (x : Int))) g (hs.set k x) bs n := by
  refine ⟨?_, ⟨by rw [List.length_set, h.w8.1], fun z hz => ?_⟩, h.bl, h.bb, h.nn⟩
  · rw [heap_setCell_same w g k _ _ _ h.row]
    congr 2
    unfold stCells
    rw [List.setIfInBounds_toArray, List.set_append_left _ _ (by rw [wordsOf_length, h.w8.1]; exact hk)]
    simp [wordsOf, List.map_set]
  · rcases List.mem_or_eq_of_mem_set hz with h1 | rfl
    · exact h.w8.2 z h1
    · exact hx
theorem wordsAt_get (b : List Nat) (k : Nat) (hk : k < 8) : (wordsAt b).getD k 0 = Numm.num 0 [b.getD (4 * k) 0, b.getD (4 * k + 1) 0, b.getD (4 * k + 2) 0, b.getD (4 * k + 3) 0] := by
  unfold wordsAt
  rw [List.getD_eq_getElem?_getD, List.getElem?_map, List.getElem?_range hk, Option.map_some, Option.getD_some]
def DlRet (w : World) (b : List Nat) (e : Ending) (w' : World) : Prop := ∃ g, e = .returned (.tuple #[.pointer (some ⟨g, 0, none⟩), .int .i64 0]) ∧ w.heap.size ≤ g ∧ StM w' g (wordsAt b) (b.drop 40) (numAt b) ∧ Below w.heap.size w w'
set_option maxRecDepth 100000 in
set_option maxHeartbeats 2000000 in
theorem dload_ok (a : Option Addr) (len cap : Nat) (b : List Nat) (w : World) (hr : Rd w a len b) (h : 40 ≤ len) (hlc : len ≤ cap) (hcm : cap ≤ 9223372036854775807) (hlm : len ≤ 140737488355327) (hn : numAt b ≤ 2305843009213693951) (hq : len - 40 = numAt b % 64) :
    Calls Tryd.prog 44 #[.slice a len cap] w (DlRet w b) := by
  have h' : ¬ (len : Int) < 40 := by omega
  have HR := Lib.hid hr
  obtain ⟨n, hnn⟩ : ∃ n, n = numAt b := ⟨_, rfl⟩
  have HG := Lib.hid (show Calls Tryd.prog 64 #[.slice (sla a cap 32) 8 (cap - 32)] w (fun e w' => e = .returned (.tuple #[.int .u64 (n : Int), .bool true]) ∧ w = w') from by
    rw [hnn]; exact get_c (sla a cap 32) 8 (cap - 32) _ w (rd_mid hr hlc 32 40 (by omega) (by omega)) (by omega))
  have kS := fun W => show (Instr.sliceAt 63 (.slice a len cap) (some (.int .i64 32)) (some (.int .i64 40)) none).run Tryd.prog W = .ok (.slice (sla a cap 32) 8 (cap - 32)) W from run_midAt W a len cap 32 40 (by omega) (by omega)
  rw [← hnn] at hn hq
  have HNN := Lib.hid hnn
  have e1 : (len : Int) - 40 = ((len - 40 : Nat) : Int) := by omega
  have w1 : IntKind.u64.wrap ((len - 40 : Nat) : Int) = ((len - 40 : Nat) : Int) := by rw [IntKind.wrap_u64]; omega
  obtain ⟨r, hrr⟩ : ∃ r, r = len - 40 := ⟨_, rfl⟩
  rw [← hrr] at e1 w1 hq
  have e2 : (n : Int) % 64 = (r : Int) := by omega
  have HRR := Lib.hid hrr
  have HQ := Lib.hid hq
  have t1 : decide ((2305843009213693951 : Int) < (n : Int)) = false := decide_eq_false (by omega)
  have w2 : IntKind.i64.wrap (n : Int) = (n : Int) := by rw [IntKind.wrap_i64]; omega
  have HW8 := Lib.hid (wordsAt_8 b hr.2.1)
  clear hr hnn hrr hq
  go_enter Tryd.func44, Tryd.ntmps44
  go_wp2_with fail
  refine HG.out.mono ?_
  rintro e3 w3 ⟨rfl, rfl⟩
  go_upto_region 7 with fail
  rw [st_zero]
  refine gen_code (F := fun W => St W w.heap.size zs8w zs64 n ∧ Below w.heap.size w W) ⟨⟨heap_new _ _, ⟨by simp [zs8w], by decide⟩, zs64_len, zs64_mem, hn⟩, (Below.refl _ _).alloc (Nat.le_refl _) _⟩ ?_
  rintro wA ⟨hst, hb⟩
  have HST := Lib.hid hst
  have HBL := Lib.hid hb
  clear hst hb e1 e2 w1 t1 w2 kS
  go_wp2_with fail
  go_loopw [32] (fun i wr => ∃ k : Nat, k ≤ 8 ∧ i = .int .i64 k ∧ Hid (St wr w.heap.size (wp8 (wordsAt b) k) zs64 n) ∧ Hid (Below w.heap.size w wr)) (fun i _ => 8 - (intOf i).toNat)
  case atStart => exact ⟨0, by omega, rfl, by rw [wp8_zero]; exact HST, HBL⟩
  case round =>
    clear HST HBL
    obtain ⟨k, hk, rfl, HST, HBL⟩ := hrel
    by_cases hk8 : k < 8
    · obtain ⟨x, hx⟩ : ∃ x, x = (wordsAt b).getD k 0 := ⟨_, rfl⟩
      have hx32 : x < 4294967296 := by rw [hx, getD_at _ _ (by rw [HW8.out.1]; exact hk8)]; exact HW8.out.2 _ (List.getElem_mem _)
      have HW := Lib.hid (show ∀ W, Below w.heap.size w W → Calls Tryd.prog 65 #[.slice a len cap, .int .i64 (4 * (k : Int))] W (RetD (.tuple #[.int .u32 (x : Int), .bool true]) W) from fun W hW => by
        have := word_c a len cap (4 * k) b W (HR.out.below hW) (by omega) (by omega)
        rw [← wordsAt_get b k hk8, ← hx] at this
        rw [show (4 * (k : Int)) = ((4 * k : Nat) : Int) by omega]
        exact this)
      have HNX := Lib.hid (show (wp8 (wordsAt b) k).set k x = wp8 (wordsAt b) (k + 1) from by rw [hx]; exact wp8_set _ HW8.out.1 k hk8)
      obtain ⟨o, ho⟩ : ∃ o, wr.cell? ⟨w.heap.size, k, none⟩ = some (.int .u32 ((o : Nat) : Int)) := by
        refine ⟨(wp8 (wordsAt b) k).getD k 0, ?_⟩
        rw [HST.out.cellq, stCells, List.getElem?_append_left (by rw [wordsOf_length, HST.out.w8.1]; exact hk8)]
        have := wordsOf_get (wp8 (wordsAt b) k) k (by rw [HST.out.w8.1]; exact hk8)
        simpa using this
      have hf : wr.frozen? ⟨w.heap.size, k, none⟩ = false := HST.out.froz k
      have HS1 := Lib.hid (HST.out.setWord k x hk8 hx32)
      rw [HNX.out] at HS1
      have HB1 := Lib.hid (show Below w.heap.size w (wr.setCell ⟨w.heap.size, k, none⟩ (.int .u32 (x : Int))) from HBL.out.setCell (Nat.le_refl _) _)
      have w4 : IntKind.i64.wrap (4 * (k : Int)) = 4 * (k : Int) := by rw [IntKind.wrap_i64]; omega
      clear hx HST
      go_upto_region 10 with fail
      go_region_with (go_at_call 65; ((with_reducible refine (HW.out _ ?_).mono ?_); (exact HBL.out.drew); rintro e w' ⟨rfl, q, rfl⟩))
      all_goals
        refine gen_exit (F := fun W => St W w.heap.size (wp8 (wordsAt b) (k + 1)) zs64 n ∧ Below w.heap.size w W) (by first | exact ⟨⟨HS1.out.row, HS1.out.w8, HS1.out.bl, HS1.out.bb, HS1.out.nn⟩, ⟨HB1.out.1, HB1.out.2, HB1.out.3, HB1.out.4, HB1.out.5⟩⟩ | exact ⟨(HS1.out.drewN _), HB1.out.trans (below_drewN' _ _ _)⟩) ?_
        rintro wx ⟨hs', hb'⟩
        have HS2 := Lib.hid hs'
        have HB2 := Lib.hid hb'
        clear hs' hb' HS1 HB1
        go_wp2_with fail
        go_roundw
        case rel => exact ⟨k + 1, by omega, by go_num, HS2, HB2⟩
        case measure => simp [intOf]; omega
    · obtain rfl : k = 8 := by omega
      rw [wp8_all _ HW8.out.1] at HST
      go_upto_region 12 with fail
      (try dsimp only [Act.put, List.setIfInBounds_toArray, List.set_cons_zero, List.set_cons_succ])
      have HSD := Lib.hid HST.out.drew
      have HBD := Lib.hid HBL.out.drew
      have kB := fun W => run_blockAll W w.heap.size 8
      have kC := fun W => show (Instr.sliceAt 63 (.slice a len cap) (some (.int .i64 40)) none none).run Tryd.prog W = .ok (.slice (sla a cap 40) (len - 40) (cap - 40)) W from run_cutAt W a len cap 40 (by omega)
      have HRC := Lib.hid ((HR.out.below HBD.out).cut cap 40 (by omega) hlc)
      have hcl : (b.drop 40).length = len - 40 := by rw [List.length_drop, HR.out.1]
      have hr64 : len - 40 < 64 := by rw [← HRR.out, HQ.out]; exact Nat.mod_lt _ (by omega)
      refine wp_region_any (by kernel_rfl) ?_
      change wpAny _ _ _ _ _ _ _ wr.drew
      refine any_pure 0 (d := 48) (op := .move (.tmp 6)) (.pointer (some ⟨w.heap.size, 0, none⟩)) (by rfl) (by kernel_rfl) (by kernel_rfl) (by kernel_rfl) (fun _ _ _ h => h) (fun o ho W => by unfold execOp; simp only [ho]; go_simp) ?_
      simp only [Act.put, List.setIfInBounds_toArray, List.set_cons_zero, List.set_cons_succ]
      refine any_pure 1 (d := 49) (op := .nilCheck (.tmp 48)) (.pointer (some ⟨w.heap.size, 0, none⟩)) (by rfl) (by kernel_rfl) (by kernel_rfl) (by kernel_rfl) (fun _ _ _ h => h) (fun o ho W => by unfold execOp; simp only [ho]; go_simp) ?_
      simp only [Act.put, List.setIfInBounds_toArray, List.set_cons_zero, List.set_cons_succ]
      refine any_pure 2 (d := 50) (op := .fieldAddr 109 (.tmp 49) 1) (.pointer (some ⟨w.heap.size, 8, none⟩)) (by rfl) (by kernel_rfl) (by kernel_rfl) (by kernel_rfl) (fun _ _ _ h => h) (fun o ho W => by unfold execOp; simp only [ho]; go_simp) ?_
      simp only [Act.put, List.setIfInBounds_toArray, List.set_cons_zero, List.set_cons_succ]
      refine any_pure 3 (d := 51) (op := .slice 107 (.tmp 50) none none none) (.slice (some ⟨w.heap.size, 8, none⟩) 64 64) (by rfl) (by kernel_rfl) (by kernel_rfl) (by kernel_rfl) (fun _ _ _ h => h) (fun o ho W => by unfold execOp; simp only [ho]; simp [kB W, Act.eval]) ?_
      simp only [Act.put, List.setIfInBounds_toArray, List.set_cons_zero, List.set_cons_succ]
      refine any_pure 4 (d := 52) (op := .move (.tmp 0)) (.slice a len cap) (by rfl) (by kernel_rfl) (by kernel_rfl) (by kernel_rfl) (fun _ _ _ h => h) (fun o ho W => by unfold execOp; simp only [ho]; go_simp) ?_
      simp only [Act.put, List.setIfInBounds_toArray, List.set_cons_zero, List.set_cons_succ]
      refine any_pure 5 (d := 53) (op := .slice 63 (.tmp 52) (some (.const (.int .i64 40))) none none) (.slice (sla a cap 40) (len - 40) (cap - 40)) (by rfl) (by kernel_rfl) (by kernel_rfl) (by kernel_rfl) (fun _ _ _ h => h) (fun o ho W => by unfold execOp; simp only [ho]; simp [kC W, Act.eval]) ?_
      simp only [Act.put, List.setIfInBounds_toArray, List.set_cons_zero, List.set_cons_succ]
      refine any_copy 6 (dst := some 54) (d := .tmp 51) (s := .tmp 53) (dT := 63) (sT := 63) (by kernel_rfl) (by rfl) 5 Tryd.underlying63 u8size (some ⟨w.heap.size, 8, none⟩) (sla a cap 40) 64 64 (len - 40) (cap - 40) (by rfl) (by rfl) w.heap.size 8 (stCells (wordsAt b) zs64 n) 109 HSD.out.row (cellsOf (b.drop 40))
        (by rw [cellsOf_length, hcl]; exact (Nat.min_eq_left (by omega)).symm) (fun h0 => ⟨rfl, by
          have := HRC.out.src (len - 40) (Nat.le_refl _) (by rw [List.take_of_length_le (by omega)]; exact h0)
          rwa [List.take_of_length_le (by omega)] at this⟩) (by rw [cellsOf_length, hcl, HSD.out.len]; omega) (cellsOf_one _) ?_
      intro wF hrow ho
      have HF := Lib.hid (HSD.out.copied 0 (b.drop 40) HRC.out.2.1 (by rw [hcl]; omega) hrow.out)
      have HBF := Lib.hid (HBD.out.trans (ho.below (Nat.le_refl _) HBD.out.size))
      have HM := Lib.hid (show StM wF w.heap.size (wordsAt b) (b.drop 40) n from ⟨_, HF.out, by
        rw [← HQ.out, HRR.out, splice, List.take_zero, List.nil_append, List.take_append_of_le_length (by omega), List.take_of_length_le (by omega)]⟩)
      clear hrow ho
      refine wpAny_done (by kernel_rfl) ?_ _
      go_wp2_with fail
      go_ret2
      exact ⟨_, rfl, Nat.le_refl _, by rw [← HNN.out]; exact HM.out, HBF.out⟩
end Go.Proofs.YtealeefkeikcbabDoor
