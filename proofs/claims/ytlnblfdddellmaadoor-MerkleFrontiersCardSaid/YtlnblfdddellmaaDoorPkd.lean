/-
  The walks over the document's K, Begin, turn and New. The walk over the document's Block. The walks over the document's New and Write. A step of a region that draws its order: a load and a call, in either order. The walk over the document's Close. The walk over the document's Sum.
-/
import Derived.Test.YtlnblfdddellmaaDoorPka
import Derived.Test.YtlnblfdddellmaaDoorPkc
namespace Go.Proofs.YtlnblfdddellmaaDoor
open Go.RowKit
set_option linter.unusedVariables false

theorem K_len : Sha.K.length = 64 := rfl
theorem K_lt : ∀ z ∈ Sha.K, z < 4294967296 := by decide
def zw64 : List Nat := List.replicate 64 0
theorem info_w64' : (Tryd.prog.info? 115).map (·.size) = some (wordsOf Sha.K).toArray.size := by kernel_rfl
theorem info_a8 : (Tryd.prog.info? 95).map (·.size) = some 8 := by kernel_rfl
set_option maxRecDepth 100000 in
set_option maxHeartbeats 1000000 in
theorem K_c (w : World) : Calls Tryd.prog 69 #[] w fun e w' => e = .returned (.agg (wordsOf Sha.K).toArray) ∧ Below w.heap.size w w' := by
  have HN := Lib.hid (show ∀ X : Obj, (w.alloc X).heap[w.heap.size]? = some X from fun X => heap_new w X)
  go_enter Tryd.func69, Tryd.ntmps69
  go_wp2_with (first | (refine wpList_buildTo (by rfl) 115 _ (by rfl) (some 1) (by rfl) (wordsOf Sha.K).toArray (by kernel_rfl) ?_) | (refine wpList_store_row (by rfl) 115 _ _ (by rfl) w.heap.size (wordsOf Sha.K).toArray (by rfl) (by rfl) 115 (wordsOf zw64).toArray (by exact HN.out _) info_w64' (by kernel_rfl) (wordsOf_one _) ?_))
  refine bodyPost_ret (results_cell_row (by rfl) _ _ w.heap.size _ (wordsOf Sha.K).toArray (0, 0) _ (by rfl) (setRow_heap _ _ _ _ _ _ (HN.out _)) Tryd.underlying115 (by rfl) info_w64') ?_ ?_
  · rfl
  · exact ⟨rfl, ((Below.refl _ _).alloc (Nat.le_refl _) _).setRow (Nat.le_refl _) _⟩
theorem info_h0 : (Tryd.prog.info? 95).map (·.size) = some (wordsOf Sha.H0).toArray.size := by kernel_rfl
set_option maxRecDepth 100000 in
set_option maxHeartbeats 1000000 in
theorem begin_c (w : World) : Calls Tryd.prog 65 #[] w fun e w' => e = .returned (.agg (wordsOf Sha.H0).toArray) ∧ Below w.heap.size w w' := by
  have HN := Lib.hid (show ∀ X : Obj, (w.alloc X).heap[w.heap.size]? = some X from fun X => heap_new w X)
  go_enter Tryd.func65, Tryd.ntmps65
  go_wp2_with (first | (refine wpList_buildTo (by rfl) 95 _ (by rfl) (some 1) (by rfl) (wordsOf Sha.H0).toArray (by kernel_rfl) ?_) | (refine wpList_store_row (by rfl) 95 _ _ (by rfl) w.heap.size (wordsOf Sha.H0).toArray (by rfl) (by rfl) 95 (wordsOf zs8).toArray (by exact HN.out _) info_h0 (by kernel_rfl) (wordsOf_one _) ?_))
  refine bodyPost_ret (results_cell_row (by rfl) _ _ w.heap.size _ (wordsOf Sha.H0).toArray (0, 0) _ (by rfl) (setRow_heap _ _ _ _ _ _ (HN.out _)) Tryd.underlying95 (by rfl) info_h0) ?_ ?_
  · rfl
  · exact ⟨rfl, ((Below.refl _ _).alloc (Nat.le_refl _) _).setRow (Nat.le_refl _) _⟩
set_option maxHeartbeats 400000 in
theorem turn_c (x n : Nat) (w : World) (hx : x < 4294967296) (h1 : 1 ≤ n) (h2 : n < 32) :
    Calls Tryd.prog 70 #[.int .u32 (x : Int), .int .u64 (n : Int)] w fun e w' => e = .returned (.int .u32 ((Rotm.rot x n : Nat) : Int)) ∧ w' = w := by
  have hw : IntKind.u64.wrap (32 - (n : Int)) = ((32 - n : Nat) : Int) := by rw [IntKind.wrap_u64]; omega
  go_enter Tryd.func70, Tryd.ntmps70
  go_wp2
  go_ret
  refine ⟨ret_int ?_, rfl⟩
  rw [cast_div, cast_mul, u32_or_nat _ _ (Nat.lt_of_le_of_lt (Nat.div_le_self _ _) hx) (by omega), Rotm.rot_two x n hx h2]
end Go.Proofs.YtlnblfdddellmaaDoor
namespace Go.Proofs.YtlnblfdddellmaaDoor
open Go.RowKit
set_option linter.unusedVariables false

def BAt (B G : Nat) (w : World) (hs bs : List Nat) (k : Nat) (wr : World) : Prop :=
  Wrow wr B 95 hs ∧ Wrow wr (B + 1) 95 zs8 ∧ Wrow wr G 115 Sha.K ∧ Wrow wr (G + 1) 115 (Sha.sch bs k ++ List.replicate (64 - k) 0) ∧ Below B w wr
theorem BAt.next {B G : Nat} {w wr : World} {hs bs : List Nat} {k z : Nat} (h : BAt B G w hs bs k wr) (hG : B + 2 ≤ G) (hk : k < 64) (hz : z = if k < 16 then Sha.wd bs k else Sha.nxt (Sha.sch bs k) k) :
    BAt B G w hs bs (k + 1) (wr.setCell ⟨G + 1, k, none⟩ (.int .u32 (z : Int))) := by
  obtain ⟨h1, h2, h0, h3, h4⟩ := h
  refine ⟨?_, ?_, ?_, ?_, h4.setCell (by simp; omega) _⟩
  · unfold Wrow; rw [heap_setCell_other _ _ _ _ (by simp; omega)]; exact h1
  · unfold Wrow; rw [heap_setCell_other _ _ _ _ (by simp; omega)]; exact h2
  · unfold Wrow; rw [heap_setCell_other _ _ _ _ (by simp)]; exact h0
  · have h := h3.set k z
    have hl := Sha.sch_len bs k
    rw [List.set_append_right _ _ (by omega), hl, Nat.sub_self, show 64 - k = (64 - (k + 1)) + 1 by omega, List.replicate_succ, List.set_cons_zero] at h
    rw [Sha.sch, ← hz, List.append_assoc]
    exact h
theorem BAt.get {B G : Nat} {w wr : World} {hs bs : List Nat} {k : Nat} (h : BAt B G w hs bs k wr) (j : Nat) (hj : j < k) (hk : k ≤ 64) : wr.cell? ⟨G + 1, j, none⟩ = some (.int .u32 (((Sha.sch bs k).getD j 0 : Nat) : Int)) := by
  have hl := Sha.sch_len bs k
  rw [h.2.2.2.1.cell j (by simp; omega)]
  congr 3
  simp only [List.getD_eq_getElem?_getD]
  rw [List.getElem?_append_left (by omega)]
theorem BAt.old {B G : Nat} {w wr : World} {hs bs : List Nat} {k : Nat} (h : BAt B G w hs bs k wr) (j : Nat) (hj : j < 64) : ∃ o : Nat, wr.cell? ⟨G + 1, j, none⟩ = some (.int .u32 (o : Int)) ∧ wr.frozen? ⟨G + 1, j, none⟩ = false := by
  have hl := Sha.sch_len bs k
  exact ⟨_, h.2.2.2.1.cell j (by simp; omega), h.2.2.2.1.frozen j⟩
theorem BAt.drewN {B G : Nat} {w wr : World} {hs bs : List Nat} {k : Nat} (h : BAt B G w hs bs k wr) (n : Nat) : BAt B G w hs bs k (wr.drewN n) := ⟨h.1, h.2.1, h.2.2.1, h.2.2.2.1, h.2.2.2.2.trans (below_drewN' _ _ _)⟩
theorem BAt.drew {B G : Nat} {w wr : World} {hs bs : List Nat} {k : Nat} (h : BAt B G w hs bs k wr) : BAt B G w hs bs k wr.drew := ⟨h.1, h.2.1, h.2.2.1, h.2.2.2.1, h.2.2.2.2.drew⟩
theorem turnq (x n : Nat) (W : World) (hx : x < 4294967296) (h1 : 1 ≤ n) (h2 : n < 32) :
    Calls Tryd.prog 70 #[.int .u32 (x : Int), .int .u64 (n : Int)] W fun e w' => e = .returned (.int .u32 ((Rotm.rot x n : Nat) : Int)) ∧ w' = W := turn_c x n W hx h1 h2
theorem turnn (x n : Nat) (W : World) (hx : x < 4294967296) (h1 : 1 ≤ n) (h2 : n < 32) :
    Calls Tryd.prog 70 #[.int .u32 (x : Int), .int .u64 (n : Int)] W fun e w' => e = .returned (.int .u32 ((Rotm.rot x n : Nat) : Int)) ∧ W = w' :=
  (turn_c x n W hx h1 h2).mono fun _ _ h => ⟨h.1, h.2.symm⟩
theorem ch_int' (e f g : Nat) (he : e < 4294967296) (hf : f < 4294967296) (hg : g < 4294967296) :
    bits .xor .u32 (bits .and .u32 (e : Int) (f : Int)) (bits .and .u32 (4294967295 - (e : Int)) (g : Int)) = ((Sha.ch e f g : Nat) : Int) := by
  rw [show (4294967295 : Int) - (e : Int) = ((4294967295 - e : Nat) : Int) by omega, u32_and_nat _ _ he hf, u32_and_nat _ _ (by omega) hg, u32_xor_nat _ _ (and_lt32 hf) (and_lt32 hg)]
  rfl
set_option maxRecDepth 100000 in
set_option maxHeartbeats 3200000 in
theorem block_c (hs bs : List Nat) (b off cap : Nat) (w : World) (hh : hs.length = 8) (hhs : ∀ z ∈ hs, z < 4294967296) (hr : Rd w (some ⟨b, off, none⟩) 64 bs) :
    Calls Tryd.prog 64 #[.agg (wordsOf hs).toArray, .slice (some ⟨b, off, none⟩) 64 cap] w fun e w' => e = .returned (.agg (wordsOf (Sha.mix hs bs)).toArray) ∧ Below w.heap.size w w' := by
  go_enter Tryd.func64, Tryd.ntmps64
  go_wp2_with fail
  refine (K_c _).mono ?_
  rintro en w3 ⟨rfl, hb3⟩
  have hv3 : Wrow w3 w.heap.size 95 hs := (hb3.block _ (by simp <;> omega)).trans (heap_new2 _ _ _).1
  have hr3 : Wrow w3 (w.heap.size + 1) 95 zs8 := (hb3.block _ (by simp <;> omega)).trans (heap_new2 _ _ _).2
  have hB3 : Below w.heap.size w w3 := Below.trans (((Below.refl _ _).alloc (by omega) _).alloc (by simp) _) (hb3.mono (by simp; omega))
  have hs3 : w.heap.size + 2 ≤ w3.heap.size := by have := hb3.size; simp at this; omega
  clear hb3
  obtain ⟨A, hA⟩ : ∃ A, A = (wordsOf Sha.K).toArray := ⟨_, rfl⟩
  have hone : A.all (·.oneCell') = true := by rw [hA]; exact wordsOf_one _
  have hinfo : (Tryd.prog.info? 115).map (·.size) = some A.size := by rw [hA]; exact info_w64'
  have ho : (wordsOf zw64).toArray.size = A.size := by rw [hA]; rfl
  rw [← hA]
  have HN := Lib.hid (show ∀ X : Obj, (w3.alloc X).heap[w3.heap.size]? = some X from fun X => heap_new w3 X)
  have HST := Lib.hid (show ∀ X Y : Obj, X = .cells (wordsOf zw64).toArray 115 (0, 0) → Y = .cells (wordsOf (List.replicate 64 0)).toArray 115 (0, 0) → BAt w.heap.size w3.heap.size w hs bs 0 (((w3.alloc X).setRow w3.heap.size A).alloc Y) from by
    intro X Y hX hY
    have h1 : Below w3.heap.size w3 ((w3.alloc X).setRow w3.heap.size A) := ((Below.refl _ _).alloc (Nat.le_refl _) _).setRow (Nat.le_refl _) _
    have h2 : Below w3.heap.size w3 (((w3.alloc X).setRow w3.heap.size A).alloc Y) := h1.alloc (by simp) _
    refine ⟨hv3.below h2 (by omega), hr3.below h2 (by omega), ?_, ?_, hB3.trans (h2.mono (by omega))⟩
    · unfold Wrow
      rw [Below.heap_alloc _ _ _ (by simp), ← hA]
      exact setRow_heap _ _ _ _ _ _ (by rw [hX]; exact heap_new _ _)
    · unfold Wrow
      rw [show w3.heap.size + 1 = ((w3.alloc X).setRow w3.heap.size A).heap.size by simp, heap_new, hY]
      rfl)
  clear hv3 hr3 hB3 hA
  have HS3 := Lib.hid hs3
  have HONE := Lib.hid hone
  have HINFO := Lib.hid hinfo
  have HO := Lib.hid ho
  have HRD := Lib.hid hr
  have HHS := Lib.hid hhs
  clear hs3 hone hinfo ho hr hhs
  go_wp2_with (first | (refine wpList_store_row (by rfl) 115 _ _ (by rfl) w3.heap.size A (by rfl) (by rfl) 115 (wordsOf zw64).toArray (by exact HN.out _) HINFO.out HO.out HONE.out ?_))
  go_loopw [7] (fun i wr => ∃ k : Nat, k ≤ 64 ∧ i = .int .i64 k ∧ Hid (BAt w.heap.size w3.heap.size w hs bs k wr)) (fun i _ => 64 - (intOf i).toNat)
  case atStart => exact ⟨0, by omega, rfl, Lib.hid (HST.out _ _ rfl rfl)⟩
  case round =>
    clear HN HST HONE HINFO HO
    obtain ⟨k, hk, rfl, HB⟩ := hrel
    by_cases hk64 : k < 64
    · by_cases hk16 : k < 16
      · obtain ⟨j, hj⟩ : ∃ j, 4 * k = j := ⟨_, rfl⟩
        obtain ⟨j1, hj1⟩ : ∃ j1, j + 1 = j1 := ⟨_, rfl⟩
        obtain ⟨j2, hj2⟩ : ∃ j2, j + 2 = j2 := ⟨_, rfl⟩
        obtain ⟨j3, hj3⟩ : ∃ j3, j + 3 = j3 := ⟨_, rfl⟩
        have hcell : ∀ i, i < 64 → wr.cell? ⟨b, off + i, none⟩ = some (.int .u8 ((bs.getD i 0 : Nat) : Int)) := by
          rcases (HRD.out.below HB.out.2.2.2.2).2.2 with h | ⟨b', o', hbo, _, hc⟩
          · omega
          · cases hbo; exact hc
        have hbb : ∀ i, i < 64 → bs.getD i 0 < 256 := fun i hi => by rw [getD_at bs i (by rw [HRD.out.1]; omega)]; exact HRD.out.2.1 _ (List.getElem_mem _)
        have hwd : Sha.wd bs k = Numm.num 0 [bs.getD j 0, bs.getD j1 0, bs.getD j2 0, bs.getD j3 0] := by unfold Sha.wd; rw [hj, hj1, hj2, hj3]
        have b0 := hbb j (by omega)
        have c0 := hcell j (by omega)
        obtain ⟨x0, e0⟩ : ∃ x, bs.getD j 0 = x := ⟨_, rfl⟩
        rw [e0] at b0 c0 hwd
        have b1 := hbb j1 (by omega)
        have c1 := hcell j1 (by omega)
        obtain ⟨x1, e1⟩ : ∃ x, bs.getD j1 0 = x := ⟨_, rfl⟩
        rw [e1] at b1 c1 hwd
        have b2 := hbb j2 (by omega)
        have c2 := hcell j2 (by omega)
        obtain ⟨x2, e2⟩ : ∃ x, bs.getD j2 0 = x := ⟨_, rfl⟩
        rw [e2] at b2 c2 hwd
        have b3 := hbb j3 (by omega)
        have c3 := hcell j3 (by omega)
        obtain ⟨x3, e3⟩ : ∃ x, bs.getD j3 0 = x := ⟨_, rfl⟩
        rw [e3] at b3 c3 hwd
        have hwd2 : Sha.wd bs k = x0 * 16777216 + x1 * 65536 + x2 * 256 + x3 := by rw [hwd]; simp [Numm.num]; omega
        have HWD := Lib.hid hwd2
        clear e0 e1 e2 e3 hcell hbb hwd hwd2
        obtain ⟨o, ho, hf⟩ := HB.out.old k (by omega)
        have HNX := Lib.hid (show ∀ E : Int, E = ((Sha.wd bs k : Nat) : Int) → BAt w.heap.size w3.heap.size w hs bs (k + 1) (wr.setCell ⟨w3.heap.size + 1, k, none⟩ (.int .u32 E)) from fun E hE => by
          rw [hE]; exact HB.out.next HS3.out hk64 (by rw [if_pos hk16]))
        have hi0 : 4 * (k : Int) = (j : Int) := by omega
        have hi1 : (j : Int) + 1 = (j1 : Int) := by omega
        have hi2 : (j : Int) + 2 = (j2 : Int) := by omega
        have hi3 : (j : Int) + 3 = (j3 : Int) := by omega
        have p0 : (0 : Int) ≤ (j : Int) := by omega
        have q0 : (j : Int) < 64 := by omega
        have r0 : IntKind.i64.wrap (j : Int) = (j : Int) := IntWalk.i64_in _ (by omega)
        have p1 : (0 : Int) ≤ (j1 : Int) := by omega
        have q1 : (j1 : Int) < 64 := by omega
        have r1 : IntKind.i64.wrap (j1 : Int) = (j1 : Int) := IntWalk.i64_in _ (by omega)
        have p2 : (0 : Int) ≤ (j2 : Int) := by omega
        have q2 : (j2 : Int) < 64 := by omega
        have r2 : IntKind.i64.wrap (j2 : Int) = (j2 : Int) := IntWalk.i64_in _ (by omega)
        have p3 : (0 : Int) ≤ (j3 : Int) := by omega
        have q3 : (j3 : Int) < 64 := by omega
        have r3 : IntKind.i64.wrap (j3 : Int) = (j3 : Int) := IntWalk.i64_in _ (by omega)
        have p4 : (0 : Int) ≤ (k : Int) := by omega
        have q4 : (k : Int) < 64 := by omega
        have r4 : IntKind.i64.wrap (k : Int) = (k : Int) := IntWalk.i64_in _ (by omega)
        clear hj hj1 hj2 hj3
        go_wp2
        go_still_tail 34, (by kernel_rfl)
        go_wp2
        refine ⟨?rel, ?measure⟩
        case rel =>
          refine ⟨k + 1, by omega, by go_num, ?_⟩
          exact Lib.hid (HNX.out _ (by rw [HWD.out]; omega)).drew
        case measure => simp [intOf]; omega
      · obtain ⟨j15, hj15⟩ : ∃ j, k - 15 = j := ⟨_, rfl⟩
        obtain ⟨j2, hj2⟩ : ∃ j, k - 2 = j := ⟨_, rfl⟩
        obtain ⟨j16, hj16⟩ : ∃ j, k - 16 = j := ⟨_, rfl⟩
        obtain ⟨j7, hj7⟩ : ∃ j, k - 7 = j := ⟨_, rfl⟩
        have c15 := HB.out.get j15 (by omega) hk
        have c2 := HB.out.get j2 (by omega) hk
        have c16 := HB.out.get j16 (by omega) hk
        have c7 := HB.out.get j7 (by omega) hk
        have hnx := Sha.sch_lt bs (fun i => by rw [List.getD_eq_getElem?_getD]; cases h : bs[i]? with | none => simp | some z => simpa using HRD.out.2.1 z (List.mem_of_getElem? h)) k
        obtain ⟨x, hx⟩ : ∃ x, x = (Sha.sch bs k).getD j15 0 := ⟨_, rfl⟩
        obtain ⟨y, hy⟩ : ∃ y, y = (Sha.sch bs k).getD j2 0 := ⟨_, rfl⟩
        obtain ⟨v16, hv16⟩ : ∃ z, z = (Sha.sch bs k).getD j16 0 := ⟨_, rfl⟩
        obtain ⟨v7, hv7⟩ : ∃ z, z = (Sha.sch bs k).getD j7 0 := ⟨_, rfl⟩
        have hx32 : x < 4294967296 := by rw [hx, getD_at _ _ (by rw [Sha.sch_len]; omega)]; exact hnx _ (List.getElem_mem _)
        have hy32 : y < 4294967296 := by rw [hy, getD_at _ _ (by rw [Sha.sch_len]; omega)]; exact hnx _ (List.getElem_mem _)
        rw [← hx] at c15
        rw [← hy] at c2
        rw [← hv16] at c16
        rw [← hv7] at c7
        have e : Sha.nxt (Sha.sch bs k) k = Sha.add (Sha.add (Sha.add v16 (Sha.sig0 x)) v7) (Sha.sig1 y) := by
          unfold Sha.nxt
          rw [hj16, hj7, hj15, hj2, ← hv16, ← hv7, ← hx, ← hy]
        have T7 := Lib.hid (fun W => turnq x 7 W hx32 (by omega) (by omega))
        have T18 := Lib.hid (fun W => turnq x 18 W hx32 (by omega) (by omega))
        have T17 := Lib.hid (fun W => turnq y 17 W hy32 (by omega) (by omega))
        have T19 := Lib.hid (fun W => turnq y 19 W hy32 (by omega) (by omega))
        have S0 := Lib.hid (sig0_int x hx32)
        have S1 := Lib.hid (sig1_int y hy32)
        obtain ⟨o, ho, hf⟩ := HB.out.old k (by omega)
        have HNX := Lib.hid (show ∀ (q : Nat) (E : Int), E = ((Sha.nxt (Sha.sch bs k) k : Nat) : Int) → BAt w.heap.size w3.heap.size w hs bs (k + 1) ((wr.drewN q).setCell ⟨w3.heap.size + 1, k, none⟩ (.int .u32 E)) from fun q E hE => by
          rw [hE]; exact (HB.out.drewN q).next HS3.out hk64 (by rw [if_neg hk16]))
        rw [e] at HNX
        clear hx hy hv16 hv7 hnx e
        have i15 : (k : Int) - 15 = (j15 : Int) := by omega
        have i2 : (k : Int) - 2 = (j2 : Int) := by omega
        have i16 : (k : Int) - 16 = (j16 : Int) := by omega
        have i7 : (k : Int) - 7 = (j7 : Int) := by omega
        have p0 : (0 : Int) ≤ (j15 : Int) := by omega
        have q0 : (j15 : Int) < 64 := by omega
        have r0 : IntKind.i64.wrap (j15 : Int) = (j15 : Int) := IntWalk.i64_in _ (by omega)
        have p1 : (0 : Int) ≤ (j2 : Int) := by omega
        have q1 : (j2 : Int) < 64 := by omega
        have r1 : IntKind.i64.wrap (j2 : Int) = (j2 : Int) := IntWalk.i64_in _ (by omega)
        have p2 : (0 : Int) ≤ (j16 : Int) := by omega
        have q2 : (j16 : Int) < 64 := by omega
        have r2 : IntKind.i64.wrap (j16 : Int) = (j16 : Int) := IntWalk.i64_in _ (by omega)
        have p3 : (0 : Int) ≤ (j7 : Int) := by omega
        have q3 : (j7 : Int) < 64 := by omega
        have r3 : IntKind.i64.wrap (j7 : Int) = (j7 : Int) := IntWalk.i64_in _ (by omega)
        have p4 : (0 : Int) ≤ (k : Int) := by omega
        have q4 : (k : Int) < 64 := by omega
        have r4 : IntKind.i64.wrap (k : Int) = (k : Int) := IntWalk.i64_in _ (by omega)
        clear hj15 hj2 hj16 hj7
        have c15' : ∀ q, (wr.drewN q).cell? ⟨w3.heap.size + 1, j15, none⟩ = some (.int .u32 (x : Int)) := fun q => c15
        have c2' : ∀ q, (wr.drewN q).cell? ⟨w3.heap.size + 1, j2, none⟩ = some (.int .u32 (y : Int)) := fun q => c2
        have c16' : ∀ q, (wr.drewN q).cell? ⟨w3.heap.size + 1, j16, none⟩ = some (.int .u32 (v16 : Int)) := fun q => c16
        have c7' : ∀ q, (wr.drewN q).cell? ⟨w3.heap.size + 1, j7, none⟩ = some (.int .u32 (v7 : Int)) := fun q => c7
        have ho' : ∀ q, (wr.drewN q).cell? ⟨w3.heap.size + 1, k, none⟩ = some (.int .u32 (o : Int)) := fun q => ho
        have hf' : ∀ q, (wr.drewN q).frozen? ⟨w3.heap.size + 1, k, none⟩ = false := fun q => hf
        clear c16 c7 ho hf
        go_upto_region 8 with fail
        go_quiet ((go_at_call 70; first | with_reducible exact Calls.quiet_of_same (T7.out _) | with_reducible exact Calls.quiet_of_same (T18.out _)))
        with_reducible rw [S0.out]
        obtain ⟨s0, hs0⟩ : ∃ z, z = Sha.sig0 x := ⟨_, rfl⟩
        rw [← hs0] at HNX ⊢
        obtain ⟨wr1, hwr1⟩ : ∃ z, z = wr.drewN nq := ⟨_, rfl⟩
        have HNX1 := Lib.hid (show ∀ (q : Nat) (E : Int), E = ((Sha.add (Sha.add (Sha.add v16 s0) v7) (Sha.sig1 y) : Nat) : Int) → BAt w.heap.size w3.heap.size w hs bs (k + 1) ((wr1.drewN q).setCell ⟨w3.heap.size + 1, k, none⟩ (.int .u32 E)) from fun q E hE => by
          rw [hwr1, drewN_add]; exact HNX.out _ E hE)
        have c2 : wr1.cell? ⟨w3.heap.size + 1, j2, none⟩ = some (.int .u32 (y : Int)) := by rw [hwr1]; exact c2' nq
        have c2a : ∀ q, (wr1.drewN q).cell? ⟨w3.heap.size + 1, j2, none⟩ = some (.int .u32 (y : Int)) := fun q => c2
        have c16 : ∀ q, (wr1.drewN q).cell? ⟨w3.heap.size + 1, j16, none⟩ = some (.int .u32 (v16 : Int)) := fun q => by rw [hwr1]; exact c16' nq
        have c7 : ∀ q, (wr1.drewN q).cell? ⟨w3.heap.size + 1, j7, none⟩ = some (.int .u32 (v7 : Int)) := fun q => by rw [hwr1]; exact c7' nq
        have ho : ∀ q, (wr1.drewN q).cell? ⟨w3.heap.size + 1, k, none⟩ = some (.int .u32 (o : Int)) := fun q => by rw [hwr1]; exact ho' nq
        have hf : ∀ q, (wr1.drewN q).frozen? ⟨w3.heap.size + 1, k, none⟩ = false := fun q => by rw [hwr1]; exact hf' nq
        rw [← hwr1]
        have H0 := Lib.hid hs0
        clear hwr1 hs0 HNX c15 c15' c2' c16' c7' ho' hf' T7 T18 S0
        go_upto_region 9 with fail
        go_quiet ((go_at_call 70; first | with_reducible exact Calls.quiet_of_same (T17.out _) | with_reducible exact Calls.quiet_of_same (T19.out _)))
        with_reducible rw [S1.out]
        obtain ⟨s1, hs1⟩ : ∃ z, z = Sha.sig1 y := ⟨_, rfl⟩
        rw [← hs1] at HNX1 ⊢
        obtain ⟨wr2, hwr2⟩ : ∃ z, z = wr1.drewN nq := ⟨_, rfl⟩
        have HNX2 := Lib.hid (show ∀ (E : Int), E = ((Sha.add (Sha.add (Sha.add v16 s0) v7) s1 : Nat) : Int) → BAt w.heap.size w3.heap.size w hs bs (k + 1) (wr2.setCell ⟨w3.heap.size + 1, k, none⟩ (.int .u32 E)) from fun E hE => by
          rw [hwr2]; exact HNX1.out _ E hE)
        have d16 : wr2.cell? ⟨w3.heap.size + 1, j16, none⟩ = some (.int .u32 (v16 : Int)) := by rw [hwr2]; exact c16 nq
        have d7 : wr2.cell? ⟨w3.heap.size + 1, j7, none⟩ = some (.int .u32 (v7 : Int)) := by rw [hwr2]; exact c7 nq
        have dho : wr2.cell? ⟨w3.heap.size + 1, k, none⟩ = some (.int .u32 (o : Int)) := by rw [hwr2]; exact ho nq
        have dhf : wr2.frozen? ⟨w3.heap.size + 1, k, none⟩ = false := by rw [hwr2]; exact hf nq
        rw [← hwr2]
        have H1 := Lib.hid hs1
        clear hwr2 hs1 HNX1 c2 c2a c16 c7 ho hf T17 T19 S1
        go_upto_region 10 with fail
        go_still_tail 14, (by kernel_rfl)
        go_wp2
        refine ⟨?rel, ?measure⟩
        case rel =>
          refine ⟨k + 1, by omega, by go_num, ?_⟩
          exact Lib.hid (HNX2.out _ (by unfold Sha.add; omega)).drew
        case measure => simp [intOf]; omega
    · obtain rfl : k = 64 := by omega
      obtain ⟨x0, x1, x2, x3, x4, x5, x6, x7, rfl⟩ : ∃ x0 x1 x2 x3 x4 x5 x6 x7, hs = [x0, x1, x2, x3, x4, x5, x6, x7] := by
        match hs, hh with
        | [x0, x1, x2, x3, x4, x5, x6, x7], _ => exact ⟨_, _, _, _, _, _, _, _, rfl⟩
      have hok0 : (Sha.r8 [x0, x1, x2, x3, x4, x5, x6, x7]).ok := ⟨HHS.out x0 (by simp), HHS.out x1 (by simp), HHS.out x2 (by simp), HHS.out x3 (by simp), HHS.out x4 (by simp), HHS.out x5 (by simp), HHS.out x6 (by simp), HHS.out x7 (by simp)⟩
      have HOK := Lib.hid hok0
      clear hok0 HHS hh HRD hk hk64
      have e0 : wr.cell? ⟨w.heap.size, 0, none⟩ = some (.int .u32 (x0 : Int)) := HB.out.1.cell 0 (by simp)
      have e1 : wr.cell? ⟨w.heap.size, 1, none⟩ = some (.int .u32 (x1 : Int)) := HB.out.1.cell 1 (by simp)
      have e2 : wr.cell? ⟨w.heap.size, 2, none⟩ = some (.int .u32 (x2 : Int)) := HB.out.1.cell 2 (by simp)
      have e3 : wr.cell? ⟨w.heap.size, 3, none⟩ = some (.int .u32 (x3 : Int)) := HB.out.1.cell 3 (by simp)
      have e4 : wr.cell? ⟨w.heap.size, 4, none⟩ = some (.int .u32 (x4 : Int)) := HB.out.1.cell 4 (by simp)
      have e5 : wr.cell? ⟨w.heap.size, 5, none⟩ = some (.int .u32 (x5 : Int)) := HB.out.1.cell 5 (by simp)
      have e6 : wr.cell? ⟨w.heap.size, 6, none⟩ = some (.int .u32 (x6 : Int)) := HB.out.1.cell 6 (by simp)
      have e7 : wr.cell? ⟨w.heap.size, 7, none⟩ = some (.int .u32 (x7 : Int)) := HB.out.1.cell 7 (by simp)
      have e0' : ∀ q, (wr.drewN q).cell? ⟨w.heap.size, 0, none⟩ = some (.int .u32 (x0 : Int)) := fun q => e0
      have e1' : ∀ q, (wr.drewN q).cell? ⟨w.heap.size, 1, none⟩ = some (.int .u32 (x1 : Int)) := fun q => e1
      have e2' : ∀ q, (wr.drewN q).cell? ⟨w.heap.size, 2, none⟩ = some (.int .u32 (x2 : Int)) := fun q => e2
      have e3' : ∀ q, (wr.drewN q).cell? ⟨w.heap.size, 3, none⟩ = some (.int .u32 (x3 : Int)) := fun q => e3
      go_upto_region 11 with fail
      go_quiet (fail)
      clear e0 e1 e2 e3 e0' e1' e2' e3'
      obtain ⟨wr1, hwr1⟩ : ∃ z, z = wr.drewN nq := ⟨_, rfl⟩
      rw [← hwr1]
      have f4 : wr1.cell? ⟨w.heap.size, 4, none⟩ = some (.int .u32 (x4 : Int)) := by rw [hwr1]; exact e4
      have f5 : wr1.cell? ⟨w.heap.size, 5, none⟩ = some (.int .u32 (x5 : Int)) := by rw [hwr1]; exact e5
      have f6 : wr1.cell? ⟨w.heap.size, 6, none⟩ = some (.int .u32 (x6 : Int)) := by rw [hwr1]; exact e6
      have f7 : wr1.cell? ⟨w.heap.size, 7, none⟩ = some (.int .u32 (x7 : Int)) := by rw [hwr1]; exact e7
      have f4' : ∀ q, (wr1.drewN q).cell? ⟨w.heap.size, 4, none⟩ = some (.int .u32 (x4 : Int)) := fun q => f4
      have f5' : ∀ q, (wr1.drewN q).cell? ⟨w.heap.size, 5, none⟩ = some (.int .u32 (x5 : Int)) := fun q => f5
      have f6' : ∀ q, (wr1.drewN q).cell? ⟨w.heap.size, 6, none⟩ = some (.int .u32 (x6 : Int)) := fun q => f6
      have f7' : ∀ q, (wr1.drewN q).cell? ⟨w.heap.size, 7, none⟩ = some (.int .u32 (x7 : Int)) := fun q => f7
      have HB1 := Lib.hid (show BAt w.heap.size w3.heap.size w [x0, x1, x2, x3, x4, x5, x6, x7] bs 64 wr1 by rw [hwr1]; exact HB.out.drewN _)
      clear e4 e5 e6 e7 hwr1 HB
      go_upto_region 12 with fail
      go_quiet (fail)
      clear f4 f5 f6 f7 f4' f5' f6' f7'
      obtain ⟨w2, hw2⟩ : ∃ z, z = wr1.drewN nq := ⟨_, rfl⟩
      rw [← hw2]
      have HB2 := Lib.hid (show BAt w.heap.size w3.heap.size w [x0, x1, x2, x3, x4, x5, x6, x7] bs 64 w2 by rw [hw2]; exact HB1.out.drewN _)
      clear hw2 HB1
      obtain ⟨ws, hws⟩ : ∃ ws, ws = Sha.sch bs 64 := ⟨_, rfl⟩
      have HROW := Lib.hid (show Wrow w2 (w3.heap.size + 1) 115 ws by
        have := HB2.out.2.2.2.1
        rw [Nat.sub_self, List.replicate_zero, List.append_nil] at this
        rw [hws]; exact this)
      have HWL := Lib.hid (show ws.length = 64 by rw [hws]; exact Sha.sch_len bs 64)
      have HWS := Lib.hid hws
      clear hws
      go_wp2_with fail
      go_loopw [10, 11, 12, 13, 14, 15, 16, 17, 18] (fun va vb vc vd ve vf vg vh i wr => ∃ (k : Nat) (r : Sha.R8), k ≤ 64 ∧ i = .int .i64 k ∧ va = .int .u32 (r.a : Int) ∧ vb = .int .u32 (r.b : Int) ∧ vc = .int .u32 (r.c : Int) ∧ vd = .int .u32 (r.d : Int) ∧ ve = .int .u32 (r.e : Int) ∧ vf = .int .u32 (r.f : Int) ∧ vg = .int .u32 (r.g : Int) ∧ vh = .int .u32 (r.h : Int) ∧ r = Sha.rnds (Sha.r8 [x0, x1, x2, x3, x4, x5, x6, x7]) ws k ∧ Hid (∃ q, wr = w2.drewN q)) (fun _ _ _ _ _ _ _ _ i _ => 64 - (intOf i).toNat)
      case atStart => exact ⟨0, _, by omega, rfl, rfl, rfl, rfl, rfl, rfl, rfl, rfl, rfl, rfl, Lib.hid ⟨0, rfl⟩⟩
      case round =>
        obtain ⟨k, r, hk, rfl, rfl, rfl, rfl, rfl, rfl, rfl, rfl, rfl, hr, HQ⟩ := hrel
        have hok := Sha.rnds_ok HOK.out ws k
        rw [← hr] at hok
        obtain ⟨a, b, c, d, e, f, g, h⟩ := r
        obtain ⟨oa, ob, oc, od, oe, of, og, oh⟩ := hok
        dsimp only at oa ob oc od oe of og oh
        have HR := Lib.hid hr
        have R6 := Lib.hid (fun W => turnq e 6 W oe (by omega) (by omega))
        have R11 := Lib.hid (fun W => turnq e 11 W oe (by omega) (by omega))
        have R25 := Lib.hid (fun W => turnq e 25 W oe (by omega) (by omega))
        have T2 := Lib.hid (show ∀ W : World, Calls Tryd.prog 70 #[.int .u32 (a : Int), .int .u64 2] W (fun e' w' => e' = .returned (.int .u32 ((Rotm.rot a 2 : Nat) : Int)) ∧ W = w') from fun W => turnn a 2 W oa (by omega) (by omega))
        have T13 := Lib.hid (show ∀ W : World, Calls Tryd.prog 70 #[.int .u32 (a : Int), .int .u64 13] W (fun e' w' => e' = .returned (.int .u32 ((Rotm.rot a 13 : Nat) : Int)) ∧ W = w') from fun W => turnn a 13 W oa (by omega) (by omega))
        have T22 := Lib.hid (show ∀ W : World, Calls Tryd.prog 70 #[.int .u32 (a : Int), .int .u64 22] W (fun e' w' => e' = .returned (.int .u32 ((Rotm.rot a 22 : Nat) : Int)) ∧ W = w') from fun W => turnn a 22 W oa (by omega) (by omega))
        have OA := Lib.hid oa
        have OB := Lib.hid ob
        have OC := Lib.hid oc
        have OE := Lib.hid oe
        have OF := Lib.hid of
        have OG := Lib.hid og
        clear hr oa ob oc od of og oh
        by_cases hk64 : k < 64
        · have ck0 : wr.cell? ⟨w3.heap.size, k, none⟩ = some (.int .u32 ((Sha.K.getD k 0 : Nat) : Int)) := by obtain ⟨q, rfl⟩ := HQ.out; exact Wrow.cell (t := 115) HB2.out.2.2.1 k (by rw [K_len]; exact hk64)
          have cw0 : wr.cell? ⟨w3.heap.size + 1, k, none⟩ = some (.int .u32 ((ws.getD k 0 : Nat) : Int)) := by obtain ⟨q, rfl⟩ := HQ.out; exact Wrow.cell (t := 115) HROW.out k (by rw [HWL.out]; exact hk64)
          obtain ⟨kk, hkk⟩ : ∃ z, z = Sha.K.getD k 0 := ⟨_, rfl⟩
          obtain ⟨wk, hwk⟩ : ∃ z, z = ws.getD k 0 := ⟨_, rfl⟩
          rw [← hkk] at ck0
          rw [← hwk] at cw0
          have ck : ∀ q, (wr.drewN q).cell? ⟨w3.heap.size, k, none⟩ = some (.int .u32 (kk : Int)) := fun q => ck0
          have cw : ∀ q, (wr.drewN q).cell? ⟨w3.heap.size + 1, k, none⟩ = some (.int .u32 (wk : Int)) := fun q => cw0
          have HKK := Lib.hid hkk
          have HWK := Lib.hid hwk
          clear hkk hwk
          have q1 : (0 : Int) ≤ (k : Int) := by omega
          have q2 : (k : Int) < 64 := by omega
          go_upto_region 16 with fail
          go_cut [19] from 128 to 190 (fun s19 wx => s19 = .int .u32 ((Sha.tx ⟨a, b, c, d, e, f, g, h⟩ kk wk : Nat) : Int) ∧ ∃ n, wx = wr.drewN n)
          case first =>
            go_quiet ((go_at_call 70; first | with_reducible exact Calls.quiet_of_same (R6.out _) | with_reducible exact Calls.quiet_of_same (R11.out _) | with_reducible exact Calls.quiet_of_same (R25.out _)))
            clear ck cw ck0 cw0
            with_reducible rw [s1_int e, ch_int' e f g OE.out OF.out OG.out]
            with_reducible generalize hx : Value.int IntKind.u32 ((_ % 4294967296 + (wk : Int)) % 4294967296) = x64
            have HX := Lib.hid hx
            clear hx
            go_wp2
            go_meet
            refine ⟨?_, nq, rfl⟩
            exact HX.out.symm.trans (tx_val a b c d e f g h kk wk)
          case rest =>
            obtain ⟨rfl, hq2⟩ := hcut
            have HQ1 : Hid (∃ q, wc = w2.drewN q) := by
              obtain ⟨q, rfl⟩ := HQ.out
              obtain ⟨n, rfl⟩ := hq2
              exact Lib.hid ⟨q + n, drewN_add _ _ _⟩
            clear hq2 HQ ck cw ck0 cw0
            go_upto_region 17 with fail
            go_cut [20] from 128 to 190 (fun s20 wx => s20 = .int .u32 ((Sha.ty ⟨a, b, c, d, e, f, g, h⟩ : Nat) : Int) ∧ wx = wc)
            case first =>
              obtain ⟨y1, y3, y4, y5, y6, s0, m, t, f1, f2, f3, f4, f5, f6, f7, f8, f9⟩ := ty_facts a b c d e f g h OA.out OB.out OC.out
              obtain ⟨r2, hr2⟩ : ∃ z, z = Rotm.rot a 2 := ⟨_, rfl⟩
              obtain ⟨r13, hr13⟩ : ∃ z, z = Rotm.rot a 13 := ⟨_, rfl⟩
              obtain ⟨r22, hr22⟩ : ∃ z, z = Rotm.rot a 22 := ⟨_, rfl⟩
              rw [← hr2] at T2 f1
              rw [← hr13] at T13 f1
              rw [← hr22] at T22 f2
              have F9 := Lib.hid f9
              have F8 := Lib.hid f8
              clear f8 f9 hr2 hr13 hr22
              go_wp2_with fail
              with_reducible refine (T2.out _).mono ?_
              rintro en wx ⟨rfl, rfl⟩
              go_wp2_with fail
              with_reducible refine (T13.out _).mono ?_
              rintro en wx ⟨rfl, rfl⟩
              go_wp2_with fail
              with_reducible refine (T22.out _).mono ?_
              rintro en wx ⟨rfl, rfl⟩
              go_wp2_with fail
              go_meet
              exact ⟨u32_eq (F8.out.trans (by rw [F9.out])), rfl⟩
            case rest =>
              obtain ⟨rfl, rfl⟩ := hcut
              obtain ⟨tx, htx⟩ : ∃ z, z = Sha.tx ⟨a, b, c, d, e, f, g, h⟩ kk wk := ⟨_, rfl⟩
              obtain ⟨ty, hty⟩ : ∃ z, z = Sha.ty ⟨a, b, c, d, e, f, g, h⟩ := ⟨_, rfl⟩
              rw [← htx, ← hty]
              obtain ⟨t1, ht1, hT1⟩ : ∃ z : Nat, ((tx : Int) + (ty : Int)) % 4294967296 = (z : Int) ∧ z = Sha.add tx ty := ⟨_, by unfold Sha.add; omega, rfl⟩
              obtain ⟨t2, ht2, hT2⟩ : ∃ z : Nat, ((d : Int) + (tx : Int)) % 4294967296 = (z : Int) ∧ z = Sha.add d tx := ⟨_, by unfold Sha.add; omega, rfl⟩
              have HTX := Lib.hid htx
              have HTY := Lib.hid hty
              have HT1 := Lib.hid hT1
              have HT2 := Lib.hid hT2
              clear htx hty hT1 hT2
              have HE1 := Lib.hid ht1
              have HE2 := Lib.hid ht2
              clear ht1 ht2
              go_wp2_with fail
              clear q1 q2
              refine ⟨?rel, ?measure⟩
              case rel =>
                refine ⟨k + 1, ⟨t1, a, b, c, t2, e, f, g⟩, by omega, by go_num, u32_eq HE1.out, rfl, rfl, rfl, u32_eq HE2.out, rfl, rfl, rfl, ?_, HQ1⟩
                rw [HT1.out, HT2.out, HTX.out, HTY.out, HKK.out, HWK.out, Sha.rnds, ← HR.out]
                rfl
              case measure => simp [intOf]; omega
        · obtain rfl : k = 64 := by omega
          have HB3 : Hid (BAt w.heap.size w3.heap.size w [x0, x1, x2, x3, x4, x5, x6, x7] bs 64 wr) := by obtain ⟨q, rfl⟩ := HQ.out; exact Lib.hid (HB2.out.drewN q)
          have HRES := Lib.hid (show wr.heap[w.heap.size + 1]? = some (.cells (wordsOf zs8).toArray 95 (0, 0)) from HB3.out.2.1)
          have HBEL := Lib.hid (show Below w.heap.size w wr from HB3.out.2.2.2.2)
          have e0 : wr.cell? ⟨w.heap.size, 0, none⟩ = some (.int .u32 (x0 : Int)) := HB3.out.1.cell 0 (by simp)
          have e1 : wr.cell? ⟨w.heap.size, 1, none⟩ = some (.int .u32 (x1 : Int)) := HB3.out.1.cell 1 (by simp)
          have e2 : wr.cell? ⟨w.heap.size, 2, none⟩ = some (.int .u32 (x2 : Int)) := HB3.out.1.cell 2 (by simp)
          have e3 : wr.cell? ⟨w.heap.size, 3, none⟩ = some (.int .u32 (x3 : Int)) := HB3.out.1.cell 3 (by simp)
          have e4 : wr.cell? ⟨w.heap.size, 4, none⟩ = some (.int .u32 (x4 : Int)) := HB3.out.1.cell 4 (by simp)
          have e5 : wr.cell? ⟨w.heap.size, 5, none⟩ = some (.int .u32 (x5 : Int)) := HB3.out.1.cell 5 (by simp)
          have e6 : wr.cell? ⟨w.heap.size, 6, none⟩ = some (.int .u32 (x6 : Int)) := HB3.out.1.cell 6 (by simp)
          have e7 : wr.cell? ⟨w.heap.size, 7, none⟩ = some (.int .u32 (x7 : Int)) := HB3.out.1.cell 7 (by simp)
          have HMIX := Lib.hid (mix_cells x0 x1 x2 x3 x4 x5 x6 x7 bs ws _ HWS.out HR.out)
          obtain ⟨C, hC⟩ : ∃ C : Array Value, C = #[.int .u32 (((x0 : Int) + (a : Int)) % 4294967296), .int .u32 (((x1 : Int) + (b : Int)) % 4294967296), .int .u32 (((x2 : Int) + (c : Int)) % 4294967296), .int .u32 (((x3 : Int) + (d : Int)) % 4294967296), .int .u32 (((x4 : Int) + (e : Int)) % 4294967296), .int .u32 (((x5 : Int) + (f : Int)) % 4294967296), .int .u32 (((x6 : Int) + (g : Int)) % 4294967296), .int .u32 (((x7 : Int) + (h : Int)) % 4294967296)] := ⟨_, rfl⟩
          have hwi : (Tryd.prog.info? 95).map (·.size) = some C.size := by rw [hC]; exact info_a8
          have hCs : (wordsOf zs8).toArray.size = C.size := by rw [hC]; rfl
          have hC1 : C.all (·.oneCell') = true := by
            rw [hC]
            refine Array.all_eq_true_iff_forall_mem.2 fun v hv => ?_
            simp only [List.mem_toArray, List.mem_cons, List.not_mem_nil, or_false] at hv
            rcases hv with rfl | rfl | rfl | rfl | rfl | rfl | rfl | rfl <;> rfl
          have hin := Lib.hid (setRow_heap wr (w.heap.size + 1) _ C _ _ HRES.out)
          have HC := Lib.hid hC
          have HWI := Lib.hid hwi
          have HCS := Lib.hid hCs
          have HC1 := Lib.hid hC1
          clear hwi hk hk64 hC hCs hC1
          go_wp2_with (first | (refine wpList_store_row (by rfl) 95 _ _ (by rfl) (w.heap.size + 1) C (by rfl) (by rw [HC.out]; rfl) 95 (wordsOf zs8).toArray HRES.out HWI.out HCS.out HC1.out ?_))
          refine bodyPost_ret (results_cell_row (by rfl) _ _ (w.heap.size + 1) _ C (0, 0) _ (by rfl) hin.out Tryd.underlying95 (by rfl) HWI.out) ?_ ?_
          · rfl
          · refine ⟨?_, HBEL.out.setRow (by omega) _⟩
            rw [HMIX.out, HC.out]
            rw [add_val, add_val, add_val, add_val, add_val, add_val, add_val, add_val]
end Go.Proofs.YtlnblfdddellmaaDoor
namespace Go.Proofs.YtlnblfdddellmaaDoor
open Go.RowKit
set_option linter.unusedVariables false

/-- the cells of the document's state -/
def rsCells (hs : List Nat) (n : Nat) (v : Value) : List Value := wordsOf hs ++ [Value.int .u64 (n : Int), v]
/-- the document's state lies at g -/
structure RS (w : World) (g : Nat) (hs : List Nat) (n : Nat) (v : Value) : Prop where
  row : w.heap[g]? = some (.cells (rsCells hs n v).toArray 97 (0, 0))
  l8 : hs.length = 8
theorem rsCells_len {hs : List Nat} {n : Nat} {v : Value} (h : hs.length = 8) : (rsCells hs n v).length = 10 := by simp [rsCells, wordsOf_length, h]
theorem RS.lt {w : World} {g : Nat} {hs : List Nat} {n : Nat} {v : Value} (h : RS w g hs n v) : g < w.heap.size := (Array.getElem?_eq_some_iff.1 h.row).1
theorem RS.cellq {w : World} {g : Nat} {hs : List Nat} {n : Nat} {v : Value} (h : RS w g hs n v) (j : Nat) : w.cell? ⟨g, j, none⟩ = (rsCells hs n v)[j]? := by
  rw [cell_of_row w g j _ _ _ h.row]; simp
theorem RS.froz {w : World} {g : Nat} {hs : List Nat} {n : Nat} {v : Value} (h : RS w g hs n v) (j : Nat) : w.frozen? ⟨g, j, none⟩ = false := frozen_of_row w g j _ _ h.row
theorem RS.words {w : World} {g : Nat} {hs : List Nat} {n : Nat} {v : Value} (h : RS w g hs n v) : w.rangeAt g 0 (wordsOf hs) := fun j u hu => by
  rw [Nat.zero_add, h.cellq]
  unfold rsCells
  rw [List.getElem?_append_left (List.getElem?_eq_some_iff.1 hu).1, hu]
theorem RS.num {w : World} {g : Nat} {hs : List Nat} {n : Nat} {v : Value} (h : RS w g hs n v) : w.cell? ⟨g, 8, none⟩ = some (.int .u64 (n : Int)) := by
  rw [h.cellq]
  unfold rsCells
  rw [List.getElem?_append_right (by rw [wordsOf_length, h.l8]; omega), wordsOf_length, h.l8]
  rfl
theorem RS.tail {w : World} {g : Nat} {hs : List Nat} {n : Nat} {v : Value} (h : RS w g hs n v) : w.cell? ⟨g, 9, none⟩ = some v := by
  rw [h.cellq]
  unfold rsCells
  rw [List.getElem?_append_right (by rw [wordsOf_length, h.l8]; omega), wordsOf_length, h.l8]
  rfl
theorem RS.there {w : World} {g : Nat} {hs : List Nat} {n : Nat} {v : Value} (h : RS w g hs n v) (o m : Nat) (hm : o + m ≤ 10) : w.there g o m := fun j hj => by
  refine ⟨?_, h.froz _⟩
  have := rsCells_len (n := n) (v := v) h.l8
  rw [h.cellq, List.getElem?_eq_getElem (by omega)]
  rfl
theorem RS.drewN {w : World} {g : Nat} {hs : List Nat} {n : Nat} {v : Value} (h : RS w g hs n v) (q : Nat) : RS (w.drewN q) g hs n v := ⟨h.row, h.l8⟩
theorem RS.drew {w : World} {g : Nat} {hs : List Nat} {n : Nat} {v : Value} (h : RS w g hs n v) : RS w.drew g hs n v := ⟨h.row, h.l8⟩
theorem RS.below {B : Nat} {w w' : World} {g : Nat} {hs : List Nat} {n : Nat} {v : Value} (h : RS w g hs n v) (hb : Below B w w') (hg : g < B) : RS w' g hs n v := ⟨(hb.block g hg).trans h.row, h.l8⟩
theorem RS.only {g' : Nat} {w w' : World} {g : Nat} {hs : List Nat} {n : Nat} {v : Value} (h : RS w g hs n v) (hb : Only g' w w') (hg : g ≠ g') : RS w' g hs n v := ⟨(hb.block g h.lt hg).trans h.row, h.l8⟩
theorem RS.setNum {w : World} {g : Nat} {hs : List Nat} {n : Nat} {v : Value} (h : RS w g hs n v) (m : Nat) : RS (w.setCell ⟨g, 8, none⟩ (.int .u64 (m : Int))) g hs m v := by
  refine ⟨?_, h.l8⟩
  rw [heap_setCell_same w g 8 _ _ _ h.row]
  congr 2
  unfold rsCells
  rw [List.setIfInBounds_toArray, List.set_append_right _ _ (by rw [wordsOf_length, h.l8]; omega), wordsOf_length, h.l8]
  rfl
theorem RS.setTail {w : World} {g : Nat} {hs : List Nat} {n : Nat} {v : Value} (h : RS w g hs n v) (u : Value) : RS (w.setCell ⟨g, 9, none⟩ u) g hs n u := by
  refine ⟨?_, h.l8⟩
  rw [heap_setCell_same w g 9 _ _ _ h.row]
  congr 2
  unfold rsCells
  rw [List.setIfInBounds_toArray, List.set_append_right _ _ (by rw [wordsOf_length, h.l8]; omega), wordsOf_length, h.l8]
  rfl
theorem RS.setWords {w : World} {g : Nat} {hs : List Nat} {n : Nat} {v : Value} (h : RS w g hs n v) (hs' : List Nat) (h8 : hs'.length = 8) : RS (w.setCells g 0 (wordsOf hs')) g hs' n v := by
  refine ⟨?_, h8⟩
  rw [setCells_row g _ _ _ _ _ h.row (by rw [rsCells_len h.l8, wordsOf_length, h8]; omega)]
  congr 2
  unfold splice rsCells
  rw [List.take_zero, List.nil_append, Nat.zero_add, wordsOf_length, h8, List.drop_append, List.drop_eq_nil_of_le (by rw [wordsOf_length, h.l8]; omega), wordsOf_length, h.l8]
  rfl
theorem RS.setAll {w : World} {g : Nat} {hs hs' : List Nat} {n n' : Nat} {v v' : Value} (h : RS w g hs n v) (h8 : hs'.length = 8) : RS (w.setRow g (rsCells hs' n' v').toArray) g hs' n' v' := ⟨setRow_heap _ _ _ _ _ _ h.row, h8⟩
theorem rsCells_one (hs : List Nat) (n : Nat) (a : Option Addr) (l c : Nat) : (rsCells hs n (.slice a l c)).toArray.all (·.oneCell') = true := by
  refine Array.all_eq_true_iff_forall_mem.2 fun v hv => ?_
  simp only [rsCells, wordsOf, List.mem_toArray, List.mem_append, List.mem_map, List.mem_cons, List.not_mem_nil, or_false] at hv
  rcases hv with ⟨z, _, rfl⟩ | rfl | rfl <;> rfl
theorem info_rs : (Tryd.prog.info? 97).map (·.size) = some 10 := by kernel_rfl
theorem Own.only {g B : Nat} {w w' : World} {v : Value} {zs : List Nat} (h : Own w B v zs) (ho : Only g w w') (hg : g < B) : Own w' B v zs := by
  refine ⟨h.1, ?_⟩
  rcases h.2 with h0 | ⟨b, cap, cur, h1, h2, h3, h4⟩
  · exact .inl h0
  · exact .inr ⟨b, cap, cur, h1, h2, (ho.block b (Array.getElem?_eq_some_iff.1 h3).1 (by omega)).trans h3, h4⟩
theorem Own.base {B B' : Nat} {w : World} {v : Value} {zs : List Nat} (h : Own w B v zs) (hB : B' ≤ B) : Own w B' v zs := by
  refine ⟨h.1, ?_⟩
  rcases h.2 with h0 | ⟨b, cap, cur, h1, h2, h3, h4⟩
  · exact .inl h0
  · exact .inr ⟨b, cap, cur, h1, by omega, h3, h4⟩
theorem Own.oneCell {B : Nat} {w : World} {v : Value} {zs : List Nat} (h : Own w B v zs) : v.oneCell' = true := by
  rcases h.2 with ⟨rfl, _⟩ | ⟨b, cap, cur, rfl, _⟩ <;> rfl
theorem Own.isSlice {B : Nat} {w : World} {v : Value} {zs : List Nat} (h : Own w B v zs) : ∃ a l c, v = .slice a l c := by
  rcases h.2 with ⟨rfl, _⟩ | ⟨b, cap, cur, rfl, _⟩ <;> exact ⟨_, _, _, rfl⟩
/-- what hands back a state -/
def RsRet (hs : List Nat) (n : Nat) (zs : List Nat) (w : World) (e : Ending) (w' : World) : Prop :=
  ∃ v, e = .returned (.agg (rsCells hs n v).toArray) ∧ Own w' w.heap.size v zs ∧ Below w.heap.size w w'
theorem info_rs0 : (Tryd.prog.info? 97).map (·.size) = some (rsCells Sha.H0 0 (.slice none 0 0)).toArray.size := by kernel_rfl
set_option maxRecDepth 100000 in
set_option maxHeartbeats 1000000 in
theorem rnew_c (w : World) : Calls Tryd.prog 55 #[] w (RsRet Sha.H0 0 [] w) := by
  go_enter Tryd.func55, Tryd.ntmps55
  go_wp2_with fail
  refine (begin_c _).mono ?_
  rintro en w3 ⟨rfl, hb3⟩
  have hv3 : RS w3 w.heap.size zs8 0 (.slice none 0 0) := ⟨(hb3.block _ (by simp)).trans (heap_new _ _), rfl⟩
  have hB3 : Below w.heap.size w w3 := Below.trans ((Below.refl _ _).alloc (by omega) _) (hb3.mono (by simp))
  clear hb3
  have HV := Lib.hid hv3
  have HB := Lib.hid hB3
  clear hv3 hB3
  go_wp2_with (first | (refine wpList_buildTo (by rfl) 97 _ (by rfl) (some 2) (by rfl) (rsCells Sha.H0 0 (.slice none 0 0)).toArray (by kernel_rfl) ?_) | (refine wpList_store_row (by rfl) 97 _ _ (by rfl) w.heap.size (rsCells Sha.H0 0 (.slice none 0 0)).toArray (by rfl) (by rfl) 97 (rsCells zs8 0 (.slice none 0 0)).toArray HV.out.row info_rs0 (by kernel_rfl) (rsCells_one _ _ _ _ _) ?_))
  refine bodyPost_ret (results_cell_row (by rfl) _ _ w.heap.size _ (rsCells Sha.H0 0 (.slice none 0 0)).toArray (0, 0) _ (by rfl) (setRow_heap _ _ _ _ _ _ HV.out.row) Tryd.underlying97 (by rfl) info_rs0) ?_ ?_
  · rfl
  · exact ⟨_, rfl, Own.nil _ _, HB.out.setRow (Nat.le_refl _) _⟩
/-- what stands while bytes come in -/
def WAt (w : World) (hs : List Nat) (n : Nat) (v : Value) (wr : World) : Prop :=
  RS wr w.heap.size hs n v ∧ RS wr (w.heap.size + 1) zs8 0 (.slice none 0 0) ∧ Below w.heap.size w wr ∧ w.heap.size + 2 ≤ wr.heap.size
theorem WAt.step {w wr w' : World} {hs : List Nat} {n : Nat} {v : Value} (h : WAt w hs n v wr) (hb : Below (w.heap.size + 2) wr w') : WAt w hs n v w' :=
  ⟨h.1.below hb (by omega), h.2.1.below hb (by omega), h.2.2.1.trans (hb.mono (by omega)), Nat.le_trans h.2.2.2 hb.size⟩
theorem WAt.words {w wr : World} {hs : List Nat} {n : Nat} {v : Value} (h : WAt w hs n v wr) (hs' : List Nat) (h8 : hs'.length = 8) : WAt w hs' n v (wr.setCells w.heap.size 0 (wordsOf hs')) := by
  have o : Only w.heap.size wr (wr.setCells w.heap.size 0 (wordsOf hs')) := Only.setCells _ _ (Only.refl _ _)
  exact ⟨h.1.setWords hs' h8, h.2.1.only o (by omega), h.2.2.1.trans (o.below (Nat.le_refl _) (by have := h.1.lt; omega)), Nat.le_trans h.2.2.2 o.size⟩
theorem info_w8 (hs : List Nat) (h : hs.length = 8) : (Tryd.prog.info? 95).map (·.size) = some (wordsOf hs).length := by rw [wordsOf_length, h]; exact info_a8
theorem WAt.only9 {w wr W : World} {hs : List Nat} {n : Nat} {v v' : Value} (h : WAt w hs n v wr) (o : Only w.heap.size wr W) (hr : RS W w.heap.size hs n v') : WAt w hs n v' W :=
  ⟨hr, h.2.1.only o (by omega), h.2.2.1.trans (o.below (Nat.le_refl _) (by have := h.1.lt; omega)), Nat.le_trans h.2.2.2 o.size⟩
theorem gen_num {P : Program} {c : Code} {Q : Exit → Act → World → Prop} {a : Act} {w wr : World} {hs T : List Nat} {n : Nat} {v0 v : Value} (hW : WAt w hs n v0 wr) (hO : Own wr (w.heap.size + 2) v T) (m : Nat)
    (k : ∀ W, WAt w hs m v0 W → Own W (w.heap.size + 2) v T → c.wp P Q a W) : c.wp P Q a (wr.setCell ⟨w.heap.size, 8, none⟩ (.int .u64 (m : Int))) := by
  have o : Only w.heap.size wr (wr.setCell ⟨w.heap.size, 8, none⟩ (.int .u64 (m : Int))) := (Only.refl _ _).setCell _ _
  exact k _ ⟨hW.1.setNum _, hW.2.1.only o (by omega), hW.2.2.1.trans (o.below (Nat.le_refl _) (by have := hW.1.lt; omega)), Nat.le_trans hW.2.2.2 o.size⟩ (hO.only o (by omega))
theorem gen_tail {P : Program} {c : Code} {Q : Exit → Act → World → Prop} {a : Act} {w wr : World} {hs T : List Nat} {n : Nat} {v0 v : Value} (hW : WAt w hs n v0 wr) (hO : Own wr (w.heap.size + 2) v T)
    (k : ∀ W, WAt w hs n v W → Own W (w.heap.size + 2) v T → c.wp P Q a W) : c.wp P Q a (wr.setCell ⟨w.heap.size, 9, none⟩ v) := by
  have o : Only w.heap.size wr (wr.setCell ⟨w.heap.size, 9, none⟩ v) := (Only.refl _ _).setCell _ _
  exact k _ (hW.only9 o (hW.1.setTail v)) (hO.only o (by omega))
theorem WAt.fin {w W : World} {hs T : List Nat} {n : Nat} {v : Value} (h : WAt w hs n v W) (hO : Own W (w.heap.size + 2) v T) : ∃ C : Array Value, W.heap[w.heap.size]? = some (.cells C 97 (0, 0)) ∧
    (Tryd.prog.info? 97).map (·.size) = some C.size ∧ (rsCells zs8 0 (.slice none 0 0)).toArray.size = C.size ∧ C.all (·.oneCell') = true ∧ ∃ v, C = (rsCells hs n v).toArray ∧ Own W (w.heap.size + 2) v T := by
  refine ⟨_, h.1.row, ?_, ?_, ?_, v, rfl, hO⟩
  · rw [List.size_toArray, rsCells_len h.1.l8]; exact info_rs
  · rw [List.size_toArray, List.size_toArray, rsCells_len h.1.l8]; rfl
  · rcases hO.2 with ⟨rfl, _⟩ | ⟨b, c, cur, rfl, _⟩ <;> exact rsCells_one _ _ _ _ _
set_option maxRecDepth 100000 in
set_option maxHeartbeats 2000000 in
theorem rwrite_c (hs tail zs : List Nat) (n : Nat) (ta a : Option Addr) (tl tc len cap : Nat) (w : World) (h8 : Sha.W8 hs) (hrt : Rd w ta tl tail) (htl : tl < 64) (hr : Rd w a len zs) (hlen : len ≤ 9223372036854775807) (hn : n + len ≤ 18446744073709551615) :
    Calls Tryd.prog 54 #[.agg (rsCells hs n (.slice ta tl tc)).toArray, .slice a len cap] w (RsRet (Sha.run hs (tail ++ zs)) (n + len) (Sha.rest (tail ++ zs)) w) := by
  have H8 := Lib.hid h8
  have HRT := Lib.hid hrt
  have HR := Lib.hid hr
  clear h8 hrt hr
  go_enter Tryd.func54, Tryd.ntmps54
  go_upto_region 1 with fail
  refine gen_code (F := WAt w hs n (.slice ta tl tc)) ⟨⟨(heap_new2 _ _ _).1, H8.out.1⟩, ⟨(heap_new2 _ _ _).2, rfl⟩, ((Below.refl _ _).alloc (Nat.le_refl _) _).alloc (by simp) _, by simp⟩ ?_
  intro wA hA
  have HA := Lib.hid hA
  have hc9 := hA.1.tail
  clear hA
  go_wp2_with fail
  refine (twin_c ta tl tc tail wA (HRT.out.below HA.out.2.2.1) (by omega)).mono ?_
  rintro en wB ⟨v, rfl, hown, hB⟩
  have HOW := Lib.hid (Own.base hown HA.out.2.2.2)
  have HB := Lib.hid (HA.out.step (hB.mono HA.out.2.2.2))
  clear hown hB HA hc9
  go_wp2_with fail
  go_loopw [5, 6] (fun t i wr => ∃ k : Nat, k ≤ len ∧ i = .int .i64 k ∧ Hid (Own wr (w.heap.size + 2) t (Sha.rest (tail ++ zs.take k))) ∧ Hid (WAt w (Sha.run hs (tail ++ zs.take k)) n (.slice ta tl tc) wr)) (fun _ i _ => len - (intOf i).toNat)
  case atStart =>
    refine ⟨0, Nat.zero_le _, rfl, ?_, ?_⟩
    · rw [List.take_zero, List.append_nil, (Sha.run_less hs tail (by rw [HRT.out.1]; omega)).2]; exact HOW
    · rw [List.take_zero, List.append_nil, (Sha.run_less hs tail (by rw [HRT.out.1]; omega)).1]; exact HB
  case round =>
    clear HOW HB
    obtain ⟨k, hk, rfl, HO, HW⟩ := hrel
    by_cases hkl : k < len
    · obtain ⟨T, hT⟩ : ∃ T, T = Sha.rest (tail ++ zs.take k) := ⟨_, rfl⟩
      obtain ⟨H, hH⟩ : ∃ H, H = Sha.run hs (tail ++ zs.take k) := ⟨_, rfl⟩
      obtain ⟨z, hz⟩ : ∃ z, z = zs.getD k 0 := ⟨_, rfl⟩
      have hlz := HR.out.1
      have hlt := HRT.out.1
      have hql : (tail ++ zs.take k).length = tl + k := by rw [List.length_append, List.length_take, hlt, hlz]; omega
      have hTl : T.length = (tl + k) % 64 := by rw [hT, Sha.rest_len, hql]
      have hW8 : Sha.W8 H := by rw [hH]; exact H8.out.run _
      have hz256 : z < 256 := by rw [hz, getD_at zs k (by omega)]; exact HR.out.2.1 _ (List.getElem_mem _)
      have hTb : ∀ y ∈ T ++ [z], y < 256 := by
        intro y hy
        rcases List.mem_append.1 hy with h | h
        · rw [hT] at h
          rcases List.mem_append.1 (List.mem_of_mem_drop h) with h | h
          · exact HRT.out.2.1 y h
          · exact HR.out.2.1 y (List.mem_of_mem_take h)
        · rw [List.mem_singleton.1 h]; exact hz256
      have htk : zs.take (k + 1) = zs.take k ++ [z] := by rw [List.take_succ_eq_append_getElem (by omega), hz, getD_at zs k (by omega)]
      have hshort : T.length + 1 < 64 → Sha.run hs (tail ++ zs.take (k + 1)) = H ∧ Sha.rest (tail ++ zs.take (k + 1)) = T ++ [z] := by
        intro h
        have := Sha.run_short hs (tail ++ zs.take k) [z] (by rw [hql, ← hTl]; exact h)
        rw [← hT, ← hH, List.append_assoc, ← htk] at this
        exact this
      have hfull : T.length + 1 = 64 → Sha.run hs (tail ++ zs.take (k + 1)) = Sha.mix H (T ++ [z]) ∧ Sha.rest (tail ++ zs.take (k + 1)) = [] := by
        intro h
        have := Sha.run_full hs (tail ++ zs.take k) [z] (by rw [hql, ← hTl]; exact h)
        rw [← hT, ← hH, List.append_assoc, ← htk] at this
        exact this
      have hT64 : T.length < 64 := by omega
      rw [← hT] at HO
      rw [← hH] at HW
      obtain ⟨_, _, h0 | ⟨b, off, rfl, hb, hc⟩⟩ := HR.out.below HW.out.2.2.1
      · omega
      have hcy := hc k hkl
      rw [← hz] at hcy
      have HSH := Lib.hid hshort
      have HFU := Lib.hid hfull
      have H8' := Lib.hid hW8
      have HTB := Lib.hid hTb
      have HT64 := Lib.hid hT64
      clear hT hH hz hlz hlt hql hTl hW8 hTb htk hshort hfull hc hb hT64
      go_wp2_with (at_builtin; (refine wpList_push rfl _ _ rfl (w.heap.size + 2) u5 T z _ rfl rfl HO.out HW.out.2.2.2 rfl (by have := HT64.out; omega) ?_))
      intro v1 w1 hown1 hb1
      have HW1 := Lib.hid (HW.out.step (hb1.mono (by omega)))
      obtain ⟨a1, L, cap1, rfl, hL, _, _, _, hrd1, hown1⟩ := hown1.form HTB.out
      have HO1 := Lib.hid hown1
      have HRD1 := Lib.hid hrd1
      rw [List.length_append, List.length_singleton] at hL
      clear hown1 hb1 hrd1 HO HW hcy
      have h64 := HT64.out
      by_cases hL64 : L = 64
      · subst hL64
        obtain ⟨b1, o1, rfl⟩ : ∃ b1 o1, a1 = some ⟨b1, o1, none⟩ := by
          rcases HRD1.out.2.2 with h | ⟨b1, o1, h, _⟩
          · omega
          · exact ⟨b1, o1, h⟩
        have HF := Lib.hid (HFU.out hL)
        clear hL h64
        go_wp2_with (first | (refine wpList_load_mid (by rfl) 95 _ (by rfl) w.heap.size 0 (by rfl) (wordsOf H) _ HW1.out.1.words Tryd.underlying95 (by rfl) (info_w8 _ H8'.out.1) ?_))
        refine (block_c H (T ++ [z]) b1 o1 cap1 w1 H8'.out.1 H8'.out.2 HRD1.out).mono ?_
        rintro en w2 ⟨rfl, hb2⟩
        obtain ⟨M, hM⟩ : ∃ M, M = Sha.mix H (T ++ [z]) := ⟨_, rfl⟩
        have hM8 : M.length = 8 := by rw [hM]; exact Sha.mix_len _ _
        have HW2 := Lib.hid (HW1.out.step (hb2.mono HW1.out.2.2.2))
        have HM := Lib.hid hM
        have HM8 := Lib.hid hM8
        have HIM := Lib.hid (show (Tryd.prog.info? 95).map (·.size) = some (wordsOf M).toArray.size by rw [wordsOf_size, hM8]; exact info_a8)
        have HTH := Lib.hid (show w2.there w.heap.size 0 (wordsOf M).toArray.size by rw [wordsOf_size, hM8]; exact HW2.out.1.there 0 8 (by omega))
        have HW3 := Lib.hid (show WAt w M n (.slice ta tl tc) (w2.setCells w.heap.size 0 (wordsOf M).toArray.toList) by rw [List.toList_toArray]; exact HW2.out.words M hM8)
        rw [← hM]
        clear hM hM8 hb2
        go_wp2_with (first | (refine wpList_store_mid (by rfl) 95 _ _ (by rfl) w.heap.size 0 (wordsOf M).toArray (by rfl) (by rfl) HTH.out HIM.out (wordsOf_one _) ?_))
        go_roundw
        case rel =>
          refine ⟨k + 1, by omega, by go_num, ?_, ?_⟩
          · rw [HF.out.2]; exact Lib.hid (Own.nil _ _)
          · rw [HF.out.1, ← HM.out]; exact HW3
        case measure => simp [intOf]; omega
      · have HF := Lib.hid (HSH.out (by omega))
        have hLi : ¬ (L : Int) = 64 := by omega
        go_wp2
        go_roundw
        case rel =>
          refine ⟨k + 1, by omega, by go_num, ?_, ?_⟩
          · rw [HF.out.2]; exact HO1
          · rw [HF.out.1]; exact HW1
        case measure => simp [intOf]; omega
    · obtain rfl : k = len := by omega
      obtain ⟨a1, l1, c1, rfl⟩ := HO.out.isSlice
      rw [List.take_of_length_le (by rw [HR.out.1]; omega)] at HO HW
      obtain ⟨T, hT⟩ : ∃ T, T = Sha.rest (tail ++ zs) := ⟨_, rfl⟩
      obtain ⟨H, hH⟩ : ∃ H, H = Sha.run hs (tail ++ zs) := ⟨_, rfl⟩
      rw [← hT] at HO
      rw [← hH] at HW
      have h8 := Lib.hid (show H.length = 8 by rw [hH]; exact (H8.out.run _).1)
      have HTE := Lib.hid hT
      have HHE := Lib.hid hH
      clear hT hH
      have hc8 := HW.out.1.num
      have hf8 := HW.out.1.froz 8
      go_upto_region 10 with fail
      rw [show ((n : Int) + (k : Int)) = ((n + k : Nat) : Int) by omega]
      refine gen_num HW.out HO.out (n + k) ?_
      intro w1 hw1 ho1
      clear hc8 hf8 HO HW
      have hc9 := hw1.1.tail
      have hf9 := hw1.1.froz 9
      have HW1 := Lib.hid hw1
      have HO1 := Lib.hid ho1
      clear hw1 ho1
      go_upto_region 11 with fail
      refine gen_tail HW1.out HO1.out ?_
      intro w2 hw2 ho2
      clear hc9 hf9 HO1 HW1
      obtain ⟨C, hrow, hinf, hsz, hone, hC⟩ := hw2.fin ho2
      have HROW := Lib.hid hrow
      have HON := Lib.hid hone
      have HIN := Lib.hid hinf
      have HSZ := Lib.hid hsz
      have HC := Lib.hid hC
      have HR2 := Lib.hid hw2.2.1.row
      have HB2 := Lib.hid hw2.2.2.1
      clear hone hinf hsz hw2 ho2 hrow hC
      go_wp2_with (first | (refine wpList_load_row (by rfl) 97 _ (by rfl) w.heap.size (by rfl) _ C (0, 0) _ HROW.out Tryd.underlying97 (by rfl) HIN.out ?_) | (refine wpList_store_row (by rfl) 97 _ _ (by rfl) (w.heap.size + 1) C (by rfl) (by rfl) 97 (rsCells zs8 0 (.slice none 0 0)).toArray HR2.out HIN.out HSZ.out HON.out ?_))
      refine bodyPost_ret (results_cell_row (by rfl) _ _ (w.heap.size + 1) _ C (0, 0) _ (by rfl) (setRow_heap _ _ _ _ _ _ HR2.out) Tryd.underlying97 (by rfl) HIN.out) ?_ ?_
      · rfl
      · have o : Only (w.heap.size + 1) w2 (w2.setRow (w.heap.size + 1) C) := (Only.refl _ _).setRow _
        obtain ⟨v, hv, hO⟩ := HC.out
        refine ⟨v, by rw [← HHE.out, hv], ?_, HB2.out.setRow (by omega) _⟩
        rw [← HTE.out]
        exact (hO.only o (by omega)).base (by omega)
end Go.Proofs.YtlnblfdddellmaaDoor
namespace Go.Proofs.YtlnblfdddellmaaDoor
open Go.RowKit
section
variable {P : Program} {ops : Array Oper} {Q : Exit → Act → World → Prop} {md : Region.Mode}
/-- operation i is a call: by its contract -/
theorem op_call {i : Nat} {d : Option Tmp} {f : FuncId} {xs : Array Operand} {ts : Array TypeId} {vs : Array Value} {a : Act} {w : World} {K : Act → World → Prop} {R : Ending → World → Prop}
    (hi : (ops[i]?.map fun o => (o.dst, o.op, o.guard)) = some (d, Op.call { callee := .value (.func f), args := xs, argTypes := ts }, none)) (hx : xs.map a.eval = vs)
    (hf : (callFunc f vs).run P w = .ok (.enter f vs) w) (hc : Calls P f vs w R)
    (h : ∀ e w', R e w' → ∃ v, e = .returned v ∧ K (a.put d v) w') : wpOp P ops Q i K a w := by
  cases ho : ops[i]? with
  | none => simp [ho] at hi
  | some o =>
    simp only [ho, Option.map_some, Option.some.injEq, Prod.mk.injEq] at hi
    obtain ⟨h1, h2, h3⟩ := hi
    unfold wpOp
    simp only [ho, wanted_plain h3, if_true]
    refine .inl ?_
    have hr : (execOp a.eval o).run P w = .ok (.enter f vs) w := by
      unfold execOp
      rw [h2]
      simp [resolve, invoke, hx, Act.eval, go_sem, hf]
    unfold Oper.wp
    rw [hr]
    refine hc.mono fun e w' hR => ?_
    obtain ⟨v, rfl, hv⟩ := h e w' hR
    rw [h1]
    exact hv
/-- a load and a call, in either order: the load yields the same ahead of the call and behind it -/
theorem any_load_call (i j : Nat) {d1 d2 : Nat} {t1 : TypeId} {x1 : Operand} {p1 v1 : Value} {f : FuncId} {xs : Array Operand} {ts : Array TypeId} {vs : Array Value} {fuel : Nat} {listed : Array Bool} {a : Act} {w : World} {R : Ending → World → Prop}
    (h0 : Region.ready md ops listed = [i, j]) (h1 : Region.ready md ops (listed.setIfInBounds i true) = [j]) (h2 : Region.ready md ops (listed.setIfInBounds j true) = [i])
    (hij : i ≠ j) (hd : d1 ≠ d2)
    (hi : (ops[i]?.map fun o => (o.dst, o.op, o.guard)) = some (some d1, Op.load t1 x1, none))
    (hj : (ops[j]?.map fun o => (o.dst, o.op, o.guard)) = some (some d2, Op.call { callee := .value (.func f), args := xs, argTypes := ts }, none))
    (e1 : a.eval x1 = p1) (e1' : ∀ v, (a.put (some d2) v).eval x1 = p1) (hx : xs.map a.eval = vs) (hx' : xs.map (a.put (some d1) v1).eval = vs)
    (hf : (callFunc f vs).run P w = .ok (.enter f vs) w) (hc : Calls P f vs w R)
    (r1 : (Instr.loadAt t1 p1).run P w = .ok v1 w)
    (h : ∀ e w', R e w' → ∃ v, e = .returned v ∧ (Instr.loadAt t1 p1).run P w' = .ok v1 w' ∧ wpAny P md ops Q fuel ((listed.setIfInBounds i true).setIfInBounds j true) ((a.put (some d1) v1).put (some d2) v) w') :
    wpAny P md ops Q (fuel + 1 + 1) listed a w := by
  refine wpAny_all h0 (by simp) ?_
  intro k hk
  simp only [List.mem_cons, List.not_mem_nil, or_false] at hk
  rcases hk with rfl | rfl
  · refine op_load hi e1 r1 (wpAny_all h1 (by simp) ?_)
    intro l hl
    simp only [List.mem_cons, List.not_mem_nil, or_false] at hl
    subst hl
    refine op_call hj hx' hf hc fun e w' hR => ?_
    obtain ⟨v, hv, _, hk⟩ := h e w' hR
    exact ⟨v, hv, hk⟩
  · refine op_call hj hx hf hc fun e w' hR => ?_
    obtain ⟨v, hv, r2, hk⟩ := h e w' hR
    refine ⟨v, hv, wpAny_all h2 (by simp) ?_⟩
    intro l hl
    simp only [List.mem_cons, List.not_mem_nil, or_false] at hl
    subst hl
    refine op_load hi (e1' v) r2 ?_
    rw [Array.setIfInBounds_comm _ _ hij] at hk
    have hc : (a.put (some d2) v).put (some d1) v1 = (a.put (some d1) v1).put (some d2) v := Act.put_comm a v v1 (by simp [hd])
    rw [hc]
    exact hk
end
end Go.Proofs.YtlnblfdddellmaaDoor
namespace Go.Proofs.YtlnblfdddellmaaDoor
open Go.RowKit
set_option linter.unusedVariables false

/-- the document's state behind the bytes q -/
def CQ (w : World) (hs q : List Nat) (n : Nat) (W : World) : Prop := ∃ a c, RS W w.heap.size (Sha.run hs q) n (.slice a (Sha.rest q).length c) ∧ Own W (w.heap.size + 2) (.slice a (Sha.rest q).length c) (Sha.rest q) ∧
  Brow W (w.heap.size + 1) 31 zs32 ∧ Below w.heap.size w W ∧ w.heap.size + 2 ≤ W.heap.size
/-- a state was handed back and is stored -/
theorem CQ.store {w W W' : World} {hs H q : List Nat} {n n0 : Nat} {v0 v : Value} (h8 : Sha.W8 hs) (hr : RS W w.heap.size H n0 v0) (hb : Brow W (w.heap.size + 1) 31 zs32) (hB : Below w.heap.size w W) (hs2 : w.heap.size + 2 ≤ W.heap.size)
    (ho : Own W' W.heap.size v (Sha.rest q)) (hw : Below W.heap.size W W') : CQ w hs q n (W'.setRow w.heap.size (rsCells (Sha.run hs q) n v).toArray) := by
  obtain ⟨a, l, c, rfl⟩ := ho.isSlice
  have hl : l = (Sha.rest q).length := by
    rcases ho.2 with ⟨h, hn⟩ | ⟨b, cap, cur, h, _⟩
    · cases h; exact hn.symm
    · cases h; rfl
  subst hl
  have o : Only w.heap.size W' (W'.setRow w.heap.size (rsCells (Sha.run hs q) n (.slice a (Sha.rest q).length c)).toArray) := (Only.refl _ _).setRow _
  have hsz := hw.size
  exact ⟨a, c, (hr.below hw (by omega)).setAll (h8.run q).1, (ho.base (by omega)).only o (by omega), (hb.below hw (by omega)).only o (by omega), (hB.trans (hw.mono (by omega))).trans (o.below (Nat.le_refl _) (by omega)), Nat.le_trans (Nat.le_trans hs2 hw.size) o.size⟩
theorem CQ.stored {w W W' : World} {hs H q : List Nat} {n n0 : Nat} {v0 v : Value} (h8 : Sha.W8 hs) (hr : RS W w.heap.size H n0 v0) (hb : Brow W (w.heap.size + 1) 31 zs32) (hB : Below w.heap.size w W) (hs2 : w.heap.size + 2 ≤ W.heap.size)
    (ho : Own W' W.heap.size v (Sha.rest q)) (hw : Below W.heap.size W W') : CQ w hs q n (W'.setCells w.heap.size 0 (rsCells (Sha.run hs q) n v)) := by
  obtain ⟨a, l, c, rfl⟩ := ho.isSlice
  have hl : l = (Sha.rest q).length := by
    rcases ho.2 with ⟨h, hn⟩ | ⟨b, cap, cur, h, _⟩
    · cases h; exact hn.symm
    · cases h; rfl
  subst hl
  have o : Only w.heap.size W' (W'.setCells w.heap.size 0 (rsCells (Sha.run hs q) n (.slice a (Sha.rest q).length c))) := Only.setCells _ _ (Only.refl _ _)
  have hsz := hw.size
  have hr' := hr.below hw (by omega)
  have hl1 : (rsCells (Sha.run hs q) n (.slice a (Sha.rest q).length c)).length = (rsCells H n0 v0).length := by rw [rsCells_len (h8.run q).1, rsCells_len hr.l8]
  have hrow := setCells_row w.heap.size _ (rsCells (Sha.run hs q) n (.slice a (Sha.rest q).length c)) 0 _ _ hr'.row (by omega)
  rw [show splice (rsCells H n0 v0) 0 (rsCells (Sha.run hs q) n (.slice a (Sha.rest q).length c)) = rsCells (Sha.run hs q) n (.slice a (Sha.rest q).length c) from by
    unfold splice
    rw [List.take_zero, List.nil_append, List.drop_eq_nil_of_le (by omega), List.append_nil]] at hrow
  exact ⟨a, c, ⟨hrow, (h8.run q).1⟩, (ho.base (by omega)).only o (by omega), (hb.below hw (by omega)).only o (by omega), (hB.trans (hw.mono (by omega))).trans (o.below (Nat.le_refl _) (by omega)), Nat.le_trans (Nat.le_trans hs2 hw.size) o.size⟩
theorem rs_one {B : Nat} {W : World} {v : Value} {T : List Nat} (ho : Own W B v T) (H : List Nat) (n : Nat) : (rsCells H n v).toArray.all (·.oneCell') = true := by
  obtain ⟨a, l, c, rfl⟩ := ho.isSlice
  exact rsCells_one _ _ _ _ _
theorem rs_info {H : List Nat} {n : Nat} {v : Value} (h : H.length = 8) : (Tryd.prog.info? 97).map (·.size) = some (rsCells H n v).toArray.size := by rw [List.size_toArray, rsCells_len h]; exact info_rs
theorem rs_size {H H' : List Nat} {n n' : Nat} {v v' : Value} (h : H.length = 8) (h' : H'.length = 8) : (rsCells H n v).toArray.size = (rsCells H' n' v').toArray.size := by rw [List.size_toArray, List.size_toArray, rsCells_len h, rsCells_len h']
theorem rd_one (W : World) (x : Nat) (hx : x < 256) : Rd (W.alloc (.cells #[.int .u8 (x : Int)] 5)) (some ⟨W.heap.size, 0, none⟩) 1 [x] := by
  refine ⟨rfl, by simpa using hx, .inr ⟨W.heap.size, 0, rfl, by simp, fun i hi => ?_⟩⟩
  obtain rfl : i = 0 := by omega
  rw [cell_of_row _ _ _ _ _ _ (heap_new _ _)]
  rfl
theorem gen_exit {Q : Exit → Act → World → Prop} {x : Exit} {a : Act} {W : World} {F : World → Prop} (h : F W) (k : ∀ w, F w → Q x a w) : Q x a W := k W h
/-- while the bytes of the words are put -/
def DA (w : World) (D : Nat) (M : List Nat) (n : Nat) (v : Value) (ys : List Nat) (wr : World) : Prop :=
  RS wr w.heap.size M n v ∧ Brow wr (w.heap.size + 1) 31 zs32 ∧ Brow wr D 31 (ys ++ List.replicate (32 - ys.length) 0) ∧ Below w.heap.size w wr ∧ w.heap.size + 2 ≤ D
theorem DA.step {w wr w' : World} {D n : Nat} {M ys : List Nat} {v : Value} (h : DA w D M n v ys wr) (hb : Below wr.heap.size wr w') : DA w D M n v ys w' :=
  ⟨h.1.below hb h.1.lt, h.2.1.below hb h.2.1.lt, h.2.2.1.below hb h.2.2.1.lt, h.2.2.2.1.trans (hb.mono (by have := h.2.2.1.lt; have := h.2.2.2.2; omega)), h.2.2.2.2⟩
theorem DA.snoc {w wr : World} {D n : Nat} {M ys : List Nat} {v : Value} (h : DA w D M n v ys wr) (z : Nat) (hy : ys.length < 32) : DA w D M n v (ys ++ [z]) (wr.setCell ⟨D, ys.length, none⟩ (.int .u8 (z : Int))) := by
  have o : Only D wr (wr.setCell ⟨D, ys.length, none⟩ (.int .u8 (z : Int))) := (Only.refl _ _).setCell _ _
  have hD := h.2.2.2.2
  refine ⟨h.1.only o (by omega), h.2.1.only o (by omega), ?_, h.2.2.2.1.trans (o.below (by omega) (by have := h.2.2.1.lt; omega)), hD⟩
  have h3 := h.2.2.1.set ys.length z
  rw [List.set_append_right _ _ (Nat.le_refl _), Nat.sub_self, show 32 - ys.length = (32 - (ys.length + 1)) + 1 by omega, List.replicate_succ, List.set_cons_zero] at h3
  rw [List.length_append, List.length_singleton, List.append_assoc]
  exact h3
theorem info_a32b : (Tryd.prog.info? 31).map (·.size) = some 32 := by kernel_rfl
/-- how many zeros come in -/
def zeros (t : Nat) : Nat := if t < 56 then 55 - t else 119 - t
theorem padded_zeros (tail : List Nat) (n : Nat) : Sha.padded tail n = tail ++ [128] ++ List.replicate (zeros tail.length) 0 ++ Numm.put (8 * n) 8 := by
  unfold Sha.padded zeros
  split <;> rfl
theorem zeros_on (t j : Nat) (ht : t < 64) (hj : j ≤ zeros t) : (t + 1 + j) % 64 = 56 ↔ j = zeros t := by
  unfold zeros at *
  split at hj <;> split <;> omega
set_option maxRecDepth 100000 in
set_option maxHeartbeats 2000000 in
theorem rclose_c (hs tail : List Nat) (n : Nat) (ta : Option Addr) (tl tc : Nat) (w : World) (h8 : Sha.W8 hs) (hrt : Rd w ta tl tail) (htl : tl < 64) (hn : n ≤ 2305843009213693951) :
    Calls Tryd.prog 53 #[.agg (rsCells hs n (.slice ta tl tc)).toArray] w (DigRet (Sha.close hs tail n) w) := by
  have H8 := Lib.hid h8
  have HRT := Lib.hid hrt
  clear h8 hrt
  go_enter Tryd.func53, Tryd.ntmps53
  go_upto_region 1 with fail
  refine gen_code (F := fun W => RS W w.heap.size hs n (.slice ta tl tc) ∧ Brow W (w.heap.size + 1) 31 zs32 ∧ Below w.heap.size w W ∧ w.heap.size + 2 ≤ W.heap.size) ⟨⟨(heap_new2 _ _ _).1, H8.out.1⟩, (heap_new2 _ _ _).2, ((Below.refl _ _).alloc (Nat.le_refl _) _).alloc (by simp) _, by simp⟩ ?_
  rintro wA ⟨ha, hb, hB, hsz⟩
  have HA := Lib.hid ha
  have HB := Lib.hid hb
  have HBB := Lib.hid hB
  have HSZ := Lib.hid hsz
  have hc8 := ha.num
  clear ha hb hB hsz
  go_upto_region 2 with fail
  clear hc8
  go_wp2_with (first | (refine wpList_load_row (by rfl) 97 _ (by rfl) w.heap.size (by rfl) _ (rsCells hs n (.slice ta tl tc)).toArray (0, 0) _ HA.out.row Tryd.underlying97 (by rfl) (rs_info HA.out.l8) ?_))
  have HAL := Lib.hid (show Below wA.heap.size wA (wA.alloc (.cells #[.int .u8 ((128 : Nat) : Int)] 5)) from (Below.refl _ _).alloc (Nat.le_refl _) _)
  refine (rwrite_c hs tail [128] n ta (some ⟨wA.heap.size, 0, none⟩) tl tc 1 1 _ H8.out ((HRT.out.below HBB.out).below HAL.out) htl (rd_one wA 128 (by decide)) (by decide) (by omega)).mono ?_
  rintro en wB ⟨v, rfl, hov, hbv⟩
  have hbA : Below wA.heap.size wA wB := HAL.out.trans (hbv.mono HAL.out.size)
  have HOV := Lib.hid (hov.base (B' := wA.heap.size) HAL.out.size)
  have HQ := Lib.hid (CQ.store (n := n + 1) H8.out HA.out HB.out HBB.out HSZ.out HOV.out hbA)
  have HROW := Lib.hid (HA.out.below hbA (by have := HSZ.out; omega)).row
  have HI1 := Lib.hid (rs_info (n := n + 1) (v := v) (H8.out.run (tail ++ [128])).1)
  have HS1 := Lib.hid (rs_size (n := n) (n' := n + 1) (v := .slice ta tl tc) (v' := v) H8.out.1 (H8.out.run (tail ++ [128])).1)
  have HO1 := Lib.hid (rs_one HOV.out (Sha.run hs (tail ++ [128])) (n + 1))
  obtain ⟨C, hC⟩ : ∃ C, C = (rsCells (Sha.run hs (tail ++ [128])) (n + 1) v).toArray := ⟨_, rfl⟩
  rw [← hC] at HQ HI1 HS1 HO1 ⊢
  clear hC hov hbv hbA HAL HOV
  go_wp2_with (first | (refine wpList_store_row (by rfl) 97 _ _ (by rfl) w.heap.size C (by rfl) (by rfl) 97 (rsCells hs n (.slice ta tl tc)).toArray HROW.out HI1.out HS1.out HO1.out ?_))
  clear HROW HI1 HS1 HO1 HA HB HBB HSZ
  simp only [Act.put]
  go_loopw [] (fun wr => ∃ j : Nat, j ≤ zeros tl ∧ Hid (CQ w hs (tail ++ [128] ++ List.replicate j 0) (n + 1 + j) wr)) (fun wr => zeros tl + n + 1 - (intOf ((wr.cell? ⟨w.heap.size, 8, none⟩).getD undef)).toNat)
  case atStart => exact ⟨0, Nat.zero_le _, by rw [List.replicate_zero, List.append_nil]; exact HQ⟩
  case round =>
    clear HQ
    obtain ⟨j, hj, HQ⟩ := hrel
    obtain ⟨q, hq⟩ : ∃ q, q = tail ++ [128] ++ List.replicate j 0 := ⟨_, rfl⟩
    have hql : q.length = tl + 1 + j := by rw [hq, List.length_append, List.length_append, List.length_replicate, HRT.out.1]; rfl
    rw [← hq] at HQ
    obtain ⟨a, c, hrs, hown, hbr, hbel, hsz⟩ := HQ.out
    obtain ⟨L, hL⟩ : ∃ L, L = (Sha.rest q).length := ⟨_, rfl⟩
    have hLm : L = (tl + 1 + j) % 64 := by rw [hL, Sha.rest_len, hql]
    have h56 := zeros_on tl j htl hj
    rw [← hLm] at h56
    rw [← hL] at hrs hown
    have hc9 := hrs.tail
    have hc8 := hrs.num
    have hqb : ∀ z ∈ Sha.rest q, z < 256 := by
      intro z hz
      have := List.mem_of_mem_drop hz
      rw [hq] at this
      simp only [List.mem_append, List.mem_singleton, List.mem_replicate] at this
      rcases this with (h | rfl) | ⟨_, rfl⟩
      · exact HRT.out.2.1 z h
      · decide
      · decide
    have hrd : Rd wr a L (Sha.rest q) := by
      obtain ⟨a', L', c', h1, h2, _, _, _, h3, _⟩ := hown.form hqb
      cases h1
      exact h3
    have hL64 : L < 64 := by omega
    have hj64 : j ≤ 64 := by unfold zeros at hj; split at hj <;> omega
    have HRS := Lib.hid hrs
    have HOW := Lib.hid hown
    have HBR := Lib.hid hbr
    have HBEL := Lib.hid hbel
    have HSZ := Lib.hid hsz
    have HRD := Lib.hid hrd
    have HL := Lib.hid hL
    have HQE := Lib.hid hq
    have HC8 := Lib.hid hc8
    clear hrs hown hbr hbel hsz hrd hL hq hc8 hqb hql HQ
    clear hLm
    by_cases hJ : j = zeros tl
    · have hL56 := h56.2 hJ
      subst hL56
      clear h56 hL64
      go_wp2_with fail
      rw [show ((n : Int) * 8) = ((8 * n : Nat) : Int) by omega]
      refine wp_region_any (by kernel_rfl) ?_
      change wpAny _ _ _ _ _ _ _ wr.drew
      refine any_pure 1 (d := 22) (op := .move (.tmp 3)) (.int .u64 ((8 * n : Nat) : Int)) (by rfl) (by kernel_rfl) (by kernel_rfl) (by kernel_rfl) (fun _ _ _ h => h) (fun o ho W => by unfold execOp; simp only [ho]; go_simp) ?_
      simp only [Act.put, List.setIfInBounds_toArray, List.set_cons_zero, List.set_cons_succ]
      have HRUN := Lib.hid (show ∀ W, Below wr.heap.size wr W → (Instr.loadAt 97 (.pointer (some ⟨w.heap.size, 0, none⟩))).run Tryd.prog W = .ok (.agg (rsCells (Sha.run hs q) (n + 1 + j) (.slice a 56 c)).toArray) W from fun W hW =>
        run_loadAt_mid W w.heap.size 0 97 (rsCells (Sha.run hs q) (n + 1 + j) (.slice a 56 c)) _ (fun i v hv => by rw [Nat.zero_add, (HRS.out.below hW (by have := HSZ.out; omega)).cellq]; exact hv) Tryd.underlying97 rfl (by rw [rsCells_len HRS.out.l8]; exact info_rs))
      refine any_load_call 0 2 (d1 := 21) (d2 := 23) (t1 := 97) (x1 := .tmp 1) (p1 := .pointer (some ⟨w.heap.size, 0, none⟩)) (v1 := .agg (rsCells (Sha.run hs q) (n + 1 + j) (.slice a 56 c)).toArray) (f := 57) (xs := #[.tmp 22, .const (.int .i64 8)]) (ts := #[75, 3]) (vs := #[.int .u64 ((8 * n : Nat) : Int), .int .i64 8])
        (by kernel_rfl) (by kernel_rfl) (by kernel_rfl) (by omega) (by omega) (by rfl) (by rfl) (by rfl) (fun _ => by rfl) (by go_simp) (by go_simp) (by go_simp) (refPut_in (8 * n) 8 wr.drew (by omega) (by omega) (by omega)) (HRUN.out _ (Below.refl _ _).drew) ?_
      rintro e w1 ⟨v, rfl, hov, hbv⟩
      have hb1 : Below wr.heap.size wr w1 := (Below.refl _ _).drew.trans hbv
      refine ⟨v, rfl, HRUN.out _ hb1, ?_⟩
      obtain ⟨pa, pl, pc, rfl, hpl, _, hpc, _, hprd, _⟩ := hov.form (Numm.put_byte _ _)
      rw [Numm.put_len] at hpl
      subst hpl
      have HPR := Lib.hid hprd
      have HB1 := Lib.hid hb1
      clear hov hbv hb1 hprd
      simp only [Act.put, List.setIfInBounds_toArray, List.set_cons_zero, List.set_cons_succ]
      refine any_call 3 (d := some 24) (f := 54) (xs := #[.tmp 21, .tmp 23]) (ts := #[97, 76]) (vs := #[.agg (rsCells (Sha.run hs q) (n + 1 + j) (.slice a 56 c)).toArray, .slice pa 8 pc]) (by kernel_rfl) (by rfl) (by go_simp) (by go_simp)
        (rwrite_c (Sha.run hs q) (Sha.rest q) (Numm.put (8 * n) 8) (n + 1 + j) a pa 56 c 8 pc w1 (H8.out.run q) (HRD.out.below HB1.out) (by omega) HPR.out (by omega) (by omega)) ?_
      rintro e w2 ⟨v2, rfl, hov, hbv⟩
      refine ⟨_, rfl, ?_⟩
      rw [(Sha.run_run hs q _).2] at hov
      rw [(Sha.run_run hs q _).1]
      have hbA : Below wr.heap.size wr w2 := HB1.out.trans (hbv.mono HB1.out.size)
      have HOV := Lib.hid (hov.base (B' := wr.heap.size) HB1.out.size)
      have HQ := Lib.hid (CQ.stored (n := n + 1 + j + 8) H8.out HRS.out HBR.out HBEL.out HSZ.out HOV.out hbA)
      have HRS2 := Lib.hid (HRS.out.below hbA (by have := HSZ.out; omega))
      have HI1 := Lib.hid (rs_info (n := n + 1 + j + 8) (v := v2) (H8.out.run (q ++ Numm.put (8 * n) 8)).1)
      have HO1 := Lib.hid (rs_one HOV.out (Sha.run hs (q ++ Numm.put (8 * n) 8)) (n + 1 + j + 8))
      have HLEN := Lib.hid (show (rsCells (Sha.run hs (q ++ Numm.put (8 * n) 8)) (n + 1 + j + 8) v2).toArray.size = 10 by rw [List.size_toArray]; exact rsCells_len (H8.out.run _).1)
      have HPAD := Lib.hid (show q ++ Numm.put (8 * n) 8 = Sha.padded tail n by rw [padded_zeros, HQE.out, hJ, HRT.out.1])
      have hQ : CQ w hs (q ++ Numm.put (8 * n) 8) (n + 1 + j + 8) (w2.setCells w.heap.size 0 (rsCells (Sha.run hs (q ++ Numm.put (8 * n) 8)) (n + 1 + j + 8) v2).toArray.toList) := by rw [List.toList_toArray]; exact HQ.out
      obtain ⟨C', hC⟩ : ∃ C, C = (rsCells (Sha.run hs (q ++ Numm.put (8 * n) 8)) (n + 1 + j + 8) v2).toArray := ⟨_, rfl⟩
      rw [← hC] at hQ HI1 HO1 HLEN ⊢
      rw [HPAD.out] at hQ
      have HQF := Lib.hid hQ
      clear hQ HQ
      clear hC hov hbv hbA HOV
      simp only [Act.put, List.setIfInBounds_toArray, List.set_cons_zero, List.set_cons_succ]
      refine any_store_mid 4 (ty := 97) (x := .tmp 1) (y := .tmp 24) w.heap.size 0 C' (by kernel_rfl) (by rfl) (by rfl) (by rfl) (by rw [HLEN.out]; exact HRS2.out.there 0 10 (by omega)) HI1.out HO1.out ?_
      refine wpAny_done (by kernel_rfl) ?_ _
      refine gen_exit (F := CQ w hs (Sha.padded tail n) (n + 1 + j + 8)) HQF.out ?_
      intro w3 hw3
      obtain ⟨M, hM⟩ : ∃ M, M = Sha.run hs (Sha.padded tail n) := ⟨_, rfl⟩
      have hM8 : Sha.W8 M := by rw [hM]; exact H8.out.run _
      obtain ⟨a3, c3, hrs3, _, hbr3, hbel3, hsz3⟩ := hw3
      rw [← hM] at hrs3
      have HM := Lib.hid hM
      have HM8 := Lib.hid hM8
      have HRS3 := Lib.hid hrs3
      have HBR3 := Lib.hid hbr3
      have HBEL3 := Lib.hid hbel3
      have HSZ3 := Lib.hid hsz3
      clear hJ hM hM8 hrs3 hbr3 hbel3 hsz3 HQF HPAD HLEN HO1 HI1 HRS2 HB1 HPR HRUN
      obtain ⟨e8, he8⟩ : ∃ e : Int, e = ((8 * n : Nat) : Int) := ⟨_, rfl⟩
      rw [← he8]
      clear he8
      go_wp2_with fail
      have HDA := Lib.hid (show ∀ X : Obj, X = .cells (cellsOf zs32).toArray 31 (0, 0) → DA w w3.heap.size M (n + 1 + j + 8) (.slice a3 (Sha.rest (Sha.padded tail n)).length c3) (Sha.bytesOf (M.take 0)) (w3.alloc X) from fun X hX => by
        have hb : Below w3.heap.size w3 (w3.alloc X) := (Below.refl _ _).alloc (Nat.le_refl _) _
        exact ⟨HRS3.out.below hb HRS3.out.lt, HBR3.out.below hb HBR3.out.lt, by rw [hX]; exact Brow.new _ _ _, HBEL3.out.trans (hb.mono (by have := HSZ3.out; omega)), HSZ3.out⟩)
      go_loopw [5] (fun i wr => ∃ k : Nat, k ≤ 8 ∧ i = .int .i64 k ∧ Hid (DA w w3.heap.size M (n + 1 + j + 8) (.slice a3 (Sha.rest (Sha.padded tail n)).length c3) (Sha.bytesOf (M.take k)) wr)) (fun i _ => 8 - (intOf i).toNat)
      case atStart => exact ⟨0, by omega, rfl, Lib.hid (HDA.out _ rfl)⟩
      case round =>
        clear HDA HRS3 HBR3 HBEL3 HSZ3
        obtain ⟨k, hk, rfl, HD⟩ := hrel
        by_cases hk8 : k < 8
        · obtain ⟨x, hx⟩ : ∃ x, x = M.getD k 0 := ⟨_, rfl⟩
          have hx32 : x < 4294967296 := by rw [hx, getD_at M k (by rw [HM8.out.1]; exact hk8)]; exact HM8.out.2 _ (List.getElem_mem _)
          have hck : wr.cell? ⟨w.heap.size, k, none⟩ = some (.int .u32 (x : Int)) := by
            have := HD.out.1.words k (.int .u32 (x : Int)) (by have := wordsOf_get M k (by rw [HM8.out.1]; exact hk8); rw [← hx] at this; simpa using this)
            rwa [Nat.zero_add] at this
          have hsn := bytesOf_snoc M k (by rw [HM8.out.1]; exact hk8)
          rw [← getD_at M k (by rw [HM8.out.1]; exact hk8), ← hx] at hsn
          have hyl : (Sha.bytesOf (M.take k)).length = 4 * k := by rw [bytesOf_len, List.length_take, HM8.out.1]; omega
          have HSN := Lib.hid hsn
          have HYL := Lib.hid hyl
          clear hx hsn hyl
          go_wp2_with fail
          refine (refPut_in x 4 _ (by omega) (by omega) (by omega)).mono ?_
          rintro en wp ⟨pv, rfl, hop, hbp⟩
          obtain ⟨pa, pl, pc, rfl, hpl, _, hpc, _, _, hop⟩ := hop.form (Numm.put_byte _ _)
          rw [Numm.put_len] at hpl
          subst hpl
          have HD1 := Lib.hid (HD.out.step hbp)
          have HOP := Lib.hid hop
          have HDL := Lib.hid (show w3.heap.size < wr.heap.size from HD.out.2.2.1.lt)
          clear hop hbp HD hck
          obtain ⟨b0, hb0⟩ : ∃ b, b = wr.heap.size := ⟨_, rfl⟩
          rw [← hb0] at HOP HDL
          clear hb0
          go_wp2_with fail
          go_loopw [7] (fun jv wq => ∃ m : Nat, m ≤ 4 ∧ jv = .int .i64 m ∧ Hid (DA w w3.heap.size M (n + 1 + j + 8) (.slice a3 (Sha.rest (Sha.padded tail n)).length c3) (Sha.bytesOf (M.take k) ++ (Numm.put x 4).take m) wq) ∧ Hid (Own wq b0 (.slice pa 4 pc) (Numm.put x 4))) (fun jv _ => 4 - (intOf jv).toNat)
          case atStart => exact ⟨0, by omega, rfl, by rw [List.take_zero, List.append_nil]; exact HD1, HOP⟩
          case round =>
            clear HD1 HOP
            obtain ⟨m, hm, rfl, HDm, HOm⟩ := hrel
            by_cases hm4 : m < 4
            · obtain ⟨e, he⟩ : ∃ e, 4 * k + m = e := ⟨_, rfl⟩
              obtain ⟨z, hz⟩ : ∃ z, z = (Numm.put x 4).getD m 0 := ⟨_, rfl⟩
              obtain ⟨pa', L', pc', h1, h2, _, _, _, hrd, _⟩ := HOm.out.form (Numm.put_byte _ _)
              cases h1
              have htk : (Numm.put x 4).take (m + 1) = (Numm.put x 4).take m ++ [z] := by rw [take_snoc _ _ (by rw [Numm.put_len]; exact hm4), hz, getD_at _ m (by rw [Numm.put_len]; exact hm4)]
              have hyl : (Sha.bytesOf (M.take k) ++ (Numm.put x 4).take m).length = e := by rw [List.length_append, HYL.out, List.length_take, Numm.put_len]; omega
              have hce : wr.cell? ⟨w3.heap.size, e, none⟩ = some (.int .u8 (((Sha.bytesOf (M.take k) ++ (Numm.put x 4).take m ++ List.replicate (32 - (Sha.bytesOf (M.take k) ++ (Numm.put x 4).take m).length) 0).getD e 0 : Nat) : Int)) := HDm.out.2.2.1.cell e (by rw [List.length_append, List.length_replicate, hyl]; omega)
              obtain ⟨o, ho⟩ : ∃ o, o = (Sha.bytesOf (M.take k) ++ (Numm.put x 4).take m ++ List.replicate (32 - (Sha.bytesOf (M.take k) ++ (Numm.put x 4).take m).length) 0).getD e 0 := ⟨_, rfl⟩
              rw [← ho] at hce
              have hfe : wr.frozen? ⟨w3.heap.size, e, none⟩ = false := HDm.out.2.2.1.frozen e
              have hsn := HDm.out.snoc z (by rw [hyl]; omega)
              rw [hyl, List.append_assoc, ← htk] at hsn
              have HSNC := Lib.hid hsn
              have HOO := Lib.hid (HOm.out.only (show Only w3.heap.size wr (wr.setCell ⟨w3.heap.size, e, none⟩ (.int .u8 (z : Int))) from (Only.refl _ _).setCell _ _) HDL.out)
              obtain ⟨_, _, h0 | ⟨pb, po, rfl, _, hc⟩⟩ := hrd
              · omega
              have hcm := hc m hm4
              rw [← hz] at hcm
              clear hz htk hyl ho hsn hc HDm HOm h2
              have hie : 4 * (k : Int) + (m : Int) = (e : Int) := by omega
              have he0 : (0 : Int) ≤ (e : Int) := by omega
              have he1 : (e : Int) < 32 := by omega
              clear he
              go_wp2
              go_roundw
              case rel => exact ⟨m + 1, by omega, by go_num, HSNC, HOO⟩
              case measure => simp [intOf]; omega
            · obtain rfl : m = 4 := by omega
              have HDn : Hid (DA w w3.heap.size M (n + 1 + j + 8) (.slice a3 (Sha.rest (Sha.padded tail n)).length c3) (Sha.bytesOf (M.take (k + 1))) wr) := by
                have := HDm.out
                rw [show (Numm.put x 4).take 4 = Numm.put x 4 from List.take_of_length_le (by rw [Numm.put_len]; omega), ← HSN.out] at this
                exact Lib.hid this
              clear HDm
              go_wp2
              go_roundw
              case rel => exact ⟨k + 1, by omega, by go_num, HDn⟩
              case measure => simp [intOf]; omega
        · obtain rfl : k = 8 := by omega
          obtain ⟨S, hS⟩ : ∃ S, S = Sha.bytesOf M := ⟨_, rfl⟩
          have hrow : wr.heap[w3.heap.size]? = some (.cells (cellsOf S).toArray 31 (0, 0)) := by
            have := HD.out.2.2.1
            rw [List.take_of_length_le (by rw [HM8.out.1]; omega), bytesOf_len, HM8.out.1, ← hS, List.replicate_zero, List.append_nil] at this
            exact this
          have hSl : S.length = 32 := by rw [hS, bytesOf_len, HM8.out.1]
          have HROW := Lib.hid hrow
          have HI := Lib.hid (show (Tryd.prog.info? 31).map (·.size) = some (cellsOf S).toArray.size by rw [cellsOf_size, hSl]; exact info_a32b)
          have HSS := Lib.hid (show (cellsOf zs32).toArray.size = (cellsOf S).toArray.size by rw [cellsOf_size, cellsOf_size, hSl]; rfl)
          have HS := Lib.hid hS
          clear hrow hSl hS
          go_wp2_with (first | (refine wpList_load_row (by rfl) 31 _ (by rfl) w3.heap.size (by rfl) _ (cellsOf S).toArray (0, 0) _ HROW.out Tryd.underlying31 (by rfl) HI.out ?_) | (refine wpList_store_row (by rfl) 31 _ _ (by rfl) (w.heap.size + 1) (cellsOf S).toArray (by rfl) (by rfl) 31 (cellsOf zs32).toArray HD.out.2.1 HI.out HSS.out (cellsOf_all _) ?_))
          refine bodyPost_ret (results_cell_row (by rfl) _ _ (w.heap.size + 1) _ (cellsOf S).toArray (0, 0) _ (by rfl) (setRow_heap _ _ _ _ _ _ HD.out.2.1) Tryd.underlying31 (by rfl) HI.out) ?_ ?_
          · rfl
          · refine ⟨?_, HD.out.2.2.2.1.setRow (by omega) _⟩
            unfold Sha.close
            rw [← HM.out, ← HS.out]
    · have hL56 : ¬ (L : Int) = 56 := by
        intro h
        exact hJ (h56.1 (by omega))
      clear h56
      go_upto_region 4 with fail
      clear hc9
      go_wp2_with (first | (refine wpList_load_row (by rfl) 97 _ (by rfl) w.heap.size (by rfl) _ (rsCells (Sha.run hs q) (n + 1 + j) (.slice a L c)).toArray (0, 0) _ HRS.out.row Tryd.underlying97 (by rfl) (rs_info HRS.out.l8) ?_))
      have HAL := Lib.hid (show Below wr.heap.size wr (wr.alloc (.cells #[.int .u8 ((0 : Nat) : Int)] 5)) from (Below.refl _ _).alloc (Nat.le_refl _) _)
      refine (rwrite_c (Sha.run hs q) (Sha.rest q) [0] (n + 1 + j) a (some ⟨wr.heap.size, 0, none⟩) L c 1 1 _ (H8.out.run q) (HRD.out.below HAL.out) hL64 (rd_one wr 0 (by decide)) (by decide) (by omega)).mono ?_
      rintro en wB ⟨v, rfl, hov, hbv⟩
      rw [(Sha.run_run hs q [0]).2] at hov
      rw [(Sha.run_run hs q [0]).1]
      have hbA : Below wr.heap.size wr wB := HAL.out.trans (hbv.mono HAL.out.size)
      have HOV := Lib.hid (hov.base (B' := wr.heap.size) HAL.out.size)
      have HQ := Lib.hid (CQ.store (n := n + 1 + j + 1) H8.out HRS.out HBR.out HBEL.out HSZ.out HOV.out hbA)
      have HROW := Lib.hid (HRS.out.below hbA (by have := HSZ.out; omega)).row
      have HI1 := Lib.hid (rs_info (n := n + 1 + j + 1) (v := v) (H8.out.run (q ++ [0])).1)
      have HS1 := Lib.hid (rs_size (n := n + 1 + j) (n' := n + 1 + j + 1) (v := .slice a L c) (v' := v) (H8.out.run q).1 (H8.out.run (q ++ [0])).1)
      have HO1 := Lib.hid (rs_one HOV.out (Sha.run hs (q ++ [0])) (n + 1 + j + 1))
      have HN8 := Lib.hid (show (World.setRow wB w.heap.size (rsCells (Sha.run hs (q ++ [0])) (n + 1 + j + 1) v).toArray).cell? ⟨w.heap.size, 8, none⟩ = some (.int .u64 ((n + 1 + j + 1 : Nat) : Int)) from by
        obtain ⟨_, _, h, _⟩ := HQ.out
        exact h.num)
      obtain ⟨C', hC⟩ : ∃ C, C = (rsCells (Sha.run hs (q ++ [0])) (n + 1 + j + 1) v).toArray := ⟨_, rfl⟩
      rw [← hC] at HQ HI1 HS1 HO1 HN8 ⊢
      clear hC hov hbv hbA HAL HOV
      go_wp2_with (first | (refine wpList_store_row (by rfl) 97 _ _ (by rfl) w.heap.size C' (by rfl) (by rfl) 97 (rsCells (Sha.run hs q) (n + 1 + j) (.slice a L c)).toArray HROW.out HI1.out HS1.out HO1.out ?_))
      have HQ2 : Hid (CQ w hs (tail ++ [128] ++ List.replicate (j + 1) 0) (n + 1 + (j + 1)) (wB.setRow w.heap.size C')) := by
        rw [List.replicate_succ', ← List.append_assoc, ← HQE.out]
        exact HQ
      clear HROW HI1 HS1 HO1
      simp only [Act.put]
      go_roundw
      case rel => exact ⟨j + 1, by omega, HQ2⟩
      case measure =>
        rw [HC8.out, HN8.out]
        simp [intOf]; omega
end Go.Proofs.YtlnblfdddellmaaDoor
namespace Go.Proofs.YtlnblfdddellmaaDoor
open Go.RowKit
set_option linter.unusedVariables false
set_option maxRecDepth 100000 in
set_option maxHeartbeats 1000000 in
theorem rsum_c (zs : List Nat) (a : Option Addr) (len cap : Nat) (w : World) (hr : Rd w a len zs) (hlen : len ≤ 140737488355327) :
    Calls Tryd.prog 36 #[.slice a len cap] w (DigRet (Sha.sum zs) w) := by
  have HR := Lib.hid hr
  have hzl := hr.1
  clear hr
  obtain ⟨S, hS⟩ : ∃ S, S = Sha.sum zs := ⟨_, rfl⟩
  have HS := Lib.hid hS
  have hSl : S.length = 32 := by rw [hS]; exact sum_len zs
  rw [← hS]
  have HI := Lib.hid (show (Tryd.prog.info? 31).map (·.size) = some (cellsOf S).toArray.size by rw [cellsOf_size, hSl]; exact info_a32b)
  have HSS := Lib.hid (show (cellsOf zs32).toArray.size = (cellsOf S).toArray.size by rw [cellsOf_size, cellsOf_size, hSl]; rfl)
  clear hS hSl
  go_enter Tryd.func36, Tryd.ntmps36
  go_wp2_with fail
  refine (rnew_c _).mono ?_
  rintro en w1 ⟨v, rfl, ho1, hb1⟩
  have HB0 := Lib.hid (show Brow w1 w.heap.size 31 zs32 from (hb1.block _ (by simp)).trans (heap_new _ _))
  have HB1 := Lib.hid (show Below w.heap.size w w1 from Below.trans ((Below.refl _ _).alloc (Nat.le_refl _) _) (hb1.mono (by simp)))
  obtain ⟨ta, tl, tc, rfl, htl, _, _, _, hrd, _⟩ := ho1.form (by simp)
  obtain rfl : tl = 0 := htl.symm
  clear ho1 hb1
  go_wp2_with fail
  refine (rwrite_c Sha.H0 [] zs 0 ta a 0 tc len cap w1 Sha.W8.H0 hrd (by omega) (HR.out.below HB1.out) (by omega) (by omega)).mono ?_
  rintro en w2 ⟨v2, rfl, ho2, hb2⟩
  rw [List.nil_append] at *
  obtain ⟨ta2, tl2, tc2, rfl, htl2, _, _, _, hrd2, _⟩ := ho2.form (fun z hz => HR.out.2.1 z (List.mem_of_mem_drop hz))
  have HB2 := Lib.hid (HB0.out.below hb2 HB0.out.lt)
  have HBB2 := Lib.hid (HB1.out.trans (hb2.mono HB1.out.size))
  have htl3 : tl2 < 64 := by rw [← htl2, Sha.rest_len]; omega
  clear ho2 hb2
  go_wp2_with fail
  refine (rclose_c (Sha.run Sha.H0 zs) (Sha.rest zs) len ta2 tl2 tc2 w2 (Sha.W8.H0.run zs) hrd2 htl3 (by omega)).mono ?_
  rintro en w3 ⟨rfl, hb3⟩
  have hsum : Sha.close (Sha.run Sha.H0 zs) (Sha.rest zs) len = S := by rw [HS.out, ← hzl]; rfl
  rw [hsum]
  have HB3 := Lib.hid (HB2.out.below hb3 HB2.out.lt)
  have HBB3 := Lib.hid (HBB2.out.trans (hb3.mono HBB2.out.size))
  clear hb3 hsum
  go_wp2_with (first | (refine wpList_store_row (by rfl) 31 _ _ (by rfl) w.heap.size (cellsOf S).toArray (by rfl) (by rfl) 31 (cellsOf zs32).toArray HB3.out HI.out HSS.out (cellsOf_all _) ?_))
  refine bodyPost_ret (results_cell_row (by rfl) _ _ w.heap.size _ (cellsOf S).toArray (0, 0) _ (by rfl) (setRow_heap _ _ _ _ _ _ HB3.out) Tryd.underlying31 (by rfl) HI.out) ?_ ?_
  · rfl
  · exact ⟨rfl, HBB3.out.setRow (Nat.le_refl _) _⟩
end Go.Proofs.YtlnblfdddellmaaDoor
