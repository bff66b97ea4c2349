/-
  The walk over the document's Block.
-/
import Derived.Test.YthnfbdmkdpokcaaDoorRkt
namespace Go.Proofs.YthnfbdmkdpokcaaDoor
open Go.RowKit
set_option linter.unusedVariables false

def BAt (B G : Nat) (w : World) (hs bs : List Nat) (k : Nat) (wr : World) : Prop :=
  Wrow wr B 95 hs ∧ Wrow wr (B + 1) 95 zs8 ∧ Wrow wr G 110 Sha.K ∧ Wrow wr (G + 1) 110 (Sha.sch bs k ++ List.replicate (64 - k) 0) ∧ Below B w wr
theorem BAt.next {B G : Nat} {w wr : World} {hs bs : List Nat} {k z : Nat} (h : BAt B G w hs bs k wr) (hG : B + 2 ≤ G) (hk : k < 64) (hz : z = if k < 16 then Sha.wd bs k else Sha.nxt (Sha.sch bs k) k) :
    BAt B G w hs bs (k + 1) (wr.setCell ⟨G + 1, k, none⟩ (.int .u32 (z : Int))) := by
  obtain ⟨h1, h2, h0, h3, h4⟩ := h
  refine ⟨?_, ?_, ?_, ?_, h4.setCell (by simp; omega) _⟩
  · unfold Wrow; rw [heap_setCell_other _ _ _ _ (by simp; omega)]; exact h1
  · unfold Wrow; rw [heap_setCell_other _ _ _ _ (by simp; omega)]; exact h2
  · unfold Wrow; rw [heap_setCell_other _ _ _ _ (by simp)]; exact h0
  · have h := h3.set k z
    have hl := Sha.sch_len bs k
    rw [List.set_append_right _ _ (by omega), hl, Nat.sub_self, show 64 - k = (64 - (k + 1)) + 1 by omega, List.replicate_succ, List.set_cons_zero] at h
    rw [Sha.sch, ← hz, List.append_assoc]
    exact h
theorem BAt.get {B G : Nat} {w wr : World} {hs bs : List Nat} {k : Nat} (h : BAt B G w hs bs k wr) (j : Nat) (hj : j < k) (hk : k ≤ 64) : wr.cell? ⟨G + 1, j, none⟩ = some (.int .u32 (((Sha.sch bs k).getD j 0 : Nat) : Int)) := by
  have hl := Sha.sch_len bs k
  rw [h.2.2.2.1.cell j (by simp; omega)]
  congr 3
  simp only [List.getD_eq_getElem?_getD]
  rw [List.getElem?_append_left (by omega)]
theorem BAt.old {B G : Nat} {w wr : World} {hs bs : List Nat} {k : Nat} (h : BAt B G w hs bs k wr) (j : Nat) (hj : j < 64) : ∃ o : Nat, wr.cell? ⟨G + 1, j, none⟩ = some (.int .u32 (o : Int)) ∧ wr.frozen? ⟨G + 1, j, none⟩ = false := by
  have hl := Sha.sch_len bs k
  exact ⟨_, h.2.2.2.1.cell j (by simp; omega), h.2.2.2.1.frozen j⟩
theorem BAt.drewN {B G : Nat} {w wr : World} {hs bs : List Nat} {k : Nat} (h : BAt B G w hs bs k wr) (n : Nat) : BAt B G w hs bs k (wr.drewN n) := ⟨h.1, h.2.1, h.2.2.1, h.2.2.2.1, h.2.2.2.2.trans (below_drewN' _ _ _)⟩
theorem BAt.drew {B G : Nat} {w wr : World} {hs bs : List Nat} {k : Nat} (h : BAt B G w hs bs k wr) : BAt B G w hs bs k wr.drew := ⟨h.1, h.2.1, h.2.2.1, h.2.2.2.1, h.2.2.2.2.drew⟩
theorem turnq (x n : Nat) (W : World) (hx : x < 4294967296) (h1 : 1 ≤ n) (h2 : n < 32) :
    Calls Tryd.prog 79 #[.int .u32 (x : Int), .int .u64 (n : Int)] W fun e w' => e = .returned (.int .u32 ((Rotm.rot x n : Nat) : Int)) ∧ w' = W := turn_c x n W hx h1 h2
theorem turnn (x n : Nat) (W : World) (hx : x < 4294967296) (h1 : 1 ≤ n) (h2 : n < 32) :
    Calls Tryd.prog 79 #[.int .u32 (x : Int), .int .u64 (n : Int)] W fun e w' => e = .returned (.int .u32 ((Rotm.rot x n : Nat) : Int)) ∧ W = w' :=
  (turn_c x n W hx h1 h2).mono fun _ _ h => ⟨h.1, h.2.symm⟩
theorem ch_int' (e f g : Nat) (he : e < 4294967296) (hf : f < 4294967296) (hg : g < 4294967296) :
    bits .xor .u32 (bits .and .u32 (e : Int) (f : Int)) (bits .and .u32 (4294967295 - (e : Int)) (g : Int)) = ((Sha.ch e f g : Nat) : Int) := by
  rw [show (4294967295 : Int) - (e : Int) = ((4294967295 - e : Nat) : Int) by omega, u32_and_nat _ _ he hf, u32_and_nat _ _ (by omega) hg, u32_xor_nat _ _ (and_lt32 hf) (and_lt32 hg)]
  rfl
set_option maxRecDepth 100000 in
set_option maxHeartbeats 3200000 in
theorem block_c (hs bs : List Nat) (b off cap : Nat) (w : World) (hh : hs.length = 8) (hhs : ∀ z ∈ hs, z < 4294967296) (hr : Rd w (some ⟨b, off, none⟩) 64 bs) :
    Calls Tryd.prog 75 #[.agg (wordsOf hs).toArray, .slice (some ⟨b, off, none⟩) 64 cap] w fun e w' => e = .returned (.agg (wordsOf (Sha.mix hs bs)).toArray) ∧ Below w.heap.size w w' := by
  go_enter Tryd.func75, Tryd.ntmps75
  go_wp2_with fail
  refine (K_c _).mono ?_
  rintro en w3 ⟨rfl, hb3⟩
  have hv3 : Wrow w3 w.heap.size 95 hs := (hb3.block _ (by simp <;> omega)).trans (heap_new2 _ _ _).1
  have hr3 : Wrow w3 (w.heap.size + 1) 95 zs8 := (hb3.block _ (by simp <;> omega)).trans (heap_new2 _ _ _).2
  have hB3 : Below w.heap.size w w3 := Below.trans (((Below.refl _ _).alloc (by omega) _).alloc (by simp) _) (hb3.mono (by simp; omega))
  have hs3 : w.heap.size + 2 ≤ w3.heap.size := by have := hb3.size; simp at this; omega
  clear hb3
  obtain ⟨A, hA⟩ : ∃ A, A = (wordsOf Sha.K).toArray := ⟨_, rfl⟩
  have hone : A.all (·.oneCell') = true := by rw [hA]; exact wordsOf_one _
  have hinfo : (Tryd.prog.info? 110).map (·.size) = some A.size := by rw [hA]; exact info_w64'
  have ho : (wordsOf zw64).toArray.size = A.size := by rw [hA]; rfl
  rw [← hA]
  have HN := Lib.hid (show ∀ X : Obj, (w3.alloc X).heap[w3.heap.size]? = some X from fun X => heap_new w3 X)
  have HST := Lib.hid (show ∀ X Y : Obj, X = .cells (wordsOf zw64).toArray 110 (0, 0) → Y = .cells (wordsOf (List.replicate 64 0)).toArray 110 (0, 0) → BAt w.heap.size w3.heap.size w hs bs 0 (((w3.alloc X).setRow w3.heap.size A).alloc Y) from by
    intro X Y hX hY
    have h1 : Below w3.heap.size w3 ((w3.alloc X).setRow w3.heap.size A) := ((Below.refl _ _).alloc (Nat.le_refl _) _).setRow (Nat.le_refl _) _
    have h2 : Below w3.heap.size w3 (((w3.alloc X).setRow w3.heap.size A).alloc Y) := h1.alloc (by simp) _
    refine ⟨hv3.below h2 (by omega), hr3.below h2 (by omega), ?_, ?_, hB3.trans (h2.mono (by omega))⟩
    · unfold Wrow
      rw [Below.heap_alloc _ _ _ (by simp), ← hA]
      exact setRow_heap _ _ _ _ _ _ (by rw [hX]; exact heap_new _ _)
    · unfold Wrow
      rw [show w3.heap.size + 1 = ((w3.alloc X).setRow w3.heap.size A).heap.size by simp, heap_new, hY]
      rfl)
  clear hv3 hr3 hB3 hA
  have HS3 := Lib.hid hs3
  have HONE := Lib.hid hone
  have HINFO := Lib.hid hinfo
  have HO := Lib.hid ho
  have HRD := Lib.hid hr
  have HHS := Lib.hid hhs
  clear hs3 hone hinfo ho hr hhs
  go_wp2_with (first | (refine wpList_store_row (by rfl) 110 _ _ (by rfl) w3.heap.size A (by rfl) (by rfl) 110 (wordsOf zw64).toArray (by exact HN.out _) HINFO.out HO.out HONE.out ?_))
  go_loopw [7] (fun i wr => ∃ k : Nat, k ≤ 64 ∧ i = .int .i64 k ∧ Hid (BAt w.heap.size w3.heap.size w hs bs k wr)) (fun i _ => 64 - (intOf i).toNat)
  case atStart => exact ⟨0, by omega, rfl, Lib.hid (HST.out _ _ rfl rfl)⟩
  case round =>
    clear HN HST HONE HINFO HO
    obtain ⟨k, hk, rfl, HB⟩ := hrel
    by_cases hk64 : k < 64
    · by_cases hk16 : k < 16
      · obtain ⟨j, hj⟩ : ∃ j, 4 * k = j := ⟨_, rfl⟩
        obtain ⟨j1, hj1⟩ : ∃ j1, j + 1 = j1 := ⟨_, rfl⟩
        obtain ⟨j2, hj2⟩ : ∃ j2, j + 2 = j2 := ⟨_, rfl⟩
        obtain ⟨j3, hj3⟩ : ∃ j3, j + 3 = j3 := ⟨_, rfl⟩
        have hcell : ∀ i, i < 64 → wr.cell? ⟨b, off + i, none⟩ = some (.int .u8 ((bs.getD i 0 : Nat) : Int)) := by
          rcases (HRD.out.below HB.out.2.2.2.2).2.2 with h | ⟨b', o', hbo, _, hc⟩
          · omega
          · cases hbo; exact hc
        have hbb : ∀ i, i < 64 → bs.getD i 0 < 256 := fun i hi => by rw [getD_at bs i (by rw [HRD.out.1]; omega)]; exact HRD.out.2.1 _ (List.getElem_mem _)
        have hwd : Sha.wd bs k = Numm.num 0 [bs.getD j 0, bs.getD j1 0, bs.getD j2 0, bs.getD j3 0] := by unfold Sha.wd; rw [hj, hj1, hj2, hj3]
        have b0 := hbb j (by omega)
        have c0 := hcell j (by omega)
        obtain ⟨x0, e0⟩ : ∃ x, bs.getD j 0 = x := ⟨_, rfl⟩
        rw [e0] at b0 c0 hwd
        have b1 := hbb j1 (by omega)
        have c1 := hcell j1 (by omega)
        obtain ⟨x1, e1⟩ : ∃ x, bs.getD j1 0 = x := ⟨_, rfl⟩
        rw [e1] at b1 c1 hwd
        have b2 := hbb j2 (by omega)
        have c2 := hcell j2 (by omega)
        obtain ⟨x2, e2⟩ : ∃ x, bs.getD j2 0 = x := ⟨_, rfl⟩
        rw [e2] at b2 c2 hwd
        have b3 := hbb j3 (by omega)
        have c3 := hcell j3 (by omega)
        obtain ⟨x3, e3⟩ : ∃ x, bs.getD j3 0 = x := ⟨_, rfl⟩
        rw [e3] at b3 c3 hwd
        have hwd2 : Sha.wd bs k = x0 * 16777216 + x1 * 65536 + x2 * 256 + x3 := by rw [hwd]; simp [Numm.num]; omega
        have HWD := Lib.hid hwd2
        clear e0 e1 e2 e3 hcell hbb hwd hwd2
        obtain ⟨o, ho, hf⟩ := HB.out.old k (by omega)
        have HNX := Lib.hid (show ∀ E : Int, E = ((Sha.wd bs k : Nat) : Int) → BAt w.heap.size w3.heap.size w hs bs (k + 1) (wr.setCell ⟨w3.heap.size + 1, k, none⟩ (.int .u32 E)) from fun E hE => by
          rw [hE]; exact HB.out.next HS3.out hk64 (by rw [if_pos hk16]))
        have hi0 : 4 * (k : Int) = (j : Int) := by omega
        have hi1 : (j : Int) + 1 = (j1 : Int) := by omega
        have hi2 : (j : Int) + 2 = (j2 : Int) := by omega
        have hi3 : (j : Int) + 3 = (j3 : Int) := by omega
        have p0 : (0 : Int) ≤ (j : Int) := by omega
        have q0 : (j : Int) < 64 := by omega
        have r0 : IntKind.i64.wrap (j : Int) = (j : Int) := IntWalk.i64_in _ (by omega)
        have p1 : (0 : Int) ≤ (j1 : Int) := by omega
        have q1 : (j1 : Int) < 64 := by omega
        have r1 : IntKind.i64.wrap (j1 : Int) = (j1 : Int) := IntWalk.i64_in _ (by omega)
        have p2 : (0 : Int) ≤ (j2 : Int) := by omega
        have q2 : (j2 : Int) < 64 := by omega
        have r2 : IntKind.i64.wrap (j2 : Int) = (j2 : Int) := IntWalk.i64_in _ (by omega)
        have p3 : (0 : Int) ≤ (j3 : Int) := by omega
        have q3 : (j3 : Int) < 64 := by omega
        have r3 : IntKind.i64.wrap (j3 : Int) = (j3 : Int) := IntWalk.i64_in _ (by omega)
        have p4 : (0 : Int) ≤ (k : Int) := by omega
        have q4 : (k : Int) < 64 := by omega
        have r4 : IntKind.i64.wrap (k : Int) = (k : Int) := IntWalk.i64_in _ (by omega)
        clear hj hj1 hj2 hj3
        go_wp2
        go_still_tail 34, (by kernel_rfl)
        go_wp2
        refine ⟨?rel, ?measure⟩
        case rel =>
          refine ⟨k + 1, by omega, by go_num, ?_⟩
          exact Lib.hid (HNX.out _ (by rw [HWD.out]; omega)).drew
        case measure => simp [intOf]; omega
      · obtain ⟨j15, hj15⟩ : ∃ j, k - 15 = j := ⟨_, rfl⟩
        obtain ⟨j2, hj2⟩ : ∃ j, k - 2 = j := ⟨_, rfl⟩
        obtain ⟨j16, hj16⟩ : ∃ j, k - 16 = j := ⟨_, rfl⟩
        obtain ⟨j7, hj7⟩ : ∃ j, k - 7 = j := ⟨_, rfl⟩
        have c15 := HB.out.get j15 (by omega) hk
        have c2 := HB.out.get j2 (by omega) hk
        have c16 := HB.out.get j16 (by omega) hk
        have c7 := HB.out.get j7 (by omega) hk
        have hnx := Sha.sch_lt bs (fun i => by rw [List.getD_eq_getElem?_getD]; cases h : bs[i]? with | none => simp | some z => simpa using HRD.out.2.1 z (List.mem_of_getElem? h)) k
        obtain ⟨x, hx⟩ : ∃ x, x = (Sha.sch bs k).getD j15 0 := ⟨_, rfl⟩
        obtain ⟨y, hy⟩ : ∃ y, y = (Sha.sch bs k).getD j2 0 := ⟨_, rfl⟩
        obtain ⟨v16, hv16⟩ : ∃ z, z = (Sha.sch bs k).getD j16 0 := ⟨_, rfl⟩
        obtain ⟨v7, hv7⟩ : ∃ z, z = (Sha.sch bs k).getD j7 0 := ⟨_, rfl⟩
        have hx32 : x < 4294967296 := by rw [hx, getD_at _ _ (by rw [Sha.sch_len]; omega)]; exact hnx _ (List.getElem_mem _)
        have hy32 : y < 4294967296 := by rw [hy, getD_at _ _ (by rw [Sha.sch_len]; omega)]; exact hnx _ (List.getElem_mem _)
        rw [← hx] at c15
        rw [← hy] at c2
        rw [← hv16] at c16
        rw [← hv7] at c7
        have e : Sha.nxt (Sha.sch bs k) k = Sha.add (Sha.add (Sha.add v16 (Sha.sig0 x)) v7) (Sha.sig1 y) := by
          unfold Sha.nxt
          rw [hj16, hj7, hj15, hj2, ← hv16, ← hv7, ← hx, ← hy]
        have T7 := Lib.hid (fun W => turnq x 7 W hx32 (by omega) (by omega))
        have T18 := Lib.hid (fun W => turnq x 18 W hx32 (by omega) (by omega))
        have T17 := Lib.hid (fun W => turnq y 17 W hy32 (by omega) (by omega))
        have T19 := Lib.hid (fun W => turnq y 19 W hy32 (by omega) (by omega))
        have S0 := Lib.hid (sig0_int x hx32)
        have S1 := Lib.hid (sig1_int y hy32)
        obtain ⟨o, ho, hf⟩ := HB.out.old k (by omega)
        have HNX := Lib.hid (show ∀ (q : Nat) (E : Int), E = ((Sha.nxt (Sha.sch bs k) k : Nat) : Int) → BAt w.heap.size w3.heap.size w hs bs (k + 1) ((wr.drewN q).setCell ⟨w3.heap.size + 1, k, none⟩ (.int .u32 E)) from fun q E hE => by
          rw [hE]; exact (HB.out.drewN q).next HS3.out hk64 (by rw [if_neg hk16]))
        rw [e] at HNX
        clear hx hy hv16 hv7 hnx e
        have i15 : (k : Int) - 15 = (j15 : Int) := by omega
        have i2 : (k : Int) - 2 = (j2 : Int) := by omega
        have i16 : (k : Int) - 16 = (j16 : Int) := by omega
        have i7 : (k : Int) - 7 = (j7 : Int) := by omega
        have p0 : (0 : Int) ≤ (j15 : Int) := by omega
        have q0 : (j15 : Int) < 64 := by omega
        have r0 : IntKind.i64.wrap (j15 : Int) = (j15 : Int) := IntWalk.i64_in _ (by omega)
        have p1 : (0 : Int) ≤ (j2 : Int) := by omega
        have q1 : (j2 : Int) < 64 := by omega
        have r1 : IntKind.i64.wrap (j2 : Int) = (j2 : Int) := IntWalk.i64_in _ (by omega)
        have p2 : (0 : Int) ≤ (j16 : Int) := by omega
        have q2 : (j16 : Int) < 64 := by omega
        have r2 : IntKind.i64.wrap (j16 : Int) = (j16 : Int) := IntWalk.i64_in _ (by omega)
        have p3 : (0 : Int) ≤ (j7 : Int) := by omega
        have q3 : (j7 : Int) < 64 := by omega
        have r3 : IntKind.i64.wrap (j7 : Int) = (j7 : Int) := IntWalk.i64_in _ (by omega)
        have p4 : (0 : Int) ≤ (k : Int) := by omega
        have q4 : (k : Int) < 64 := by omega
        have r4 : IntKind.i64.wrap (k : Int) = (k : Int) := IntWalk.i64_in _ (by omega)
        clear hj15 hj2 hj16 hj7
        have c15' : ∀ q, (wr.drewN q).cell? ⟨w3.heap.size + 1, j15, none⟩ = some (.int .u32 (x : Int)) := fun q => c15
        have c2' : ∀ q, (wr.drewN q).cell? ⟨w3.heap.size + 1, j2, none⟩ = some (.int .u32 (y : Int)) := fun q => c2
        have c16' : ∀ q, (wr.drewN q).cell? ⟨w3.heap.size + 1, j16, none⟩ = some (.int .u32 (v16 : Int)) := fun q => c16
        have c7' : ∀ q, (wr.drewN q).cell? ⟨w3.heap.size + 1, j7, none⟩ = some (.int .u32 (v7 : Int)) := fun q => c7
        have ho' : ∀ q, (wr.drewN q).cell? ⟨w3.heap.size + 1, k, none⟩ = some (.int .u32 (o : Int)) := fun q => ho
        have hf' : ∀ q, (wr.drewN q).frozen? ⟨w3.heap.size + 1, k, none⟩ = false := fun q => hf
        clear c16 c7 ho hf
        go_upto_region 8 with fail
        go_quiet ((go_at_call 79; first | with_reducible exact Calls.quiet_of_same (T7.out _) | with_reducible exact Calls.quiet_of_same (T18.out _)))
        with_reducible rw [S0.out]
        obtain ⟨s0, hs0⟩ : ∃ z, z = Sha.sig0 x := ⟨_, rfl⟩
        rw [← hs0] at HNX ⊢
        obtain ⟨wr1, hwr1⟩ : ∃ z, z = wr.drewN nq := ⟨_, rfl⟩
        have HNX1 := Lib.hid (show ∀ (q : Nat) (E : Int), E = ((Sha.add (Sha.add (Sha.add v16 s0) v7) (Sha.sig1 y) : Nat) : Int) → BAt w.heap.size w3.heap.size w hs bs (k + 1) ((wr1.drewN q).setCell ⟨w3.heap.size + 1, k, none⟩ (.int .u32 E)) from fun q E hE => by
          rw [hwr1, drewN_add]; exact HNX.out _ E hE)
        have c2 : wr1.cell? ⟨w3.heap.size + 1, j2, none⟩ = some (.int .u32 (y : Int)) := by rw [hwr1]; exact c2' nq
        have c2a : ∀ q, (wr1.drewN q).cell? ⟨w3.heap.size + 1, j2, none⟩ = some (.int .u32 (y : Int)) := fun q => c2
        have c16 : ∀ q, (wr1.drewN q).cell? ⟨w3.heap.size + 1, j16, none⟩ = some (.int .u32 (v16 : Int)) := fun q => by rw [hwr1]; exact c16' nq
        have c7 : ∀ q, (wr1.drewN q).cell? ⟨w3.heap.size + 1, j7, none⟩ = some (.int .u32 (v7 : Int)) := fun q => by rw [hwr1]; exact c7' nq
        have ho : ∀ q, (wr1.drewN q).cell? ⟨w3.heap.size + 1, k, none⟩ = some (.int .u32 (o : Int)) := fun q => by rw [hwr1]; exact ho' nq
        have hf : ∀ q, (wr1.drewN q).frozen? ⟨w3.heap.size + 1, k, none⟩ = false := fun q => by rw [hwr1]; exact hf' nq
        rw [← hwr1]
        have H0 := Lib.hid hs0
        clear hwr1 hs0 HNX c15 c15' c2' c16' c7' ho' hf' T7 T18 S0
        go_upto_region 9 with fail
        go_quiet ((go_at_call 79; first | with_reducible exact Calls.quiet_of_same (T17.out _) | with_reducible exact Calls.quiet_of_same (T19.out _)))
        with_reducible rw [S1.out]
        obtain ⟨s1, hs1⟩ : ∃ z, z = Sha.sig1 y := ⟨_, rfl⟩
        rw [← hs1] at HNX1 ⊢
        obtain ⟨wr2, hwr2⟩ : ∃ z, z = wr1.drewN nq := ⟨_, rfl⟩
        have HNX2 := Lib.hid (show ∀ (E : Int), E = ((Sha.add (Sha.add (Sha.add v16 s0) v7) s1 : Nat) : Int) → BAt w.heap.size w3.heap.size w hs bs (k + 1) (wr2.setCell ⟨w3.heap.size + 1, k, none⟩ (.int .u32 E)) from fun E hE => by
          rw [hwr2]; exact HNX1.out _ E hE)
        have d16 : wr2.cell? ⟨w3.heap.size + 1, j16, none⟩ = some (.int .u32 (v16 : Int)) := by rw [hwr2]; exact c16 nq
        have d7 : wr2.cell? ⟨w3.heap.size + 1, j7, none⟩ = some (.int .u32 (v7 : Int)) := by rw [hwr2]; exact c7 nq
        have dho : wr2.cell? ⟨w3.heap.size + 1, k, none⟩ = some (.int .u32 (o : Int)) := by rw [hwr2]; exact ho nq
        have dhf : wr2.frozen? ⟨w3.heap.size + 1, k, none⟩ = false := by rw [hwr2]; exact hf nq
        rw [← hwr2]
        have H1 := Lib.hid hs1
        clear hwr2 hs1 HNX1 c2 c2a c16 c7 ho hf T17 T19 S1
        go_upto_region 10 with fail
        go_still_tail 14, (by kernel_rfl)
        go_wp2
        refine ⟨?rel, ?measure⟩
        case rel =>
          refine ⟨k + 1, by omega, by go_num, ?_⟩
          exact Lib.hid (HNX2.out _ (by unfold Sha.add; omega)).drew
        case measure => simp [intOf]; omega
    · obtain rfl : k = 64 := by omega
      obtain ⟨x0, x1, x2, x3, x4, x5, x6, x7, rfl⟩ : ∃ x0 x1 x2 x3 x4 x5 x6 x7, hs = [x0, x1, x2, x3, x4, x5, x6, x7] := by
        match hs, hh with
        | [x0, x1, x2, x3, x4, x5, x6, x7], _ => exact ⟨_, _, _, _, _, _, _, _, rfl⟩
      have hok0 : (Sha.r8 [x0, x1, x2, x3, x4, x5, x6, x7]).ok := ⟨HHS.out x0 (by simp), HHS.out x1 (by simp), HHS.out x2 (by simp), HHS.out x3 (by simp), HHS.out x4 (by simp), HHS.out x5 (by simp), HHS.out x6 (by simp), HHS.out x7 (by simp)⟩
      have HOK := Lib.hid hok0
      clear hok0 HHS hh HRD hk hk64
      have e0 : wr.cell? ⟨w.heap.size, 0, none⟩ = some (.int .u32 (x0 : Int)) := HB.out.1.cell 0 (by simp)
      have e1 : wr.cell? ⟨w.heap.size, 1, none⟩ = some (.int .u32 (x1 : Int)) := HB.out.1.cell 1 (by simp)
      have e2 : wr.cell? ⟨w.heap.size, 2, none⟩ = some (.int .u32 (x2 : Int)) := HB.out.1.cell 2 (by simp)
      have e3 : wr.cell? ⟨w.heap.size, 3, none⟩ = some (.int .u32 (x3 : Int)) := HB.out.1.cell 3 (by simp)
      have e4 : wr.cell? ⟨w.heap.size, 4, none⟩ = some (.int .u32 (x4 : Int)) := HB.out.1.cell 4 (by simp)
      have e5 : wr.cell? ⟨w.heap.size, 5, none⟩ = some (.int .u32 (x5 : Int)) := HB.out.1.cell 5 (by simp)
      have e6 : wr.cell? ⟨w.heap.size, 6, none⟩ = some (.int .u32 (x6 : Int)) := HB.out.1.cell 6 (by simp)
      have e7 : wr.cell? ⟨w.heap.size, 7, none⟩ = some (.int .u32 (x7 : Int)) := HB.out.1.cell 7 (by simp)
      have e0' : ∀ q, (wr.drewN q).cell? ⟨w.heap.size, 0, none⟩ = some (.int .u32 (x0 : Int)) := fun q => e0
      have e1' : ∀ q, (wr.drewN q).cell? ⟨w.heap.size, 1, none⟩ = some (.int .u32 (x1 : Int)) := fun q => e1
      have e2' : ∀ q, (wr.drewN q).cell? ⟨w.heap.size, 2, none⟩ = some (.int .u32 (x2 : Int)) := fun q => e2
      have e3' : ∀ q, (wr.drewN q).cell? ⟨w.heap.size, 3, none⟩ = some (.int .u32 (x3 : Int)) := fun q => e3
      go_upto_region 11 with fail
      go_quiet (fail)
      clear e0 e1 e2 e3 e0' e1' e2' e3'
      obtain ⟨wr1, hwr1⟩ : ∃ z, z = wr.drewN nq := ⟨_, rfl⟩
      rw [← hwr1]
      have f4 : wr1.cell? ⟨w.heap.size, 4, none⟩ = some (.int .u32 (x4 : Int)) := by rw [hwr1]; exact e4
      have f5 : wr1.cell? ⟨w.heap.size, 5, none⟩ = some (.int .u32 (x5 : Int)) := by rw [hwr1]; exact e5
      have f6 : wr1.cell? ⟨w.heap.size, 6, none⟩ = some (.int .u32 (x6 : Int)) := by rw [hwr1]; exact e6
      have f7 : wr1.cell? ⟨w.heap.size, 7, none⟩ = some (.int .u32 (x7 : Int)) := by rw [hwr1]; exact e7
      have f4' : ∀ q, (wr1.drewN q).cell? ⟨w.heap.size, 4, none⟩ = some (.int .u32 (x4 : Int)) := fun q => f4
      have f5' : ∀ q, (wr1.drewN q).cell? ⟨w.heap.size, 5, none⟩ = some (.int .u32 (x5 : Int)) := fun q => f5
      have f6' : ∀ q, (wr1.drewN q).cell? ⟨w.heap.size, 6, none⟩ = some (.int .u32 (x6 : Int)) := fun q => f6
      have f7' : ∀ q, (wr1.drewN q).cell? ⟨w.heap.size, 7, none⟩ = some (.int .u32 (x7 : Int)) := fun q => f7
      have HB1 := Lib.hid (show BAt w.heap.size w3.heap.size w [x0, x1, x2, x3, x4, x5, x6, x7] bs 64 wr1 by rw [hwr1]; exact HB.out.drewN _)
      clear e4 e5 e6 e7 hwr1 HB
      go_upto_region 12 with fail
      go_quiet (fail)
      clear f4 f5 f6 f7 f4' f5' f6' f7'
      obtain ⟨w2, hw2⟩ : ∃ z, z = wr1.drewN nq := ⟨_, rfl⟩
      rw [← hw2]
      have HB2 := Lib.hid (show BAt w.heap.size w3.heap.size w [x0, x1, x2, x3, x4, x5, x6, x7] bs 64 w2 by rw [hw2]; exact HB1.out.drewN _)
      clear hw2 HB1
      obtain ⟨ws, hws⟩ : ∃ ws, ws = Sha.sch bs 64 := ⟨_, rfl⟩
      have HROW := Lib.hid (show Wrow w2 (w3.heap.size + 1) 110 ws by
        have := HB2.out.2.2.2.1
        rw [Nat.sub_self, List.replicate_zero, List.append_nil] at this
        rw [hws]; exact this)
      have HWL := Lib.hid (show ws.length = 64 by rw [hws]; exact Sha.sch_len bs 64)
      have HWS := Lib.hid hws
      clear hws
      go_wp2_with fail
      go_loopw [10, 11, 12, 13, 14, 15, 16, 17, 18] (fun va vb vc vd ve vf vg vh i wr => ∃ (k : Nat) (r : Sha.R8), k ≤ 64 ∧ i = .int .i64 k ∧ va = .int .u32 (r.a : Int) ∧ vb = .int .u32 (r.b : Int) ∧ vc = .int .u32 (r.c : Int) ∧ vd = .int .u32 (r.d : Int) ∧ ve = .int .u32 (r.e : Int) ∧ vf = .int .u32 (r.f : Int) ∧ vg = .int .u32 (r.g : Int) ∧ vh = .int .u32 (r.h : Int) ∧ r = Sha.rnds (Sha.r8 [x0, x1, x2, x3, x4, x5, x6, x7]) ws k ∧ Hid (∃ q, wr = w2.drewN q)) (fun _ _ _ _ _ _ _ _ i _ => 64 - (intOf i).toNat)
      case atStart => exact ⟨0, _, by omega, rfl, rfl, rfl, rfl, rfl, rfl, rfl, rfl, rfl, rfl, Lib.hid ⟨0, rfl⟩⟩
      case round =>
        obtain ⟨k, r, hk, rfl, rfl, rfl, rfl, rfl, rfl, rfl, rfl, rfl, hr, HQ⟩ := hrel
        have hok := Sha.rnds_ok HOK.out ws k
        rw [← hr] at hok
        obtain ⟨a, b, c, d, e, f, g, h⟩ := r
        obtain ⟨oa, ob, oc, od, oe, of, og, oh⟩ := hok
        dsimp only at oa ob oc od oe of og oh
        have HR := Lib.hid hr
        have R6 := Lib.hid (fun W => turnq e 6 W oe (by omega) (by omega))
        have R11 := Lib.hid (fun W => turnq e 11 W oe (by omega) (by omega))
        have R25 := Lib.hid (fun W => turnq e 25 W oe (by omega) (by omega))
        have T2 := Lib.hid (show ∀ W : World, Calls Tryd.prog 79 #[.int .u32 (a : Int), .int .u64 2] W (fun e' w' => e' = .returned (.int .u32 ((Rotm.rot a 2 : Nat) : Int)) ∧ W = w') from fun W => turnn a 2 W oa (by omega) (by omega))
        have T13 := Lib.hid (show ∀ W : World, Calls Tryd.prog 79 #[.int .u32 (a : Int), .int .u64 13] W (fun e' w' => e' = .returned (.int .u32 ((Rotm.rot a 13 : Nat) : Int)) ∧ W = w') from fun W => turnn a 13 W oa (by omega) (by omega))
        have T22 := Lib.hid (show ∀ W : World, Calls Tryd.prog 79 #[.int .u32 (a : Int), .int .u64 22] W (fun e' w' => e' = .returned (.int .u32 ((Rotm.rot a 22 : Nat) : Int)) ∧ W = w') from fun W => turnn a 22 W oa (by omega) (by omega))
        have OA := Lib.hid oa
        have OB := Lib.hid ob
        have OC := Lib.hid oc
        have OE := Lib.hid oe
        have OF := Lib.hid of
        have OG := Lib.hid og
        clear hr oa ob oc od of og oh
        by_cases hk64 : k < 64
        · have ck0 : wr.cell? ⟨w3.heap.size, k, none⟩ = some (.int .u32 ((Sha.K.getD k 0 : Nat) : Int)) := by obtain ⟨q, rfl⟩ := HQ.out; exact Wrow.cell (t := 110) HB2.out.2.2.1 k (by rw [K_len]; exact hk64)
          have cw0 : wr.cell? ⟨w3.heap.size + 1, k, none⟩ = some (.int .u32 ((ws.getD k 0 : Nat) : Int)) := by obtain ⟨q, rfl⟩ := HQ.out; exact Wrow.cell (t := 110) HROW.out k (by rw [HWL.out]; exact hk64)
          obtain ⟨kk, hkk⟩ : ∃ z, z = Sha.K.getD k 0 := ⟨_, rfl⟩
          obtain ⟨wk, hwk⟩ : ∃ z, z = ws.getD k 0 := ⟨_, rfl⟩
          rw [← hkk] at ck0
          rw [← hwk] at cw0
          have ck : ∀ q, (wr.drewN q).cell? ⟨w3.heap.size, k, none⟩ = some (.int .u32 (kk : Int)) := fun q => ck0
          have cw : ∀ q, (wr.drewN q).cell? ⟨w3.heap.size + 1, k, none⟩ = some (.int .u32 (wk : Int)) := fun q => cw0
          have HKK := Lib.hid hkk
          have HWK := Lib.hid hwk
          clear hkk hwk
          have q1 : (0 : Int) ≤ (k : Int) := by omega
          have q2 : (k : Int) < 64 := by omega
          go_upto_region 16 with fail
          go_cut [19] from 128 to 190 (fun s19 wx => s19 = .int .u32 ((Sha.tx ⟨a, b, c, d, e, f, g, h⟩ kk wk : Nat) : Int) ∧ ∃ n, wx = wr.drewN n)
          case first =>
            go_quiet ((go_at_call 79; first | with_reducible exact Calls.quiet_of_same (R6.out _) | with_reducible exact Calls.quiet_of_same (R11.out _) | with_reducible exact Calls.quiet_of_same (R25.out _)))
            clear ck cw ck0 cw0
            with_reducible rw [s1_int e, ch_int' e f g OE.out OF.out OG.out]
            with_reducible generalize hx : Value.int IntKind.u32 ((_ % 4294967296 + (wk : Int)) % 4294967296) = x64
            have HX := Lib.hid hx
            clear hx
            go_wp2
            go_meet
            refine ⟨?_, nq, rfl⟩
            exact HX.out.symm.trans (tx_val a b c d e f g h kk wk)
          case rest =>
            obtain ⟨rfl, hq2⟩ := hcut
            have HQ1 : Hid (∃ q, wc = w2.drewN q) := by
              obtain ⟨q, rfl⟩ := HQ.out
              obtain ⟨n, rfl⟩ := hq2
              exact Lib.hid ⟨q + n, drewN_add _ _ _⟩
            clear hq2 HQ ck cw ck0 cw0
            go_upto_region 17 with fail
            go_cut [20] from 128 to 190 (fun s20 wx => s20 = .int .u32 ((Sha.ty ⟨a, b, c, d, e, f, g, h⟩ : Nat) : Int) ∧ wx = wc)
            case first =>
              obtain ⟨y1, y3, y4, y5, y6, s0, m, t, f1, f2, f3, f4, f5, f6, f7, f8, f9⟩ := ty_facts a b c d e f g h OA.out OB.out OC.out
              obtain ⟨r2, hr2⟩ : ∃ z, z = Rotm.rot a 2 := ⟨_, rfl⟩
              obtain ⟨r13, hr13⟩ : ∃ z, z = Rotm.rot a 13 := ⟨_, rfl⟩
              obtain ⟨r22, hr22⟩ : ∃ z, z = Rotm.rot a 22 := ⟨_, rfl⟩
              rw [← hr2] at T2 f1
              rw [← hr13] at T13 f1
              rw [← hr22] at T22 f2
              have F9 := Lib.hid f9
              have F8 := Lib.hid f8
              clear f8 f9 hr2 hr13 hr22
              go_wp2_with fail
              with_reducible refine (T2.out _).mono ?_
              rintro en wx ⟨rfl, rfl⟩
              go_wp2_with fail
              with_reducible refine (T13.out _).mono ?_
              rintro en wx ⟨rfl, rfl⟩
              go_wp2_with fail
              with_reducible refine (T22.out _).mono ?_
              rintro en wx ⟨rfl, rfl⟩
              go_wp2_with fail
              go_meet
              exact ⟨u32_eq (F8.out.trans (by rw [F9.out])), rfl⟩
            case rest =>
              obtain ⟨rfl, rfl⟩ := hcut
              obtain ⟨tx, htx⟩ : ∃ z, z = Sha.tx ⟨a, b, c, d, e, f, g, h⟩ kk wk := ⟨_, rfl⟩
              obtain ⟨ty, hty⟩ : ∃ z, z = Sha.ty ⟨a, b, c, d, e, f, g, h⟩ := ⟨_, rfl⟩
              rw [← htx, ← hty]
              obtain ⟨t1, ht1, hT1⟩ : ∃ z : Nat, ((tx : Int) + (ty : Int)) % 4294967296 = (z : Int) ∧ z = Sha.add tx ty := ⟨_, by unfold Sha.add; omega, rfl⟩
              obtain ⟨t2, ht2, hT2⟩ : ∃ z : Nat, ((d : Int) + (tx : Int)) % 4294967296 = (z : Int) ∧ z = Sha.add d tx := ⟨_, by unfold Sha.add; omega, rfl⟩
              have HTX := Lib.hid htx
              have HTY := Lib.hid hty
              have HT1 := Lib.hid hT1
              have HT2 := Lib.hid hT2
              clear htx hty hT1 hT2
              have HE1 := Lib.hid ht1
              have HE2 := Lib.hid ht2
              clear ht1 ht2
              go_wp2_with fail
              clear q1 q2
              refine ⟨?rel, ?measure⟩
              case rel =>
                refine ⟨k + 1, ⟨t1, a, b, c, t2, e, f, g⟩, by omega, by go_num, u32_eq HE1.out, rfl, rfl, rfl, u32_eq HE2.out, rfl, rfl, rfl, ?_, HQ1⟩
                rw [HT1.out, HT2.out, HTX.out, HTY.out, HKK.out, HWK.out, Sha.rnds, ← HR.out]
                rfl
              case measure => simp [intOf]; omega
        · obtain rfl : k = 64 := by omega
          have HB3 : Hid (BAt w.heap.size w3.heap.size w [x0, x1, x2, x3, x4, x5, x6, x7] bs 64 wr) := by obtain ⟨q, rfl⟩ := HQ.out; exact Lib.hid (HB2.out.drewN q)
          have HRES := Lib.hid (show wr.heap[w.heap.size + 1]? = some (.cells (wordsOf zs8).toArray 95 (0, 0)) from HB3.out.2.1)
          have HBEL := Lib.hid (show Below w.heap.size w wr from HB3.out.2.2.2.2)
          have e0 : wr.cell? ⟨w.heap.size, 0, none⟩ = some (.int .u32 (x0 : Int)) := HB3.out.1.cell 0 (by simp)
          have e1 : wr.cell? ⟨w.heap.size, 1, none⟩ = some (.int .u32 (x1 : Int)) := HB3.out.1.cell 1 (by simp)
          have e2 : wr.cell? ⟨w.heap.size, 2, none⟩ = some (.int .u32 (x2 : Int)) := HB3.out.1.cell 2 (by simp)
          have e3 : wr.cell? ⟨w.heap.size, 3, none⟩ = some (.int .u32 (x3 : Int)) := HB3.out.1.cell 3 (by simp)
          have e4 : wr.cell? ⟨w.heap.size, 4, none⟩ = some (.int .u32 (x4 : Int)) := HB3.out.1.cell 4 (by simp)
          have e5 : wr.cell? ⟨w.heap.size, 5, none⟩ = some (.int .u32 (x5 : Int)) := HB3.out.1.cell 5 (by simp)
          have e6 : wr.cell? ⟨w.heap.size, 6, none⟩ = some (.int .u32 (x6 : Int)) := HB3.out.1.cell 6 (by simp)
          have e7 : wr.cell? ⟨w.heap.size, 7, none⟩ = some (.int .u32 (x7 : Int)) := HB3.out.1.cell 7 (by simp)
          have HMIX := Lib.hid (mix_cells x0 x1 x2 x3 x4 x5 x6 x7 bs ws _ HWS.out HR.out)
          obtain ⟨C, hC⟩ : ∃ C : Array Value, C = #[.int .u32 (((x0 : Int) + (a : Int)) % 4294967296), .int .u32 (((x1 : Int) + (b : Int)) % 4294967296), .int .u32 (((x2 : Int) + (c : Int)) % 4294967296), .int .u32 (((x3 : Int) + (d : Int)) % 4294967296), .int .u32 (((x4 : Int) + (e : Int)) % 4294967296), .int .u32 (((x5 : Int) + (f : Int)) % 4294967296), .int .u32 (((x6 : Int) + (g : Int)) % 4294967296), .int .u32 (((x7 : Int) + (h : Int)) % 4294967296)] := ⟨_, rfl⟩
          have hwi : (Tryd.prog.info? 95).map (·.size) = some C.size := by rw [hC]; exact info_a8
          have hCs : (wordsOf zs8).toArray.size = C.size := by rw [hC]; rfl
          have hC1 : C.all (·.oneCell') = true := by
            rw [hC]
            refine Array.all_eq_true_iff_forall_mem.2 fun v hv => ?_
            simp only [List.mem_toArray, List.mem_cons, List.not_mem_nil, or_false] at hv
            rcases hv with rfl | rfl | rfl | rfl | rfl | rfl | rfl | rfl <;> rfl
          have hin := Lib.hid (setRow_heap wr (w.heap.size + 1) _ C _ _ HRES.out)
          have HC := Lib.hid hC
          have HWI := Lib.hid hwi
          have HCS := Lib.hid hCs
          have HC1 := Lib.hid hC1
          clear hwi hk hk64 hC hCs hC1
          go_wp2_with (first | (refine wpList_store_row (by rfl) 95 _ _ (by rfl) (w.heap.size + 1) C (by rfl) (by rw [HC.out]; rfl) 95 (wordsOf zs8).toArray HRES.out HWI.out HCS.out HC1.out ?_))
          refine bodyPost_ret (results_cell_row (by rfl) _ _ (w.heap.size + 1) _ C (0, 0) _ (by rfl) hin.out Tryd.underlying95 (by rfl) HWI.out) ?_ ?_
          · rfl
          · refine ⟨?_, HBEL.out.setRow (by omega) _⟩
            rw [HMIX.out, HC.out]
            rw [add_val, add_val, add_val, add_val, add_val, add_val, add_val, add_val]
end Go.Proofs.YthnfbdmkdpokcaaDoor
