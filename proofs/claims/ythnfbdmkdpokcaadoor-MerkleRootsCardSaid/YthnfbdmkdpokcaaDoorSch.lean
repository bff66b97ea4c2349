/-
  The walk over digest.schedule.
-/
import Derived.Test.YthnfbdmkdpokcaaDoorBase
import Derived.Test.YthnfbdmkdpokcaaDoorRot
import Derived.Test.YthnfbdmkdpokcaaDoorGet
import Derived.Test.YthnfbdmkdpokcaaDoorSham
import Derived.Laws.Rows
import Derived.Laws.Tables
import Derived.BigQuiet
import Derived.StillTailTactics
namespace Go.Proofs.YthnfbdmkdpokcaaDoor
open Go.RowKit
set_option linter.unusedVariables false

/-- the cells of a list of words -/
def wordsOf (ws : List Nat) : List Value := ws.map fun z : Nat => Value.int .u32 (z : Int)
theorem wordsOf_get (ws : List Nat) (i : Nat) (h : i < ws.length) : (wordsOf ws).toArray[i]? = some (.int .u32 ((ws.getD i 0 : Nat) : Int)) := by simp [wordsOf, h]
theorem wordsOf_set (ws : List Nat) (i z : Nat) : (wordsOf ws).toArray.setIfInBounds i (.int .u32 (z : Int)) = (wordsOf (ws.set i z)).toArray := by simp [wordsOf, List.map_set]
theorem wordsOf_size (ws : List Nat) : (wordsOf ws).toArray.size = ws.length := by simp [wordsOf]
/-- a row of words -/
def Wrow (w : World) (g : Nat) (t : TypeId) (ws : List Nat) : Prop := w.heap[g]? = some (.cells (wordsOf ws).toArray t (0, 0))
theorem Wrow.cell {w : World} {g : Nat} {t : TypeId} {ws : List Nat} (h : Wrow w g t ws) (j : Nat) (hj : j < ws.length) : w.cell? ⟨g, j, none⟩ = some (.int .u32 ((ws.getD j 0 : Nat) : Int)) := by
  rw [cell_of_row w g j _ t _ h, wordsOf_get _ _ hj]
theorem Wrow.frozen {w : World} {g : Nat} {t : TypeId} {ws : List Nat} (h : Wrow w g t ws) (j : Nat) : w.frozen? ⟨g, j, none⟩ = false := frozen_of_row w g j _ t h
theorem Wrow.set {w : World} {g : Nat} {t : TypeId} {ws : List Nat} (h : Wrow w g t ws) (j z : Nat) : Wrow (w.setCell ⟨g, j, none⟩ (.int .u32 (z : Int))) g t (ws.set j z) := by
  unfold Wrow
  rw [heap_setCell_same w g j _ t _ h, wordsOf_set]
def Brow (w : World) (g : Nat) (t : TypeId) (zs : List Nat) : Prop := w.heap[g]? = some (.cells (cellsOf zs).toArray t (0, 0))
theorem Brow.cell {w : World} {g : Nat} {t : TypeId} {zs : List Nat} (h : Brow w g t zs) (j : Nat) (hj : j < zs.length) : w.cell? ⟨g, j, none⟩ = some (.int .u8 ((zs.getD j 0 : Nat) : Int)) := by
  rw [cell_of_row w g j _ t _ h]
  simpa using cellsOf_get zs j hj
theorem Brow.rd {w : World} {g : Nat} {t : TypeId} {zs : List Nat} (h : Brow w g t zs) (hz : ∀ z ∈ zs, z < 256) : Rd w (some ⟨g, 0, none⟩) zs.length zs := by
  refine ⟨rfl, hz, .inr ⟨g, 0, rfl, ?_, fun i hi => ?_⟩⟩
  · exact (Array.getElem?_eq_some_iff.1 h).1
  · rw [Nat.zero_add]; exact h.cell i hi
theorem Brow.frozen {w : World} {g : Nat} {t : TypeId} {zs : List Nat} (h : Brow w g t zs) (j : Nat) : w.frozen? ⟨g, j, none⟩ = false := frozen_of_row w g j _ t h

theorem rotn (x n : Nat) (hn : n < 32) (w : World) (hx : x < 4294967296) :
    Calls Tryd.prog 72 #[.int .u32 (x : Int), .int .i64 (n : Int)] w fun e w' => e = .returned (.int .u32 ((Rotm.rot x n : Nat) : Int)) ∧ w = w' := by
  have h := rot_c x (n : Int) w hx
  rw [show ((n : Int) % 32).toNat = n by omega] at h
  exact h
theorem xor_lt32 {a b : Nat} (ha : a < 4294967296) (hb : b < 4294967296) : a ^^^ b < 4294967296 := Nat.xor_lt_two_pow (n := 32) ha hb
theorem sig_nat (p q r : Nat) (hp : p < 4294967296) (hq : q < 4294967296) (hr : r < 4294967296) : bits .xor .u32 (bits .xor .u32 (p : Int) (q : Int)) (r : Int) = (((p ^^^ q) ^^^ r : Nat) : Int) := by
  rw [u32_xor_nat _ _ hp hq, u32_xor_nat _ _ (xor_lt32 hp hq) hr]
theorem sig0_int (x : Nat) (hx : x < 4294967296) : bits .xor .u32 (bits .xor .u32 ((Rotm.rot x 7 : Nat) : Int) ((Rotm.rot x 18 : Nat) : Int)) ((x : Int) / 8) = ((Sha.sig0 x : Nat) : Int) := by
  rw [show (x : Int) / 8 = ((x / 8 : Nat) : Int) by omega]
  exact sig_nat _ _ _ (Rotm.rot_lt _ _) (Rotm.rot_lt _ _) (by omega)
theorem sig1_int (x : Nat) (hx : x < 4294967296) : bits .xor .u32 (bits .xor .u32 ((Rotm.rot x 17 : Nat) : Int) ((Rotm.rot x 19 : Nat) : Int)) ((x : Int) / 1024) = ((Sha.sig1 x : Nat) : Int) := by
  rw [show (x : Int) / 1024 = ((x / 1024 : Nat) : Int) by omega]
  exact sig_nat _ _ _ (Rotm.rot_lt _ _) (Rotm.rot_lt _ _) (by omega)
theorem heap_new (w : World) (o : Obj) : (w.alloc o).heap[w.heap.size]? = some o := by
  show (w.heap.push o)[w.heap.size]? = _
  simp
theorem heap_new3 (w : World) (o1 o2 o3 : Obj) : ((((w.alloc o1).alloc o2).alloc o3).heap[w.heap.size]? = some o1) ∧ ((((w.alloc o1).alloc o2).alloc o3).heap[w.heap.size + 1]? = some o2) ∧ ((((w.alloc o1).alloc o2).alloc o3).heap[w.heap.size + 1 + 1]? = some o3) := by
  refine ⟨?_, ?_, ?_⟩
  · rw [Below.heap_alloc _ _ _ (by simp; omega), Below.heap_alloc _ _ _ (by simp)]; exact heap_new w o1
  · rw [Below.heap_alloc _ _ _ (by simp)]
    have := heap_new (w.alloc o1) o2
    simpa using this
  · have := heap_new ((w.alloc o1).alloc o2) o3
    simpa using this
def SAt (H : Nat) (w : World) (bs : List Nat) (k : Nat) (wr : World) : Prop :=
  Brow wr H 98 bs ∧ Wrow wr (H + 1) 110 (List.replicate 64 0) ∧ Wrow wr (H + 1 + 1) 110 (Sha.sch bs k ++ List.replicate (64 - k) 0) ∧ Below H w wr
theorem SAt.next {H : Nat} {w wr : World} {bs : List Nat} {k z : Nat} (h : SAt H w bs k wr) (hk : k < 64) (hz : z = if k < 16 then Sha.wd bs k else Sha.nxt (Sha.sch bs k) k) :
    SAt H w bs (k + 1) (wr.setCell ⟨H + 1 + 1, k, none⟩ (.int .u32 (z : Int))) := by
  obtain ⟨h1, h2, h3, h4⟩ := h
  refine ⟨?_, ?_, ?_, h4.setCell (by simp; omega) _⟩
  · unfold Brow; rw [heap_setCell_other _ _ _ _ (by simp; omega)]; exact h1
  · unfold Wrow; rw [heap_setCell_other _ _ _ _ (by simp)]; exact h2
  · have h := h3.set k z
    have hl := Sha.sch_len bs k
    rw [List.set_append_right _ _ (by omega), hl, Nat.sub_self, show 64 - k = (64 - (k + 1)) + 1 by omega, List.replicate_succ, List.set_cons_zero] at h
    rw [Sha.sch, ← hz, List.append_assoc]
    exact h
theorem SAt.get {H : Nat} {w wr : World} {bs : List Nat} {k : Nat} (h : SAt H w bs k wr) (j : Nat) (hj : j < k) (hk : k ≤ 64) : wr.cell? ⟨H + 1 + 1, j, none⟩ = some (.int .u32 (((Sha.sch bs k).getD j 0 : Nat) : Int)) := by
  have hl := Sha.sch_len bs k
  rw [h.2.2.1.cell j (by simp; omega)]
  congr 3
  simp only [List.getD_eq_getElem?_getD]
  rw [List.getElem?_append_left (by omega)]
theorem SAt.old {H : Nat} {w wr : World} {bs : List Nat} {k : Nat} (h : SAt H w bs k wr) (j : Nat) (hj : j < 64) : ∃ o : Nat, wr.cell? ⟨H + 1 + 1, j, none⟩ = some (.int .u32 (o : Int)) ∧ wr.frozen? ⟨H + 1 + 1, j, none⟩ = false := by
  have hl := Sha.sch_len bs k
  exact ⟨_, h.2.2.1.cell j (by simp; omega), h.2.2.1.frozen j⟩
theorem SAt.drewN {H : Nat} {w wr : World} {bs : List Nat} {k : Nat} (h : SAt H w bs k wr) (n : Nat) : SAt H w bs k (wr.drewN n) := ⟨h.1, h.2.1, h.2.2.1, h.2.2.2.trans (below_drewN' _ _ _)⟩
theorem SAt.drew {H : Nat} {w wr : World} {bs : List Nat} {k : Nat} (h : SAt H w bs k wr) : SAt H w bs k wr.drew := ⟨h.1, h.2.1, h.2.2.1, h.2.2.2.drew⟩
theorem _root_.Go.RowKit.Below.setRow {B g : Nat} {w wr : World} (h : Below B w wr) (hg : B ≤ g) (cs : Array Value) : Below B w (wr.setRow g cs) :=
  h.trans ⟨rfl, rfl, rfl, by simp, fun k hk => setRow_other wr g k cs (by omega)⟩
theorem wordsOf_one (ws : List Nat) : (wordsOf ws).toArray.all (·.oneCell') = true := by
  refine Array.all_eq_true_iff_forall_mem.2 fun v hv => ?_
  simp only [wordsOf, List.mem_toArray, List.mem_map] at hv
  obtain ⟨z, _, rfl⟩ := hv
  rfl

set_option maxRecDepth 100000 in
set_option maxHeartbeats 1600000 in
theorem schedule_c (bs : List Nat) (w : World) (hl : bs.length = 64) (hb : ∀ z ∈ bs, z < 256) :
    Calls Tryd.prog 71 #[.agg (cellsOf bs).toArray] w fun e w' => e = .returned (.agg (wordsOf (Sha.sch bs 64)).toArray) ∧ Below w.heap.size w w' := by
  go_enter Tryd.func71, Tryd.ntmps71
  go_wp2_with fail
  go_loopw [10] (fun i wr => ∃ k : Nat, k ≤ 16 ∧ i = .int .i64 k ∧ SAt w.heap.size w bs k wr) (fun i _ => 16 - (intOf i).toNat)
  case atStart =>
    refine ⟨0, by omega, rfl, (heap_new3 _ _ _ _).1, (heap_new3 _ _ _ _).2.1, (heap_new3 _ _ _ _).2.2, ?_⟩
    exact ((((Below.refl _ _).alloc (by omega) _).alloc (by simp) _).alloc (by simp; omega) _)
  case round =>
    obtain ⟨k, hk, rfl, hs⟩ := hrel
    by_cases hk16 : k < 16
    · have hrd := hs.1.rd hb
      rw [hl] at hrd
      have hW := Lib.hid (word_c (some ⟨w.heap.size, 0, none⟩) 64 64 (4 * k) bs wr hrd (by omega) (by omega))
      have hwd : Numm.num 0 [bs.getD (4 * k) 0, bs.getD (4 * k + 1) 0, bs.getD (4 * k + 2) 0, bs.getD (4 * k + 3) 0] = Sha.wd bs k := rfl
      rw [hwd] at hW
      have hnext := fun q => (hs.drewN q).next (z := Sha.wd bs k) (by omega) (by rw [if_pos hk16])
      have HN := Lib.hid hnext
      obtain ⟨o, ho, hf⟩ := hs.old k (by omega)
      have ho' : ∀ q, (wr.drewN q).cell? ⟨w.heap.size + 1 + 1, k, none⟩ = some (.int .u32 (o : Int)) := fun q => ho
      have hf' : ∀ q, (wr.drewN q).frozen? ⟨w.heap.size + 1 + 1, k, none⟩ = false := fun q => hf
      clear hs hrd hwd hnext ho hf hb hl
      go_wp2_with fail
      refine (hW.out).mono ?_
      rintro en wx ⟨rfl, q, rfl⟩
      have ho := ho' q
      have hf := hf' q
      clear ho' hf'
      go_wp2_with fail
      go_roundw
      case rel => exact ⟨k + 1, by omega, by go_num, HN.out q⟩
      case measure => simp [intOf]; omega
    · obtain rfl : k = 16 := by omega
      go_wp2_with fail
      go_loopw [5] (fun i wr => ∃ k : Nat, 16 ≤ k ∧ k ≤ 64 ∧ i = .int .i64 k ∧ SAt w.heap.size w bs k wr) (fun i _ => 64 - (intOf i).toNat)
      case atStart => exact ⟨16, by omega, by omega, rfl, hs⟩
      case round =>
        clear hs
        obtain ⟨k, hk0, hk, rfl, hs⟩ := hrel
        by_cases hk64 : k < 64
        · obtain ⟨j15, hj15⟩ : ∃ j, k - 15 = j := ⟨_, rfl⟩
          obtain ⟨j2, hj2⟩ : ∃ j, k - 2 = j := ⟨_, rfl⟩
          have hi15 : (k : Int) - 15 = (j15 : Int) := by omega
          have hi2 : (k : Int) - 2 = (j2 : Int) := by omega
          have c15 := hs.get j15 (by omega) hk
          have c2 := hs.get j2 (by omega) hk
          have b15 : j15 < 64 := by omega
          have b2 : j2 < 64 := by omega
          have hnx := Sha.sch_lt bs (fun i => by rw [List.getD_eq_getElem?_getD]; cases h : bs[i]? with | none => simp | some z => simpa using hb z (List.mem_of_getElem? h)) k
          obtain ⟨x, hx⟩ : ∃ x, x = (Sha.sch bs k).getD j15 0 := ⟨_, rfl⟩
          obtain ⟨y, hy⟩ : ∃ y, y = (Sha.sch bs k).getD j2 0 := ⟨_, rfl⟩
          have hx32 : x < 4294967296 := by rw [hx, getD_at _ _ (by rw [Sha.sch_len]; omega)]; exact hnx _ (List.getElem_mem _)
          have hy32 : y < 4294967296 := by rw [hy, getD_at _ _ (by rw [Sha.sch_len]; omega)]; exact hnx _ (List.getElem_mem _)
          rw [← hx] at c15
          rw [← hy] at c2
          have HS := Lib.hid hs
          have HX := Lib.hid hx
          have HY := Lib.hid hy
          have c15' : ∀ q, (wr.drewN q).cell? ⟨w.heap.size + 1 + 1, j15, none⟩ = some (.int .u32 (x : Int)) := fun q => c15
          have c2' : ∀ q, (wr.drewN q).cell? ⟨w.heap.size + 1 + 1, j2, none⟩ = some (.int .u32 (y : Int)) := fun q => c2
          clear hs hx hy hnx hb hl
          go_wp2
          go_quiet (fail)
          clear c15 c2 c15' c2' 
          go_wp2_with fail
          refine (rotn x 7 (by omega) _ hx32).mono ?_
          rintro en wx ⟨rfl, rfl⟩
          go_wp2_with fail
          refine (rotn x 18 (by omega) _ hx32).mono ?_
          rintro en wx ⟨rfl, rfl⟩
          go_wp2_with fail
          refine (rotn y 17 (by omega) _ hy32).mono ?_
          rintro en wx ⟨rfl, rfl⟩
          go_wp2_with fail
          refine (rotn y 19 (by omega) _ hy32).mono ?_
          rintro en wx ⟨rfl, rfl⟩
          go_wp2_with fail
          rw [sig0_int x hx32, sig1_int y hy32]
          obtain ⟨s0, hs0⟩ : ∃ z, z = Sha.sig0 x := ⟨_, rfl⟩
          obtain ⟨s1, hs1⟩ : ∃ z, z = Sha.sig1 y := ⟨_, rfl⟩
          rw [← hs0, ← hs1]
          have hs := HS.out.drewN nq
          obtain ⟨o, ho, hf⟩ := hs.old k (by omega)
          obtain ⟨j16, hj16⟩ : ∃ j, k - 16 = j := ⟨_, rfl⟩
          obtain ⟨j7, hj7⟩ : ∃ j, k - 7 = j := ⟨_, rfl⟩
          have hi16 : (k : Int) - 16 = (j16 : Int) := by omega
          have hi7 : (k : Int) - 7 = (j7 : Int) := by omega
          have c16 := hs.get j16 (by omega) hk
          have c7 := hs.get j7 (by omega) hk
          have b16 : j16 < 64 := by omega
          have b7 : j7 < 64 := by omega
          obtain ⟨v16, hv16⟩ : ∃ z, z = (Sha.sch bs k).getD j16 0 := ⟨_, rfl⟩
          obtain ⟨v7, hv7⟩ : ∃ z, z = (Sha.sch bs k).getD j7 0 := ⟨_, rfl⟩
          rw [← hv16] at c16
          rw [← hv7] at c7
          obtain ⟨wr', hwr'⟩ : ∃ z, z = wr.drewN nq := ⟨_, rfl⟩
          rw [← hwr'] at c16 c7 ho hf hs ⊢
          have HS1 := Lib.hid hs
          have HV := Lib.hid hv16
          have HV7 := Lib.hid hv7
          have H0 := Lib.hid hs0
          have H1 := Lib.hid hs1
          clear hwr' hs hv16 hv7 hs0 hs1 HS
          have q1 : (0 : Int) ≤ (j16 : Int) := by omega
          have q2 : (j16 : Int) < 64 := by omega
          have q3 : (0 : Int) ≤ (j7 : Int) := by omega
          have q4 : (j7 : Int) < 64 := by omega
          have q5 : (0 : Int) ≤ (k : Int) := by omega
          have q6 : (k : Int) < 64 := by omega
          have r16 : IntKind.i64.wrap (j16 : Int) = (j16 : Int) := IntWalk.i64_in _ (by omega)
          have r7 : IntKind.i64.wrap (j7 : Int) = (j7 : Int) := IntWalk.i64_in _ (by omega)
          go_wp2
          go_still_tail 14, (by kernel_rfl)
          go_wp2
          clear ho hf c16 c7 r16 r7 hi16 hi7 hi15 hi2 q1 q2 q3 q4 q5 q6
          refine ⟨?_, ?measure⟩
          repeat apply Exists.intro
          refine ⟨?rel, rfl⟩
          case rel =>
            refine ⟨k + 1, by omega, by omega, by go_num, ?_⟩
            have hz := HS1.out.next hk64 (z := Sha.nxt (Sha.sch bs k) k) (by rw [if_neg (by omega)])
            have e : Sha.nxt (Sha.sch bs k) k = Sha.add (Sha.add (Sha.add v16 s0) v7) s1 := by
              unfold Sha.nxt
              rw [hj16, hj7, hj15, hj2, ← HV.out, ← HV7.out, ← HX.out, ← HY.out, ← H0.out, ← H1.out]
            rw [e] at hz
            have hv : (((v16 : Int) + (s0 : Int) + (v7 : Int) + (s1 : Int)) % 4294967296) = ((Sha.add (Sha.add (Sha.add v16 s0) v7) s1 : Nat) : Int) := by unfold Sha.add; omega
            rw [hv]
            exact hz.drew
          case measure => simp [intOf]; omega
        · obtain rfl : k = 64 := by omega
          have hrow := hs.2.2.1
          have hrow2 := hs.2.1
          have hbel := hs.2.2.2
          have hl64 := Sha.sch_len bs 64
          clear hs
          rw [Nat.sub_self, List.replicate_zero, List.append_nil] at hrow
          unfold Wrow at hrow hrow2
          have hi : (Tryd.prog.info? 110).map (·.size) = some (wordsOf (Sha.sch bs 64)).toArray.size := by
            rw [wordsOf_size, hl64]; kernel_rfl
          have ho : (wordsOf (List.replicate 64 0)).toArray.size = (wordsOf (Sha.sch bs 64)).toArray.size := by rw [wordsOf_size, wordsOf_size, hl64]; rfl
          obtain ⟨A, hA⟩ : ∃ A, A = (wordsOf (Sha.sch bs 64)).toArray := ⟨_, rfl⟩
          have hone : A.all (·.oneCell') = true := by rw [hA]; exact wordsOf_one _
          have hin : (wr.setRow (w.heap.size + 1) A).heap[w.heap.size + 1]? = some (.cells A 110 (0, 0)) := setRow_heap wr _ _ _ _ _ hrow2
          have hb' : Below w.heap.size w (wr.setRow (w.heap.size + 1) A) := hbel.setRow (by omega) _
          rw [← hA] at hrow hi ho
          go_wp2_with (first | (refine wpList_load_row (by rfl) 110 _ (by rfl) (w.heap.size + 1 + 1) (by rfl) _ _ (0, 0) _ hrow Tryd.underlying110 (by rfl) hi ?_) | (refine wpList_store_row (by rfl) 110 _ _ (by rfl) (w.heap.size + 1) A (by rfl) (by rfl) _ _ hrow2 hi ho hone ?_))
          refine bodyPost_ret (results_cell_row (by rfl) _ _ (w.heap.size + 1) _ A (0, 0) _ (by rfl) hin Tryd.underlying110 (by rfl) hi) ?_ ?_
          · rfl
          · exact ⟨by rw [hA], hb'⟩
end Go.Proofs.YthnfbdmkdpokcaaDoor
