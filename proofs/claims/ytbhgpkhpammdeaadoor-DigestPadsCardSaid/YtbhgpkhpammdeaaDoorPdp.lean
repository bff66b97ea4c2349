/-
  The walk over DigestPads.
-/
import Derived.Test.YtbhgpkhpammdeaaDoorPdw
import Derived.Test.YtbhgpkhpammdeaaDoorSms
namespace Go.Proofs.YtbhgpkhpammdeaaDoor
open Go.RowKit
set_option linter.unusedVariables false
/-- the first k of n bytes, the rest 0 -/
def pz (f n k : Nat) : List Nat := ((List.range k).map fun i => (f + i / 64) % 256) ++ List.replicate (n - k) 0
theorem pz_len (f n k : Nat) (h : k ≤ n) : (pz f n k).length = n := by simp [pz]; omega
theorem pz_zero (f n : Nat) : pz f n 0 = List.replicate n 0 := by simp [pz]
theorem pz_next (f n k : Nat) (h : k < n) : (pz f n k).set k ((f + k / 64) % 256) = pz f n (k + 1) := by
  unfold pz
  rw [List.set_append_right _ _ (by simp), List.range_succ, List.map_append, show n - k = (n - (k + 1)) + 1 by omega, List.replicate_succ]
  simp
theorem pz_byte (f n k : Nat) : ∀ z ∈ pz f n k, z < 256 := by
  intro z hz
  unfold pz at hz
  rcases List.mem_append.1 hz with h | h
  · obtain ⟨i, _, rfl⟩ := List.mem_map.1 h; omega
  · rw [List.eq_of_mem_replicate h]; omega
theorem pz_stored {w : World} {B g f n k : Nat} (h : w.ownsRow B 5 1 (.slice (some ⟨g, 0, none⟩) n n) n (cellsOf (pz f n k))) (hk : k < n) :
    (w.setCell ⟨g, k, none⟩ (.int .u8 (((f + k / 64) % 256 : Nat) : Int))).ownsRow B 5 1 (.slice (some ⟨g, 0, none⟩) n n) n (cellsOf (pz f n (k + 1))) := by
  have := (h.stored k (.int .u8 (((f + k / 64) % 256 : Nat) : Int))).1
  rw [← pz_next f n k hk, show cellsOf ((pz f n k).set k ((f + k / 64) % 256)) = (cellsOf (pz f n k)).set k (.int .u8 (((f + k / 64) % 256 : Nat) : Int)) by simp [cellsOf, List.map_set]]
  exact this
theorem h8_len : Sha.H0.length = 8 := by decide
theorem k64_len : Sha.K.length = 64 := by decide +kernel
set_option maxRecDepth 100000 in
set_option maxHeartbeats 4000000 in
theorem pads_in (n : Int) (M N f : Nat) (w : World) (hM : IntKind.u64.wrap n = (M : Int)) (hN : N = M % 300) (hf : f < 256) (ht : Tab w) :
    Calls Tryd.prog 3 #[.int .i64 n, .int .u8 (f : Int)] w fun e w' => e = .returned (.bool true) ∧ Below w.heap.size w w' := by
  obtain ⟨i0, hi, hz0, hz1, hz2⟩ := info_parts byteInfo
  have HT := Lib.hid ht
  have hpos := ht.pos
  have hN300 : N < 300 := by omega
  have s1 : (M : Int).tmod 300 = (N : Int) := by rw [Int.tmod_eq_emod_of_nonneg (by omega)]; omega
  have HGT := Lib.hid (show Tryd.prog.eqGuardType Tryd.prog.depth 33 = false by kernel_rfl)
  clear ht hN
  go_enter Tryd.func3, Tryd.ntmps3
  go_wp2_with (at_make; refine wpList_make_full _ rfl _ _ 23 rfl w.heap.size 5 i0 (.int .u8 0) 1 Tryd.underlying23 hi hz0 hz1 .i64 .i64 _ _ N rfl rfl rfl rfl (by rw [hz2]; omega) (by unfold maxLen; omega) (Nat.le_refl _) ?_)
  intro w0 hown0 hg0
  have hb0 : Below w.heap.size w w0 := (Below.refl _ _).grown hg0 (Nat.le_refl _) (by simp)
  have hown : w0.ownsRow w.heap.size 5 1 (.slice (some ⟨w.heap.size, 0, none⟩) N N) N (cellsOf (pz f N 0)) := by
    rw [pz_zero, ← made_zero]
    exact hown0
  clear hown0 hg0 hi hz0 hz1 hz2
  go_wp2
  go_loopw [21] (fun i wr => ∃ k : Nat, k ≤ N ∧ i = .int .i64 k ∧ Hid (wr.ownsRow w.heap.size 5 1 (.slice (some ⟨w.heap.size, 0, none⟩) N N) N (cellsOf (pz f N k))) ∧ Hid (Below w.heap.size w wr)) (fun i _ => N - (intOf i).toNat)
  case atStart => exact ⟨0, Nat.zero_le _, rfl, Lib.hid hown, Lib.hid hb0⟩
  case round =>
    clear hown hb0
    obtain ⟨k, hk, rfl, HO, HB⟩ := hrel
    by_cases hkl : k < N
    · have hcell := HO.out.cellAt k (by omega)
      have hfz := HO.out.frozenAt k
      rw [cellsOf_get _ _ (by rw [pz_len f N k (by omega)]; omega)] at hcell
      have HST := Lib.hid (pz_stored HO.out hkl)
      obtain ⟨z, hz⟩ : ∃ z, z = (f + k / 64) % 256 := ⟨_, rfl⟩
      rw [← hz] at HST
      have HBE := Lib.hid (show Below w.heap.size w (wr.setCell ⟨w.heap.size, k, none⟩ (.int .u8 (z : Int))) from HB.out.setCell (by simp) _)
      have t1 : (k : Int).tdiv 64 = ((k / 64 : Nat) : Int) := by rw [Int.tdiv_eq_ediv_of_nonneg (by omega)]; omega
      obtain ⟨q, hq⟩ : ∃ q, q = k / 64 := ⟨_, rfl⟩
      rw [← hq] at t1 hz
      have hq5 : q ≤ 4 := by omega
      have t2 : IntKind.u8.wrap (q : Int) = (q : Int) := by rw [IntKind.wrap_u8]; omega
      have t3 : IntKind.u8.wrap ((f : Int) + (q : Int)) = (z : Int) := by rw [IntKind.wrap_u8]; omega
      have q1 : (k : Int) < (N : Int) := by omega
      clear HO HB hz hq
      go_wp2
      go_roundw
      case rel => exact ⟨k + 1, by omega, by go_num, HST, HBE⟩
      case measure => simp [intOf]; omega
    · obtain rfl : k = N := by omega
      have q1 : ¬ (k : Int) < (k : Int) := by omega
      have HRD := Lib.hid (show Rd wr (some ⟨w.heap.size, 0, none⟩) k (pz f k k) from by
        have h : Own wr w.heap.size (.slice (some ⟨w.heap.size, 0, none⟩) k k) (pz f k k) := by
          unfold Own
          rw [pz_len f k k (Nat.le_refl _)]
          exact HO.out
        obtain ⟨a, c, he, _, _, hr⟩ := h.rd (pz_byte f k k)
        rw [pz_len f k k (Nat.le_refl _)] at he hr
        cases he
        exact hr)
      obtain ⟨Z, hZ⟩ : ∃ Z, Z = pz f k k := ⟨_, rfl⟩
      rw [← hZ] at HRD
      have HW8 := Lib.hid (show ∀ W, Calls Tryd.prog 5 #[.int .i64 8, .bool false] W (RetK 26 .u32 Sha.H0 W) from fun W => by have := words_c 8 false (by omega) W; rw [words_h] at this; exact this)
      have HW64 := Lib.hid (show ∀ W, Calls Tryd.prog 5 #[.int .i64 64, .bool true] W (RetK 26 .u32 Sha.K W) from fun W => by have := words_c 64 true (by omega) W; rw [words_k] at this; exact this)
      clear HO hZ
      go_wp2_with fail
      refine (HW8.out _).mono ?_
      rintro e w1 ⟨v7, rfl, hown7, hb1⟩
      go_wp2_with fail
      refine (HW64.out _).mono ?_
      rintro e w2 ⟨v8, rfl, hown8, hb2⟩
      obtain ⟨a7, L7, c7, hv7, hL7, _, _, hc7⟩ := hown7.form
      obtain ⟨a8, L8, c8, hv8, hL8, _, _, hc8⟩ := hown8.form
      rw [h8_len] at hL7
      rw [k64_len] at hL8
      subst hL7 hL8
      cases hv7
      cases hv8
      obtain ⟨g7, rfl, hg7b, hg7, hc7⟩ := hc7 (by omega)
      obtain ⟨g8, rfl, hg8b, hg8, hc8⟩ := hc8 (by omega)
      have HB2 := Lib.hid (HB.out.trans ((hb1.trans (hb2.mono hb1.size)).mono HB.out.size))
      have HR2 := Lib.hid ((HRD.out.below hb1).below hb2)
      have HC7 := Lib.hid (show g7 < w2.heap.size ∧ ∀ j, j < 8 → w2.cell? ⟨g7, j, none⟩ = some (.int .u32 ((Sha.H0.getD j 0 : Nat) : Int)) from ⟨Nat.lt_of_lt_of_le hg7 hb2.size, fun j hj => (hb2.cell (p := ⟨g7, j, none⟩) hg7).trans (hc7 j hj)⟩)
      have HC8 := Lib.hid (show g8 < w2.heap.size ∧ ∀ j, j < 64 → w2.cell? ⟨g8, j, none⟩ = some (.int .u32 ((Sha.K.getD j 0 : Nat) : Int)) from ⟨hg8, hc8⟩)
      clear hown7 hown8 hc7 hc8 hb1 hb2 hg7b hg8b HW8 HW64 HRD HB hg7 hg8
      go_wp2_with fail
      refine (begin_c _).mono ?_
      rintro e w3 ⟨rfl, hb3⟩
      have HB3 := Lib.hid (HB2.out.trans (hb3.mono HB2.out.size))
      have HR3 := Lib.hid (HR2.out.below hb3)
      have HC73 := Lib.hid (show ∀ j, j < 8 → w3.cell? ⟨g7, j, none⟩ = some (.int .u32 ((Sha.H0.getD j 0 : Nat) : Int)) from fun j hj => (hb3.cell (p := ⟨g7, j, none⟩) HC7.out.1).trans (HC7.out.2 j hj))
      have HC83 := Lib.hid (show g8 < w3.heap.size ∧ ∀ j, j < 64 → w3.cell? ⟨g8, j, none⟩ = some (.int .u32 ((Sha.K.getD j 0 : Nat) : Int)) from ⟨Nat.lt_of_lt_of_le HC8.out.1 hb3.size, fun j hj => (hb3.cell (p := ⟨g8, j, none⟩) HC8.out.1).trans (HC8.out.2 j hj)⟩)
      clear HB2 HR2 HC7 HC8 hb3
      go_wp2_with fail
      go_loop [36] (fun iv => ∃ j : Nat, j ≤ 8 ∧ iv = .int .i64 j) (fun iv => 8 - (intOf iv).toNat)
      case atStart => exact ⟨0, by omega, rfl⟩
      case round =>
        obtain ⟨j, hj, rfl⟩ := hrel
        by_cases hj8 : j < 8
        · have hcx := HC73.out j hj8
          have kI := fun W => run_index_words Sha.H0 j (by rw [h8_len]; exact hj8) 27 8 Tryd.underlying27 h8_len W
          obtain ⟨z, hz⟩ : ∃ z, z = Sha.H0.getD j 0 := ⟨_, rfl⟩
          rw [← hz] at hcx kI
          have q1 : (j : Int) < 8 := by omega
          clear hz
          go_wp2
          go_round
          case rel => exact ⟨j + 1, by omega, by go_num⟩
          case measure => simp [intOf]; omega
        · obtain rfl : j = 8 := by omega
          clear HC73
          go_wp2_with fail
          refine (K_c _).mono ?_
          rintro e w4 ⟨rfl, hb4⟩
          have HB4 := Lib.hid (HB3.out.trans (hb4.mono HB3.out.size))
          have HR4 := Lib.hid (HR3.out.below hb4)
          have HC84 := Lib.hid (show ∀ j, j < 64 → w4.cell? ⟨g8, j, none⟩ = some (.int .u32 ((Sha.K.getD j 0 : Nat) : Int)) from fun j hj => (hb4.cell (p := ⟨g8, j, none⟩) HC83.out.1).trans (HC83.out.2 j hj))
          clear HB3 HR3 HC83 hb4
          go_wp2_with fail
          go_loop [48] (fun iv => ∃ j : Nat, j ≤ 64 ∧ iv = .int .i64 j) (fun iv => 64 - (intOf iv).toNat)
          case atStart => exact ⟨0, by omega, rfl⟩
          case round =>
            obtain ⟨j, hj, rfl⟩ := hrel
            by_cases hj8 : j < 64
            · have hcx := HC84.out j hj8
              have kI := fun W => run_index_words Sha.K j (by rw [k64_len]; exact hj8) 29 64 Tryd.underlying29 k64_len W
              obtain ⟨z, hz⟩ : ∃ z, z = Sha.K.getD j 0 := ⟨_, rfl⟩
              rw [← hz] at hcx kI
              have q1 : (j : Int) < 64 := by omega
              clear hz
              go_wp2
              go_round
              case rel => exact ⟨j + 1, by omega, by go_num⟩
              case measure => simp [intOf]; omega
            · obtain rfl : j = 64 := by omega
              clear HC84
              have HBc := Lib.hid HB4.out
              have HB0 := Lib.hid (Below.refl w4.heap.size w4)
              obtain ⟨D, hD⟩ : ∃ d, d = Sha.sum Z := ⟨_, rfl⟩
              have HDS := Lib.hid (show ∀ W, Rd W (some ⟨w.heap.size, 0, none⟩) k Z → Tab W → Calls Tryd.prog 9 #[.slice (some ⟨w.heap.size, 0, none⟩) k k] W (DigRet D W) from fun W hW hT => by rw [hD]; exact dsum_c _ k k Z W hW (by omega) (by omega) (by omega) hT)
              have HRS := Lib.hid (show ∀ W, Rd W (some ⟨w.heap.size, 0, none⟩) k Z → Calls Tryd.prog 10 #[.slice (some ⟨w.heap.size, 0, none⟩) k k] W (DigRet D W) from fun W hW => by rw [hD]; exact rsum_c Z _ k k W hW (by omega))
              have HEQ2 := Lib.hid (fun W => eq_dig 33 32 Tryd.underlying33 W D D (by rw [hD, sum_len]) (by rw [hD, sum_len]) (by rw [hD]; exact sum_byte _) (by rw [hD]; exact sum_byte _))
              simp only [decide_true] at HEQ2
              clear hD HB4
              go_wp2_with (first | (go_at_call 8; refine (awake2_c _ (HT.out.below HBc.out hpos)).mono ?_; rintro e wb ⟨rfl, hbb⟩; have HB0 := Lib.hid (HB0.out.trans (hbb.mono HB0.out.size)); have HBc := Lib.hid (HBc.out.trans (hbb.mono HBc.out.size)); clear hbb) | (go_at_call 9; refine (HDS.out _ (HR4.out.below HB0.out) (HT.out.below HBc.out hpos)).mono ?_; rintro e wb ⟨rfl, hbb⟩; have HB0 := Lib.hid (HB0.out.trans (hbb.mono HB0.out.size)); have HBc := Lib.hid (HBc.out.trans (hbb.mono HBc.out.size)); clear hbb) | (go_at_call 10; refine (HRS.out _ (HR4.out.below HB0.out)).mono ?_; rintro e wb ⟨rfl, hbb⟩; have HBc := Lib.hid (HBc.out.trans (hbb.mono HBc.out.size)); clear hbb) | (refine wpList_eqg 33 _ _ _ (by rfl) (by rfl) (cellsOf D).toArray (cellsOf D).toArray (by rfl) (by rfl) HGT.out true (HEQ2.out _) ?_))
              go_ret
              exact ⟨rfl, HBc.out⟩
theorem mpads_c (n f : Int) (w : World) (hn : (Lit.int .i64 n).wf = true) (hf : (Lit.int .u8 f).wf = true) (ht : Tab w) :
    Calls Tryd.prog 3 #[.int .i64 n, .int .u8 f] w fun e w' => e = .returned (.bool true) ∧ Below w.heap.size w w' := by
  have hf' : 0 ≤ f ∧ f ≤ 255 := by simpa [Lit.wf, IntKind.min, IntKind.max, IntKind.signed, IntKind.bits] using hf
  have e : f = (f.toNat : Int) := by omega
  rw [e]
  refine pads_in n (IntKind.u64.wrap n).toNat _ f.toNat w ?_ rfl (by omega) ht
  have : 0 ≤ IntKind.u64.wrap n := by rw [IntKind.wrap_u64]; omega
  omega
end Go.Proofs.YtbhgpkhpammdeaaDoor
