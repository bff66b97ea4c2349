/-
  Files of any number and any bytes: the statement's walk.
-/
import Derived.Test.YtjpcbmfnjifgfaaDkx
namespace Go.Proofs.Ytjpcbmfnjifgfaa
open Go.RowKit Go.Maps
set_option linter.unusedVariables false
theorem size_int (W : World) : (Go.sizeOf 3).run Try.prog W = .ok 1 W := by kernel_rfl
theorem und_ints : Try.prog.underlying 62 = some (.slice (Try.prog.elem 62)) := by
  rw [show Try.prog.elem 62 = 3 by kernel_rfl]; exact Try.underlying62
theorem run_iheadAt (W : World) (a : Option Addr) (len cap k : Nat) (hk : k ≤ cap) :
    (Instr.sliceAt 62 (.slice a len cap) none (some (.int .i64 (k : Int))) none).run Try.prog W = .ok (.slice a k cap) W := by
  rw [run_sliceAt_slice W _ _ _ _ _ und_ints, run_slice_h W _ a len cap und_ints .i64 (k : Int) (by omega) (by omega), show Try.prog.elem 62 = 3 by kernel_rfl, size_int]
  simp [Result.andThen, sliced, add_zero']
theorem modN (x : Int) (m : Nat) (h0 : 0 < m) (h1 : m ≤ 5000) : ∃ k : Nat, k < m ∧ wrap64 (Int.tmod (IntKind.u64.wrap x) (m : Int)) = (k : Int) := by
  have e : IntKind.u64.wrap x = x % 18446744073709551616 := by simp [IntKind.wrap, IntKind.bits, IntKind.signed]
  have n0 : 0 ≤ x % 18446744073709551616 := by omega
  rw [e, Int.tmod_eq_emod_of_nonneg n0]
  obtain ⟨y, hy⟩ : ∃ y, y = x % 18446744073709551616 := ⟨_, rfl⟩
  rw [← hy] at n0 ⊢
  have m0 : (0 : Int) < (m : Int) := by omega
  have p0 := Int.emod_nonneg y (show (m : Int) ≠ 0 by omega)
  have p1 := Int.emod_lt_of_pos y m0
  refine ⟨(y % (m : Int)).toNat, by omega, ?_⟩
  rw [wrap64_id (by omega) (by omega)]
  omega
theorem Fu.more {w0 w : World} {d : Nat} {room : Int} {s1 s2 : ByteArray} {l1 l2 q q' : Nat} (h : Fu w0 d room s1 s2 l1 l2 q w) (hq : q ≤ q') : Hid (Fu w0 d room s1 s2 l1 l2 q' w) := by
  obtain ⟨⟨S, b1, b2, f1, f2, h1, h2, h3, h4, h5, h6, h7, h8, h9, h10, h11, h12, h13⟩, hb⟩ := h
  exact Lib.hid ⟨⟨S, b1, b2, f1, f2, h1, h2, h3, h4, h5, h6, h7, h8, h9, h10, h11, h12, by omega⟩, hb⟩
def nA : ByteArray := ⟨#[97]⟩
def nB : ByteArray := ⟨#[98]⟩
theorem made_bytes {w0 : World} {B g n : Nat} (h : w0.ownsRow B 5 1 (.slice (some ⟨g, 0, none⟩) n n) n (madeCells #[Value.int IntKind.u8 0] n).toList) (hg : g < w0.heap.size) : ∃ ps, Rd w0 (some ⟨g, 0, none⟩) n ps := by
  have hown : Own w0 B (.slice (some ⟨g, 0, none⟩) n n) (List.replicate n 0) := by
    unfold Own
    rw [List.length_replicate, ← made_zero]
    exact h
  obtain ⟨a, c, hv, _, _, hrd⟩ := hown.rd (fun z hz => by rw [List.eq_of_mem_replicate hz]; omega)
  have e := (Value.slice.inj hv).1
  rw [List.length_replicate, ← e] at hrd
  exact ⟨_, hrd⟩
set_option maxRecDepth 100000 in
set_option maxHeartbeats 8000000 in
theorem dfull_c (r0 : Int) (a : Option Addr) (len cap : Nat) (zs : List Int) (w : World) (h0 : (Lit.int .i64 r0).wf = true) (hz : IntsIn w a len cap zs) :
    Calls Try.prog 6 #[.int .i64 r0, .slice a len cap] w fun e w' => e = .returned (.bool true) ∧ Below w.heap.size w w' := by
  obtain ⟨i0, hi, hz0, hz1, hz2⟩ := info_parts byteInfo
  have HZ := Lib.hid hz
  clear hz
  go_enter Try.func6, Try.ntmps6
  go_wp2_with fail
  obtain ⟨R, hR5, hR⟩ := modN r0 5000 (by omega) (by omega)
  rw [show ((5000 : Nat) : Int) = 5000 from rfl] at hR
  rw [hR]
  clear hR h0
  have HN := Lib.hid (dnew_c (R : Int) w (by omega) (by omega))
  obtain ⟨d, hd⟩ : ∃ d, d = w.heap.size := ⟨_, rfl⟩
  refine HN.out.mono ?_
  rintro e1 w1 ⟨rfl, hk1, hb1⟩
  rw [← hd]
  have HK1 := Lib.hid (show DK w.heap.size d (newS (R : Int)) w1 from by rw [hd]; exact hk1)
  have HB1 := Lib.hid hb1
  clear hk1 hb1 HN hd
  go_wp2_with fail
  refine (awake9_c _).mono ?_
  rintro e2 w2 ⟨rfl, hb2⟩
  have HC1 := Lib.hid (Fu.new1 (HK1.out.below hb2) (HB1.out.trans (hb2.mono HB1.out.size)) nA (by decide))
  clear hb2 HK1 HB1
  go_wp2_with fail
  refine HC1.out.mono ?_
  rintro e3 w3 ⟨rfl, hx3, hb3⟩
  have HC2 := Lib.hid (Fu.new2 nA nB (by decide) (by decide) hx3 hb3)
  clear hx3 hb3 HC1
  go_wp2_with fail
  refine HC2.out.mono ?_
  rintro e4 w4 ⟨rfl, hf4⟩
  have HF4 := Lib.hid hf4
  clear hf4 HC2
  obtain ⟨m, hm, hm1, hm2⟩ : ∃ m : Nat, min (len : Int) 50 = (m : Int) ∧ m ≤ len ∧ m ≤ 50 := by
    by_cases h : len ≤ 50
    · exact ⟨len, by omega, by omega, h⟩
    · exact ⟨50, by omega, by omega, by omega⟩
  have hsl := fun W => run_iheadAt W a len cap m (by have := HZ.out.2.2.2.1; omega)
  go_wp2_with fail
  clear hsl hm
  go_loopw [43, 7] (fun i u wr => ∃ k la lb : Nat, k ≤ m ∧ i = .int .i64 (k : Int) ∧ u = .int .i64 ((la : Int) + (lb : Int)) ∧ la + lb ≤ R ∧ Hid (Fu w d (R : Int) nA nB la lb (k + 2) wr)) (fun i _ _ => m - (intOf i).toNat)
  case atStart => exact ⟨0, 0, 0, by omega, rfl, rfl, by omega, HF4⟩
  case round =>
    clear HF4
    obtain ⟨k, la, lb, hk, rfl, rfl, hlr, HF⟩ := hrel
    by_cases hkm : k < m
    · have ikm : (k : Int) < (m : Int) := by omega
      obtain ⟨b, off, ha, hlt, hcell⟩ := (HZ.out.2.2.2.2.2).resolve_left (by omega)
      subst ha
      obtain ⟨z, hz⟩ : ∃ z, z = zs.getD k 0 := ⟨_, rfl⟩
      have ce : wr.cell? ⟨b, off + k, none⟩ = some (.int .i64 z) := by
        rw [hz, HF.out.below.cell (p := ⟨b, off + k, none⟩) hlt]
        exact hcell k (by omega)
      obtain ⟨n, hn2, hn⟩ := modN z 2000 (by omega) (by omega)
      rw [show ((2000 : Nat) : Int) = 2000 from rfl] at hn
      clear hcell hlt hz
      rcases Nat.mod_two_eq_zero_or_one k with h2 | h2
      · have i2 : (k : Int) % 2 = 0 := by omega
        have hxa : nA = (ByteArray.mk #[97, 98]).extract 0 1 := by kernel_rfl
        go_wp2_with (at_make; refine wpList_make_full _ rfl _ _ 30 rfl wr.heap.size 5 i0 (.int .u8 0) 1 Try.underlying30 hi hz0 hz1 .i64 .i64 (n : Int) (n : Int) n (congrArg (Value.int .i64) hn) (congrArg (Value.int .i64) hn) rfl rfl (by rw [hz2]; omega) (by unfold maxLen; omega) (Nat.le_refl _) ?_)
        intro w5 hown5 hg5
        have hb5 : Below wr.heap.size wr w5 := (Below.refl _ _).grown hg5 (Nat.le_refl _) (by simp)
        obtain ⟨ps, hrd⟩ := made_bytes hown5 (hown5.lt _ rfl).2
        by_cases hfit : (n : Int) ≤ (R : Int) - ((la : Int) + (lb : Int))
        · have HA := Lib.hid (HF.out.append hb5 (Nat.le_refl _) hrd (c := n) (by decide) (by omega) (by omega) (by omega) (by omega))
          rw [hxa] at HA
          clear hown5 hg5 hb5 hrd hxa HF
          go_wp2_with fail
          refine HA.out.mono ?_
          rintro e6 w6 ⟨rfl, hf6⟩
          rw [← show nA = (ByteArray.mk #[97, 98]).extract 0 1 from by kernel_rfl] at hf6
          have HF6 := Lib.hid (hf6)
          have HU := Lib.hid (HF6.out.used)
          rw [show (((la + n : Nat) : Int) + ((lb : Nat) : Int)) = (la : Int) + (lb : Int) + (n : Int) by omega] at HU
          clear hf6 HA
          go_wp2_with fail
          refine HU.out.mono ?_
          rintro e7 w7 ⟨rfl, rfl⟩
          go_wp2_with fail
          exact ⟨⟨k + 1, la + n, lb, by omega, rfl, by congr 1; omega, by omega, HF6⟩, by simp [intOf]; omega⟩
        · have HA := Lib.hid (HF.out.refuse (pa := some ⟨wr.heap.size, 0, none⟩) (n := n) (c := n) hb5 (by decide) (by omega) (by omega) (by omega) (by omega))
          rw [hxa] at HA
          clear hown5 hg5 hb5 hrd hxa HF
          go_wp2_with fail
          refine HA.out.mono ?_
          rintro e6 w6 ⟨rfl, hf6⟩
          rw [← show nA = (ByteArray.mk #[97, 98]).extract 0 1 from by kernel_rfl] at hf6
          have HF6 := Lib.hid (hf6)
          have HU := Lib.hid (HF6.out.used)
          clear hf6 HA
          go_wp2_with fail
          refine HU.out.mono ?_
          rintro e7 w7 ⟨rfl, rfl⟩
          go_wp2_with fail
          exact ⟨⟨k + 1, la, lb, by omega, rfl, rfl, by omega, HF6.out.more (by omega)⟩, by simp [intOf]; omega⟩
      · have i2 : (k : Int) % 2 = 1 := by omega
        have hxa : nB = (ByteArray.mk #[97, 98]).extract 1 2 := by kernel_rfl
        go_wp2_with (at_make; refine wpList_make_full _ rfl _ _ 30 rfl wr.heap.size 5 i0 (.int .u8 0) 1 Try.underlying30 hi hz0 hz1 .i64 .i64 (n : Int) (n : Int) n (congrArg (Value.int .i64) hn) (congrArg (Value.int .i64) hn) rfl rfl (by rw [hz2]; omega) (by unfold maxLen; omega) (Nat.le_refl _) ?_)
        intro w5 hown5 hg5
        have hb5 : Below wr.heap.size wr w5 := (Below.refl _ _).grown hg5 (Nat.le_refl _) (by simp)
        obtain ⟨ps, hrd⟩ := made_bytes hown5 (hown5.lt _ rfl).2
        by_cases hfit : (n : Int) ≤ (R : Int) - ((la : Int) + (lb : Int))
        · have HA := Lib.hid (HF.out.symm.append hb5 (Nat.le_refl _) hrd (c := n) (by decide) (by omega) (by omega) (by omega) (by omega))
          rw [hxa] at HA
          clear hown5 hg5 hb5 hrd hxa HF
          go_wp2_with fail
          refine HA.out.mono ?_
          rintro e6 w6 ⟨rfl, hf6⟩
          rw [← show nB = (ByteArray.mk #[97, 98]).extract 1 2 from by kernel_rfl] at hf6
          have HF6 := Lib.hid ((hf6).symm)
          have HU := Lib.hid (HF6.out.used)
          rw [show (((la : Nat) : Int) + ((lb + n : Nat) : Int)) = (la : Int) + (lb : Int) + (n : Int) by omega] at HU
          clear hf6 HA
          go_wp2_with fail
          refine HU.out.mono ?_
          rintro e7 w7 ⟨rfl, rfl⟩
          go_wp2_with fail
          exact ⟨⟨k + 1, la, lb + n, by omega, rfl, by congr 1; omega, by omega, HF6⟩, by simp [intOf]; omega⟩
        · have HA := Lib.hid (HF.out.symm.refuse (pa := some ⟨wr.heap.size, 0, none⟩) (n := n) (c := n) hb5 (by decide) (by omega) (by omega) (by omega) (by omega))
          rw [hxa] at HA
          clear hown5 hg5 hb5 hrd hxa HF
          go_wp2_with fail
          refine HA.out.mono ?_
          rintro e6 w6 ⟨rfl, hf6⟩
          rw [← show nB = (ByteArray.mk #[97, 98]).extract 1 2 from by kernel_rfl] at hf6
          have HF6 := Lib.hid ((hf6).symm)
          have HU := Lib.hid (HF6.out.used)
          clear hf6 HA
          go_wp2_with fail
          refine HU.out.mono ?_
          rintro e7 w7 ⟨rfl, rfl⟩
          go_wp2_with fail
          exact ⟨⟨k + 1, la, lb, by omega, rfl, rfl, by omega, HF6.out.more (by omega)⟩, by simp [intOf]; omega⟩
    · obtain rfl : k = m := by omega
      have ikm : ¬ (k : Int) < (k : Int) := by omega
      go_wp2_with (at_make; refine wpList_make_full _ rfl _ _ 30 rfl wr.heap.size 5 i0 (.int .u8 0) 1 Try.underlying30 hi hz0 hz1 .i64 .i64 _ _ 1048577 rfl rfl rfl rfl (by rw [hz2]; omega) (by unfold maxLen; omega) (Nat.le_refl _) ?_)
      intro w5 hown5 hg5
      have hb5 : Below wr.heap.size wr w5 := (Below.refl _ _).grown hg5 (Nat.le_refl _) (by simp)
      have HA := Lib.hid (HF.out.long (pa := some ⟨wr.heap.size, 0, none⟩) (n := 1048577) (c := 1048577) hb5 (by decide) (by omega))
      clear hown5 hg5 hb5 HF
      go_wp2_with fail
      refine HA.out.mono ?_
      rintro e6 w6 ⟨rfl, hf6⟩
      have HR1 := Lib.hid (hf6.remove (by decide) (by decide) (by omega) (by omega))
      clear hf6 HA
      go_wp2_with fail
      refine HR1.out.mono ?_
      rintro e7 w7 ⟨rfl, hf7⟩
      have HR2 := Lib.hid (hf7.remove (by decide) (by omega))
      clear hf7 HR1
      go_wp2_with fail
      refine HR2.out.mono ?_
      rintro e8 w8 ⟨rfl, ⟨S8, hs8, hu8⟩, hb8⟩
      have HU := Lib.hid (dused_c hs8)
      rw [hu8] at HU
      have HB := Lib.hid hb8
      clear hs8 hu8 hb8 HR2
      go_wp2_with fail
      refine HU.out.mono ?_
      rintro e9 w9 ⟨rfl, rfl⟩
      go_wp2_with fail
      go_ret
      exact ⟨rfl, HB.out⟩
end Go.Proofs.Ytjpcbmfnjifgfaa
