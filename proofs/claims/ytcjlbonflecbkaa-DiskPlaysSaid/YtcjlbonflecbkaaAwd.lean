/-
  awake of the disk's statements answers yes.
-/
import Derived.Test.YtcjlbonflecbkaaDkw
import Derived.Test.YtcjlbonflecbkaaDnn
import Derived.Lib.SlBytesConst
namespace Go.Proofs.Ytcjlbonflecbkaa
open Go.RowKit
set_option linter.unusedVariables false
theorem conv_xy (w : World) : (convert 30 30 (.slice (some ⟨w.heap.size, 0, none⟩) 2 2)).run Try.prog (w.alloc (.cells #[.int .u8 120, .int .u8 121] 5)) = .ok (.slice (some ⟨w.heap.size, 0, none⟩) 2 2) (w.alloc (.cells #[.int .u8 120, .int .u8 121] 5 (2, 3))) :=
  Lib.run_convert_bytes_const (P := Try.prog) w 30 5 #[.int .u8 120, .int .u8 121] 2 2 Try.underlying30 Try.underlying5
def awA : Ad := ⟨9, -1, false, [], [], []⟩
def awB : Ad := (awA.step ⟨0, ⟨#[97]⟩, ⟨#[]⟩, []⟩).1
def awC : Ad := (awB.step ⟨1, ⟨#[97]⟩, ⟨#[]⟩, [120, 121]⟩).1
def awD : Ad := awC.crash 1 1
theorem aw1 : (awA.step ⟨0, ⟨#[97]⟩, ⟨#[]⟩, []⟩).2 = 0 := by decide +kernel
theorem aw2 : (awB.step ⟨1, ⟨#[97]⟩, ⟨#[]⟩, [120, 121]⟩).2 = 0 := by decide +kernel
theorem aw3 : awD.down = false ∧ lookF awD.now ⟨#[97]⟩ = some [120] := by decide +kernel
set_option maxRecDepth 100000 in
set_option maxHeartbeats 4000000 in
theorem awake9_c (w : World) : Calls Try.prog 7 #[] w fun e w' => e = .returned (.bool true) ∧ Below w.heap.size w w' := by
  have HD := Lib.hid (dnew_c 9 w (by omega) (by omega))
  have ha : (⟨#[97]⟩ : ByteArray).size ≤ maxLen := by unfold maxLen; exact Nat.le_of_lt (by decide)
  have HA := Lib.hid ha
  clear ha
  go_enter Try.func7, Try.ntmps7
  go_wp2_with fail
  refine HD.out.mono ?_
  rintro e1 w1 ⟨rfl, hk1, hb1⟩
  obtain ⟨d, hd⟩ : ∃ d, d = w.heap.size := ⟨_, rfl⟩
  have hk1 : DK w.heap.size d (newS 9) w1 := by rw [hd]; exact hk1
  rw [← hd]
  have HC := Lib.hid (acreate hk1 (anewS 9 (by omega) (by omega)) ⟨#[97]⟩ HA.out (by omega))
  rw [show ((⟨9, -1, false, [], [], []⟩ : Ad).step ⟨0, ⟨#[97]⟩, ⟨#[]⟩, []⟩).2 = 0 from aw1] at HC
  have HB1 := Lib.hid hb1
  have HDW := Lib.hid hd
  have HK1 := Lib.hid hk1
  clear hk1 hb1 HD hd
  go_wp2_with fail
  refine HC.out.mono ?_
  rintro e2 w2 ⟨rfl, S2, hk2, hr2, hm2⟩
  have kc := conv_xy w2
  obtain ⟨w3, hw3⟩ : ∃ w3, w3 = w2.alloc (.cells #[.int .u8 120, .int .u8 121] 5 (2, 3)) := ⟨_, rfl⟩
  obtain ⟨gb, hgb⟩ : ∃ gb, gb = w2.heap.size := ⟨_, rfl⟩
  have hk3 : DK w.heap.size d S2 w3 := by rw [hw3]; exact hk2.alloc _
  have hc3 : w3.heap[gb]? = some (.cells #[.int .u8 120, .int .u8 121] 5 (2, 3)) := by rw [hw3, hgb]; exact heap_alloc_new w2 _
  have hrd3 : Rd w3 (some ⟨gb, 0, none⟩) 2 [120, 121] := ⟨rfl, by decide, .inr ⟨gb, 0, rfl, by rw [hw3, hgb]; simp, fun i hi => by
    rw [Nat.zero_add, cell_of_row w3 gb i _ _ _ hc3]
    match i, hi with
    | 0, _ => rfl
    | 1, _ => rfl⟩⟩
  have HAP := Lib.hid (aappend hk3 hr2 ⟨#[97]⟩ HA.out (some ⟨gb, 0, none⟩) 2 2 [120, 121] ⟨hrd3, fun b o s e _ ho => by
    cases e
    have := (hk2.ownLt ho).2
    omega, fun e => by cases e⟩ (by omega))
  rw [show (((⟨9, -1, false, [], [], []⟩ : Ad).step ⟨0, ⟨#[97]⟩, ⟨#[]⟩, []⟩).1.step ⟨1, ⟨#[97]⟩, ⟨#[]⟩, [120, 121]⟩).2 = 0 from aw2] at HAP
  have HB2 := Lib.hid (HB1.out.trans (hm2.below HK1.out))
  have HB3 := Lib.hid (show Below w.heap.size w2 w3 from by rw [hw3]; exact (Below.refl _ _).alloc (by have := HB2.out.size; exact this) _)
  have HK3 := Lib.hid hk3
  clear hk2 hr2 hm2 hk3 hc3 hrd3 HC
  go_wp2_with fail
  rw [← hgb, ← hw3]
  clear hw3 kc hgb
  refine HAP.out.mono ?_
  rintro e4 w4 ⟨rfl, S4, hk4, hr4, hm4⟩
  have HCR := Lib.hid (acrash hk4 hr4 1 1 (by omega))
  have HB4 := Lib.hid ((HB2.out.trans HB3.out).trans (hm4.below HK3.out))
  have HK4 := Lib.hid hk4
  clear hk4 hr4 hm4 HAP HB3 HK3
  go_wp2_with fail
  refine HCR.out.mono ?_
  rintro e5 w5 ⟨rfl, S5, hk5, hr5, hm5⟩
  have hrd := aread hk5 hr5 ⟨#[97]⟩ HA.out 0 9
  unfold RdA at hrd
  rw [show (Ad.crash (((⟨9, -1, false, [], [], []⟩ : Ad).step ⟨0, ⟨#[97]⟩, ⟨#[]⟩, []⟩).1.step ⟨1, ⟨#[97]⟩, ⟨#[]⟩, [120, 121]⟩).1 1 1) = awD from rfl, aw3.1, aw3.2] at hrd
  simp only [Bool.false_eq_true, if_false] at hrd
  rw [show (List.take (Int.toNat 9) (List.drop (Int.toNat 0) [120])) = [120] from rfl] at hrd
  have HRD := Lib.hid hrd
  have HB5 := Lib.hid (HB4.out.trans (hm5.below HK4.out))
  clear hk5 hr5 hm5 HCR HB4 HK4 hrd
  go_wp2_with fail
  refine HRD.out.mono ?_
  rintro e6 w6 ⟨va, vn, vc, rfl, hown, hvn, hz, hb6⟩
  obtain ⟨a', c', hv, -, -, hr6⟩ := hown.rd hz
  obtain ⟨e1, e2, e3⟩ := Value.slice.inj hv
  subst e1
  subst e2
  have hst := run_str (w := w6) (ad := va) (len := 1) (cap := vc) (zs := [120]) hr6
  rw [show str [120] = ⟨#[120]⟩ by decide] at hst
  have HB6 := Lib.hid (HB5.out.trans (hb6.mono HB5.out.size))
  clear HRD hown hv hr6 hb6 hz hvn e3
  go_wp2_with fail
  go_ret
  exact ⟨rfl, HB6.out⟩
end Go.Proofs.Ytcjlbonflecbkaa
