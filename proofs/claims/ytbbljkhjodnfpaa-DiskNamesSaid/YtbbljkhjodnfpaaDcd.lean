/-
  awake of the disk's statements answers yes.
-/
import Derived.Test.YtbbljkhjodnfpaaDcc
import Derived.Lib.SlBytesConst
namespace Go.Proofs.Ytbbljkhjodnfpaa
open Go.Proofs.Ytbbljkhjodnfpaa.Ev
open Go.RowKit Go.Shelf
set_option linter.unusedVariables false
attribute [local go_sem] Oper.semAt_some
theorem Ev.Stt.layF {w0 : World} {V : Vl} {m : Mem} {w : World} (h : Stt w0 V m w) (t : TypeId) (l : List AV) (vs : List Value) (hl : AV.are V l vs) :
    ∃ V', V.le V' ∧ V' m.next = some (w.heap.size, vs.length) ∧ Stt w0 V' (m.new (.cells t l true)) (w.alloc (.cells vs.toArray t (vs.length, vs.length + 1))) := by
  have hlen := AV.are_length hl
  have hs := Step.new (w' := w.alloc (.cells vs.toArray t (vs.length, vs.length + 1))) h.sat (h.free m.next (Nat.le_refl _)) (.cells t l true) (.cells vs.toArray t (vs.length, vs.length + 1)) vs.length rfl rfl rfl rfl fun V' hle hn => by
    refine ⟨_, vs.toArray, (vs.length, vs.length + 1), hn, heap_alloc_new w _, by simp, by simp [hlen], ?_, fun _ => by simp [hlen], .inr (Nat.le_refl _)⟩
    rw [show (vs.toArray.toList.take l.length) = vs by simp [← hlen]]
    exact AV.are.mono hle hl
  obtain ⟨h1, h2⟩ := h.step (Fact.new m _) hs
  exact ⟨_, h2, if_pos rfl, h1⟩
theorem convD (w : World) : (convert 30 30 (.slice (some ⟨w.heap.size, 0, none⟩) 2 2)).run Try.prog (w.alloc (.cells #[.int .u8 120, .int .u8 121] 5)) = .ok (.slice (some ⟨w.heap.size, 0, none⟩) 2 2) (w.alloc (.cells #[.int .u8 120, .int .u8 121] 5 (2, 3))) :=
  Lib.run_convert_bytes_const (P := Try.prog) w 30 5 #[.int .u8 120, .int .u8 121] 2 2 Try.underlying30 Try.underlying5
theorem one_byte {w0 W : World} {V : Vl} {m : Mem} (h : Stt w0 V m W) (hm : is1 (m.get 10) = true) {p : Nat × Nat} (hp : V 10 = some p) : W.cell? ⟨p.1, 0, none⟩ = some (.int .u8 120) := by
  unfold is1 at hm
  split at hm
  · rename_i t n xs ex hb
    obtain rfl := of_decide_eq_true hm
    obtain ⟨q, v, h1, h2, h3, h4⟩ := h.cell hb (i := 0) rfl
    rw [hp] at h1
    cases h1
    obtain rfl : v = _ := h4
    exact h3
  · cases hm
set_option maxRecDepth 100000 in
set_option maxHeartbeats 4000000 in
theorem awake9_c (w : World) : Calls Try.prog 8 #[] w fun e w' => e = .returned (.bool true) ∧ Below w.heap.size w w' := by
  have hmix : Try.prog.follows .mixedOrders = true := by kernel_rfl
  have HR1 := Lib.hid (Stt.run dawk_book (fun _ => rfl) hmix dr1 (Stt.start w) (vs := [.int .i64 9]) (are_lits [.int .i64 9]))
  go_enter Try.func8, Try.ntmps8
  go_wp2_with fail
  refine HR1.out.mono ?_
  rintro e1 w1 ⟨V1, v1, hle1, hs1, rfl, hv1, -⟩
  obtain ⟨_, ⟨x1, _, rfl, ⟨pd, hpd, rfl⟩, ⟨x2, _, rfl, hx2, hx3⟩⟩, rfl⟩ := hv1
  obtain rfl : x2 = .int .i64 0 := hx2
  obtain rfl := hx3
  have HR2 := Lib.hid (Stt.run dawk_book (fun _ => rfl) hmix dr2 hs1 (vs := [.pointer (some ⟨pd.1, 0, none⟩), .string ⟨#[97]⟩]) ⟨_, _, rfl, ⟨pd, hpd, rfl⟩, ⟨_, _, rfl, rfl, rfl⟩⟩)
  have HD1 := Lib.hid hpd
  clear hs1 hle1 HR1 hpd
  go_wp2_with fail
  refine HR2.out.mono ?_
  rintro e2 w2 ⟨V2, v2, hle2, hs2, rfl, hv2, -⟩
  obtain rfl : v2 = .int .i64 0 := hv2
  have HS2 := Lib.hid hs2
  have HD2 := Lib.hid (hle2 _ _ HD1.out)
  clear hs2 hle2 HR2 HD1
  have kc := convD w2
  obtain ⟨V3, hle3, hb3, hs3⟩ := HS2.out.layF 5 [.lit (.int .u8 120), .lit (.int .u8 121)] [.int .u8 120, .int .u8 121] (are_lits [.int .u8 120, .int .u8 121])
  have HD3 := Lib.hid (hle3 _ _ HD2.out)
  have HR3 := Lib.hid (Stt.run dawk_book (fun _ => rfl) hmix dr3 hs3 (vs := [.pointer (some ⟨pd.1, 0, none⟩), .string ⟨#[97]⟩, .slice (some ⟨w2.heap.size, 0, none⟩) 2 2]) ⟨_, _, rfl, ⟨pd, HD3.out, rfl⟩, ⟨_, _, rfl, rfl, ⟨_, _, rfl, ⟨_, 0, 2, hb3, rfl, fun k hk => by cases hk; rfl, Nat.le_refl _, by simp, .inl rfl⟩, rfl⟩⟩⟩)
  clear hle3 hb3 hs3 HS2 HD2
  go_wp2_with fail
  refine HR3.out.mono ?_
  rintro e4 w4 ⟨V4, v4, hle4, hs4, rfl, hv4, -⟩
  obtain rfl : v4 = .int .i64 0 := hv4
  have HCR := Lib.hid (crash_c hs4 (hle4 _ _ HD3.out))
  have HD4 := Lib.hid (hle4 _ _ HD3.out)
  clear hs4 hle4 HR3 HD3 kc
  go_wp2_with fail
  refine HCR.out.mono ?_
  rintro e5 w5 ⟨rfl, V5, hle5, hs5⟩
  have HR7 := Lib.hid (Stt.run dawk_book (fun _ => rfl) hmix dr7 hs5 (vs := [.pointer (some ⟨pd.1, 0, none⟩), .string ⟨#[97]⟩, .int .i64 0, .int .i64 9]) ⟨_, _, rfl, ⟨pd, hle5 _ _ HD4.out, rfl⟩, ⟨_, _, rfl, rfl, ⟨_, _, rfl, rfl, ⟨_, _, rfl, rfl, rfl⟩⟩⟩⟩)
  clear hs5 hle5 HCR HD4
  go_wp2_with fail
  refine HR7.out.mono ?_
  rintro e7 w7 ⟨V7, v7, hle7, hs7, rfl, hv7, -⟩
  obtain ⟨_, ⟨x1, _, rfl, ⟨p, o', c, hp, rfl, -, hc1, hc2, ho⟩, ⟨x2, _, rfl, hx2, hx3⟩⟩, rfl⟩ := hv7
  obtain rfl : x2 = .int .i64 0 := hx2
  obtain rfl := hx3
  obtain rfl : o' = 0 := by omega
  have hc0 := one_byte hs7 dc7 hp
  have hlt := hs7.top _ _ hp
  have HB := Lib.hid hs7.below
  have hst := run_str (w := w7) (ad := some ⟨p.1, 0, none⟩) (len := 1) (cap := c) (zs := [120]) ⟨rfl, by decide, .inr ⟨p.1, 0, rfl, hlt, fun i hi => by
    obtain rfl : i = 0 := by omega
    exact hc0⟩⟩
  have hs120 : str [120] = ⟨#[120]⟩ := by decide
  rw [hs120] at hst
  clear hs7 hle7 HR7 hp hc1 hc2 ho hc0 hlt hs120
  go_wp2_with fail
  go_ret
  exact ⟨rfl, HB.out⟩
end Go.Proofs.Ytbbljkhjodnfpaa
