/-
  A disk in memory: the contracts of Create, Remove, Sync, Used, Loose.
-/
import Derived.Test.YtbbljkhjodnfpaaDkd
namespace Go.Proofs.Ytbbljkhjodnfpaa
open Go.RowKit Go.Maps
set_option linter.unusedVariables false
def isNm (s : ByteArray) : Bool := decide (1 ≤ s.size) && decide (s.size ≤ 160)
theorem clone_c (s : ByteArray) (w : World) (hs : s.size ≤ maxLen) (hs2 : s.size ≤ 160) : Calls Try.prog 62 #[.string s] w fun e w' => e = .returned (.string s) ∧ Below w.heap.size w w' := by
  have H := Lib.hid (stringslite_Clone s w (by omega))
  go_enter Try.func62, Try.ntmps62
  go_wp2_with fail
  refine H.out.mono ?_
  rintro e1 w1 ⟨rfl, hb⟩
  have HB := Lib.hid hb
  clear hb H
  go_wp2_with fail
  go_ret
  exact ⟨rfl, HB.out⟩
/-- what Create leaves where nothing refuses it -/
def Dsk.made (S : Dsk) (s : ByteArray) (b m : Nat) (v : Value) : Dsk := ((S.file b ⟨s, .slice none 0 0, []⟩).put m b ⟨s, .slice none 0 0, []⟩).more v ⟨0, b, 0, ⟨#[]⟩, none⟩
set_option maxRecDepth 100000 in
set_option maxHeartbeats 4000000 in
theorem dcreate_ok {B d : Nat} {S : Dsk} {w : World} (h : DK B d S w) (s : ByteArray) (hs : s.size ≤ maxLen) (hd : S.down = false) (hn : isNm s = true) (ha : S.at s = none) (hz : Maps.size S.D < 4096) (hf : S.fuse ≠ 0) (hn1 : S.n < 1000000000) (hl : S.loose.length < 1000000000) :
    Calls Try.prog 15 #[.pointer (some ⟨d, 0, none⟩), .string s] w fun e w' => e = .returned (.int .i64 0) ∧ ∃ b m v, S.fl b = none ∧ DK B d (S.step.1.made s b m v) w' ∧ Mov S d (S.step.1.made s b m v) w w' := by
  have hs2 : s.size ≤ 160 := by
    unfold isNm at hn
    simp only [Bool.and_eq_true, decide_eq_true_eq] at hn
    exact hn.2
  have c1 := h.cells.2.1
  have hlk := h.rest.look hs
  rw [ha] at hlk
  simp only [ptrOf, Option.map_none] at hlk
  have hlen := fun ty => h.rest.len ty
  have hz' : ¬ (4096 : Int) ≤ (Maps.size S.D : Int) := by omega
  have hst : S.step.2 = 0 ∧ S.step.1.n = S.n ∧ S.step.1.fl = S.fl ∧ S.step.1.loose = S.loose := by
    unfold Dsk.step
    rw [if_neg hf]
    split <;> exact ⟨rfl, rfl, rfl, rfl⟩
  have HR := Lib.hid (dready_c h)
  rw [hd] at HR
  have HI := Lib.hid (isname_c s w hs)
  rw [show (decide (1 ≤ s.size) && decide (s.size ≤ 160)) = true from hn] at HI
  have HST := Lib.hid (dstep_c h)
  rw [hst.1] at HST
  have HE := Lib.hid hst.2
  clear h ha hst hz hn
  go_enter Try.func15, Try.ntmps15
  go_wp2_with fail
  refine HR.out.mono ?_
  rintro e1 w1 ⟨rfl, rfl⟩
  go_wp2_with fail
  refine HI.out.mono ?_
  rintro e2 w2 ⟨rfl, rfl⟩
  go_wp2_with fail
  refine HST.out.mono ?_
  rintro e3 w3 ⟨rfl, hk3, hm3⟩
  have HK3 := Lib.hid hk3
  have HM3 := Lib.hid hm3
  clear c1 hlk hlen hk3 hm3 HR HI HST hz'
  go_wp2_with fail
  refine (clone_c s w3 hs hs2).mono ?_
  rintro e4 w4 ⟨rfl, hb4⟩
  obtain ⟨hk5, hm5⟩ := (HK3.out.below hb4).newFile s
  have HK5 := Lib.hid hk5
  have HM5 := Lib.hid ((HM3.out.trans (Mov.ofBelow hb4)).trans hm5)
  have HFR := Lib.hid (show S.fl w4.heap.size = none from by
    have hk4 := HK3.out.below hb4
    rw [← HE.out.2.1]
    cases e : S.step.1.fl w4.heap.size with
    | none => rfl
    | some f =>
      have := (hk4.rest.kind (.inr (.inl ⟨f, e⟩))).2.1
      omega)
  have hn5 : (S.step.1.file w4.heap.size ⟨s, .slice none 0 0, []⟩).n < maxLen := by
    show S.step.1.n < maxLen
    rw [HE.out.1]
    unfold maxLen
    omega
  obtain ⟨b, hbe⟩ : ∃ b, b = w4.heap.size := ⟨_, rfl⟩
  have HP := Lib.hid (dput_c hk5 (b := w4.heap.size) (f := ⟨s, .slice none 0 0, []⟩) (by show (if _ then _ else _) = _; rw [if_pos rfl]) hs hn5)
  rw [← hbe] at HK5 HM5 HFR HP hn5
  clear hb4 hk5 hm5 HK3 HM3 hn5
  go_wp2_with fail
  rw [← hbe]
  refine HP.out.mono ?_
  rintro e6 w6 ⟨rfl, m, hk6, hm6⟩
  have HK6 := Lib.hid hk6
  have HM6 := Lib.hid (HM5.out.trans hm6)
  have c3 := hk6.cells.2.2.2.1
  have hll : ((S.step.1.file b ⟨s, .slice none 0 0, []⟩).put m b ⟨s, .slice none 0 0, []⟩).loose.length + 1 ≤ 1000000000 := by
    show S.step.1.loose.length + 1 ≤ _
    rw [HE.out.2.2]
    omega
  have HLL := Lib.hid hll
  clear hk6 hm6 hll HK5 HM5 HP hbe
  obtain ⟨SX, hSX⟩ : ∃ SX, SX = (S.step.1.file b ⟨s, .slice none 0 0, []⟩).put m b ⟨s, .slice none 0 0, []⟩ := ⟨_, rfl⟩
  have HC := Lib.hid (show (∃ f, SX.fl b = some f) ∧ ∀ b', (none : Option Nat) = some b' → ∃ f, SX.fl b' = some f from ⟨⟨⟨s, .slice none 0 0, []⟩, by rw [hSX]; show (if _ then _ else _) = _; rw [if_pos rfl]⟩, fun b' hb => by cases hb⟩)
  rw [← hSX] at HK6 HM6 HLL c3
  have HSX := Lib.hid hSX
  clear hSX
  go_wp2_with (at_builtin; refine wpList_pushC rfl (.tmp 48) (.tmp 51) rfl B d SX ⟨0, b, 0, ⟨#[]⟩, none⟩ HK6.out (by rfl) (by rfl) HLL.out HC.out ?_; intro va vn vc w7 c7 f7 hk7 hm7; have HK7 := Lib.hid hk7; have HM7 := Lib.hid hm7; clear hk7 hm7 c3)
  go_ret
  refine ⟨rfl, b, m, .slice va vn vc, HFR.out, ?_, ?_⟩
  · have := HK7.out
    rw [HSX.out] at this
    exact this
  · have := HM6.out.trans HM7.out
    rw [HSX.out] at this
    exact this
end Go.Proofs.Ytbbljkhjodnfpaa
