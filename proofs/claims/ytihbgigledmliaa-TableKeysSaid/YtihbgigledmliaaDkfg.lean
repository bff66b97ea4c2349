/-
  A disk in memory: the contracts of Create, Remove, Sync, Used, Loose. A disk in memory: what Create refuses; Remove, Sync, Used, Loose. A disk in memory: which names it has behind each change.
-/
import Derived.Test.YtihbgigledmliaaDkd
namespace Go.Proofs.Ytihbgigledmliaa
open Go.RowKit Go.Maps
set_option linter.unusedVariables false
def isNm (s : ByteArray) : Bool := decide (1 ≤ s.size) && decide (s.size ≤ 160)
theorem clone_c (s : ByteArray) (w : World) (hs : s.size ≤ maxLen) (hs2 : s.size ≤ 160) : Calls Try.prog 27 #[.string s] w fun e w' => e = .returned (.string s) ∧ Below w.heap.size w w' := by
  have H := Lib.hid (stringslite_Clone s w (by omega))
  go_enter Try.func27, Try.ntmps27
  go_wp2_with fail
  refine H.out.mono ?_
  rintro e1 w1 ⟨rfl, hb⟩
  have HB := Lib.hid hb
  clear hb H
  go_wp2_with fail
  go_ret
  exact ⟨rfl, HB.out⟩
/-- what Create leaves where nothing refuses it -/
def Dsk.made (S : Dsk) (s : ByteArray) (b m : Nat) (v : Value) : Dsk := ((S.file b ⟨s, .slice none 0 0, []⟩).put m b ⟨s, .slice none 0 0, []⟩).more v ⟨0, b, 0, ⟨#[]⟩, none⟩
set_option maxRecDepth 100000 in
set_option maxHeartbeats 4000000 in
theorem dcreate_ok {B d : Nat} {S : Dsk} {w : World} (h : DK B d S w) (s : ByteArray) (hs : s.size ≤ maxLen) (hd : S.down = false) (hn : isNm s = true) (ha : S.at s = none) (hz : Maps.size S.D < 4096) (hf : S.fuse ≠ 0) (hn1 : S.n < 1000000000) (hl : S.loose.length < 1000000000) :
    Calls Try.prog 48 #[.pointer (some ⟨d, 0, none⟩), .string s] w fun e w' => e = .returned (.int .i64 0) ∧ ∃ b m v, S.fl b = none ∧ DK B d (S.step.1.made s b m v) w' ∧ Mov S d (S.step.1.made s b m v) w w' := by
  have hs2 : s.size ≤ 160 := by
    unfold isNm at hn
    simp only [Bool.and_eq_true, decide_eq_true_eq] at hn
    exact hn.2
  have c1 := h.cells.2.1
  have hlk := h.rest.look hs
  rw [ha] at hlk
  simp only [ptrOf, Option.map_none] at hlk
  have hlen := fun ty => h.rest.len ty
  have hz' : ¬ (4096 : Int) ≤ (Maps.size S.D : Int) := by omega
  have hst : S.step.2 = 0 ∧ S.step.1.n = S.n ∧ S.step.1.fl = S.fl ∧ S.step.1.loose = S.loose := by
    unfold Dsk.step
    rw [if_neg hf]
    split <;> exact ⟨rfl, rfl, rfl, rfl⟩
  have HR := Lib.hid (dready_c h)
  rw [hd] at HR
  have HI := Lib.hid (isname_c s w hs)
  rw [show (decide (1 ≤ s.size) && decide (s.size ≤ 160)) = true from hn] at HI
  have HST := Lib.hid (dstep_c h)
  rw [hst.1] at HST
  have HE := Lib.hid hst.2
  clear h ha hst hz hn
  go_enter Try.func48, Try.ntmps48
  go_wp2_with fail
  refine HR.out.mono ?_
  rintro e1 w1 ⟨rfl, rfl⟩
  go_wp2_with fail
  refine HI.out.mono ?_
  rintro e2 w2 ⟨rfl, rfl⟩
  go_wp2_with fail
  refine HST.out.mono ?_
  rintro e3 w3 ⟨rfl, hk3, hm3⟩
  have HK3 := Lib.hid hk3
  have HM3 := Lib.hid hm3
  clear c1 hlk hlen hk3 hm3 HR HI HST hz'
  go_wp2_with fail
  refine (clone_c s w3 hs hs2).mono ?_
  rintro e4 w4 ⟨rfl, hb4⟩
  obtain ⟨hk5, hm5⟩ := (HK3.out.below hb4).newFile s
  have HK5 := Lib.hid hk5
  have HM5 := Lib.hid ((HM3.out.trans (Mov.ofBelow hb4)).trans hm5)
  have HFR := Lib.hid (show S.fl w4.heap.size = none from by
    have hk4 := HK3.out.below hb4
    rw [← HE.out.2.1]
    cases e : S.step.1.fl w4.heap.size with
    | none => rfl
    | some f =>
      have := (hk4.rest.kind (.inr (.inl ⟨f, e⟩))).2.1
      omega)
  have hn5 : (S.step.1.file w4.heap.size ⟨s, .slice none 0 0, []⟩).n < maxLen := by
    show S.step.1.n < maxLen
    rw [HE.out.1]
    unfold maxLen
    omega
  obtain ⟨b, hbe⟩ : ∃ b, b = w4.heap.size := ⟨_, rfl⟩
  have HP := Lib.hid (dput_c hk5 (b := w4.heap.size) (f := ⟨s, .slice none 0 0, []⟩) (by show (if _ then _ else _) = _; rw [if_pos rfl]) hs hn5)
  rw [← hbe] at HK5 HM5 HFR HP hn5
  clear hb4 hk5 hm5 HK3 HM3 hn5
  go_wp2_with fail
  rw [← hbe]
  refine HP.out.mono ?_
  rintro e6 w6 ⟨rfl, m, hk6, hm6⟩
  have HK6 := Lib.hid hk6
  have HM6 := Lib.hid (HM5.out.trans hm6)
  have c3 := hk6.cells.2.2.2.1
  have hll : ((S.step.1.file b ⟨s, .slice none 0 0, []⟩).put m b ⟨s, .slice none 0 0, []⟩).loose.length + 1 ≤ 1000000000 := by
    show S.step.1.loose.length + 1 ≤ _
    rw [HE.out.2.2]
    omega
  have HLL := Lib.hid hll
  clear hk6 hm6 hll HK5 HM5 HP hbe
  obtain ⟨SX, hSX⟩ : ∃ SX, SX = (S.step.1.file b ⟨s, .slice none 0 0, []⟩).put m b ⟨s, .slice none 0 0, []⟩ := ⟨_, rfl⟩
  have HC := Lib.hid (show (∃ f, SX.fl b = some f) ∧ ∀ b', (none : Option Nat) = some b' → ∃ f, SX.fl b' = some f from ⟨⟨⟨s, .slice none 0 0, []⟩, by rw [hSX]; show (if _ then _ else _) = _; rw [if_pos rfl]⟩, fun b' hb => by cases hb⟩)
  rw [← hSX] at HK6 HM6 HLL c3
  have HSX := Lib.hid hSX
  clear hSX
  go_wp2_with (at_builtin; refine wpList_pushC rfl (.tmp 48) (.tmp 51) rfl B d SX ⟨0, b, 0, ⟨#[]⟩, none⟩ HK6.out (by rfl) (by rfl) HLL.out HC.out ?_; intro va vn vc w7 c7 f7 hk7 hm7; have HK7 := Lib.hid hk7; have HM7 := Lib.hid hm7; clear hk7 hm7 c3)
  go_ret
  refine ⟨rfl, b, m, .slice va vn vc, HFR.out, ?_, ?_⟩
  · have := HK7.out
    rw [HSX.out] at this
    exact this
  · have := HM6.out.trans HM7.out
    rw [HSX.out] at this
    exact this
end Go.Proofs.Ytihbgigledmliaa
namespace Go.Proofs.Ytihbgigledmliaa
open Go.RowKit Go.Maps
set_option linter.unusedVariables false

set_option maxRecDepth 100000 in
set_option maxHeartbeats 4000000 in
theorem dcreate_down {B d : Nat} {S : Dsk} {w : World} (h : DK B d S w) (s : ByteArray) (hs : s.size ≤ maxLen) (hd : S.down = true) : Calls Try.prog 48 #[.pointer (some ⟨d, 0, none⟩), .string s] w fun e w' => e = .returned (.int .i64 5) ∧ w' = w := by
  have HR := Lib.hid (dready_c h)
  rw [hd] at HR
  clear h
  go_enter Try.func48, Try.ntmps48
  go_wp2_with fail
  refine HR.out.mono ?_
  rintro e1 w1 ⟨rfl, rfl⟩
  go_wp2_with fail
  go_ret
  exact ⟨rfl, rfl⟩
set_option maxRecDepth 100000 in
set_option maxHeartbeats 4000000 in
theorem dcreate_bad {B d : Nat} {S : Dsk} {w : World} (h : DK B d S w) (s : ByteArray) (hs : s.size ≤ maxLen) (hd : S.down = false) (hn : isNm s = false) : Calls Try.prog 48 #[.pointer (some ⟨d, 0, none⟩), .string s] w fun e w' => e = .returned (.int .i64 1) ∧ w' = w := by
  have HR := Lib.hid (dready_c h)
  rw [hd] at HR
  have HI := Lib.hid (isname_c s w hs)
  rw [show (decide (1 ≤ s.size) && decide (s.size ≤ 160)) = false from hn] at HI
  clear h hn
  go_enter Try.func48, Try.ntmps48
  go_wp2_with fail
  refine HR.out.mono ?_
  rintro e1 w1 ⟨rfl, rfl⟩
  go_wp2_with fail
  refine HI.out.mono ?_
  rintro e2 w2 ⟨rfl, rfl⟩
  go_wp2_with fail
  go_ret
  exact ⟨rfl, rfl⟩
set_option maxRecDepth 100000 in
set_option maxHeartbeats 4000000 in
theorem dcreate_twice {B d : Nat} {S : Dsk} {w : World} (h : DK B d S w) (s : ByteArray) (hs : s.size ≤ maxLen) (hd : S.down = false) (hn : isNm s = true) {b : Nat} (ha : S.at s = some b) : Calls Try.prog 48 #[.pointer (some ⟨d, 0, none⟩), .string s] w fun e w' => e = .returned (.int .i64 7) ∧ w' = w := by
  have HR := Lib.hid (dready_c h)
  rw [hd] at HR
  have HI := Lib.hid (isname_c s w hs)
  rw [show (decide (1 ≤ s.size) && decide (s.size ≤ 160)) = true from hn] at HI
  have c1 := h.cells.2.1
  have hlk := h.rest.look hs
  rw [ha] at hlk
  simp only [ptrOf, Option.map_some] at hlk
  clear h hn ha
  go_enter Try.func48, Try.ntmps48
  go_wp2_with fail
  refine HR.out.mono ?_
  rintro e1 w1 ⟨rfl, rfl⟩
  go_wp2_with fail
  refine HI.out.mono ?_
  rintro e2 w2 ⟨rfl, rfl⟩
  go_wp2_with fail
  go_ret
  exact ⟨rfl, rfl⟩
set_option maxRecDepth 100000 in
set_option maxHeartbeats 4000000 in
theorem dcreate_full {B d : Nat} {S : Dsk} {w : World} (h : DK B d S w) (s : ByteArray) (hs : s.size ≤ maxLen) (hd : S.down = false) (hn : isNm s = true) (ha : S.at s = none) (hz : 4096 ≤ Maps.size S.D) : Calls Try.prog 48 #[.pointer (some ⟨d, 0, none⟩), .string s] w fun e w' => e = .returned (.int .i64 4) ∧ w' = w := by
  have HR := Lib.hid (dready_c h)
  rw [hd] at HR
  have HI := Lib.hid (isname_c s w hs)
  rw [show (decide (1 ≤ s.size) && decide (s.size ≤ 160)) = true from hn] at HI
  have c1 := h.cells.2.1
  have hlk := h.rest.look hs
  rw [ha] at hlk
  simp only [ptrOf, Option.map_none] at hlk
  have hlen := fun ty => h.rest.len ty
  have hz' : (4096 : Int) ≤ (Maps.size S.D : Int) := by omega
  clear h hn ha hz
  go_enter Try.func48, Try.ntmps48
  go_wp2_with fail
  refine HR.out.mono ?_
  rintro e1 w1 ⟨rfl, rfl⟩
  go_wp2_with fail
  refine HI.out.mono ?_
  rintro e2 w2 ⟨rfl, rfl⟩
  go_wp2_with fail
  go_ret
  exact ⟨rfl, rfl⟩
set_option maxRecDepth 100000 in
set_option maxHeartbeats 4000000 in
theorem dcreate_power {B d : Nat} {S : Dsk} {w : World} (h : DK B d S w) (s : ByteArray) (hs : s.size ≤ maxLen) (hd : S.down = false) (hn : isNm s = true) (ha : S.at s = none) (hz : Maps.size S.D < 4096) (hf : S.fuse = 0) : Calls Try.prog 48 #[.pointer (some ⟨d, 0, none⟩), .string s] w fun e w' => e = .returned (.int .i64 5) ∧ DK B d { S with down := true } w' ∧ Mov S d { S with down := true } w w' := by
  have HR := Lib.hid (dready_c h)
  rw [hd] at HR
  have HI := Lib.hid (isname_c s w hs)
  rw [show (decide (1 ≤ s.size) && decide (s.size ≤ 160)) = true from hn] at HI
  have c1 := h.cells.2.1
  have hlk := h.rest.look hs
  rw [ha] at hlk
  simp only [ptrOf, Option.map_none] at hlk
  have hlen := fun ty => h.rest.len ty
  have hz' : ¬ (4096 : Int) ≤ (Maps.size S.D : Int) := by omega
  have hst : S.step = ({ S with down := true }, 5) := by
    unfold Dsk.step
    rw [if_pos hf]
  have HST := Lib.hid (dstep_c h)
  rw [hst] at HST
  clear h hn ha hz hst
  go_enter Try.func48, Try.ntmps48
  go_wp2_with fail
  refine HR.out.mono ?_
  rintro e1 w1 ⟨rfl, rfl⟩
  go_wp2_with fail
  refine HI.out.mono ?_
  rintro e2 w2 ⟨rfl, rfl⟩
  go_wp2_with fail
  refine HST.out.mono ?_
  rintro e3 w3 ⟨rfl, hk3, hm3⟩
  have HK3 := Lib.hid hk3
  have HM3 := Lib.hid hm3
  clear c1 hlk hlen hk3 hm3 HR HI HST hz'
  go_wp2_with fail
  go_ret
  exact ⟨rfl, HK3.out, HM3.out⟩
/-- what Remove leaves where nothing refuses it -/
def Dsk.gone (S : Dsk) (f : Fil) (b : Nat) (v : Value) : Dsk := (S.drop f).more v ⟨2, b, 0, ⟨#[]⟩, none⟩
set_option maxRecDepth 100000 in
set_option maxHeartbeats 4000000 in
theorem dremove_ok {B d : Nat} {S : Dsk} {w : World} (h : DK B d S w) (s : ByteArray) (hs : s.size ≤ maxLen) (hd : S.down = false) {b : Nat} {f : Fil} (ha : S.at s = some b) (hfl : S.fl b = some f) (hf : S.fuse ≠ 0) (hl : S.loose.length < 1000000000) :
    Calls Try.prog 93 #[.pointer (some ⟨d, 0, none⟩), .string s] w fun e w' => e = .returned (.int .i64 0) ∧ ∃ v, DK B d (S.step.1.gone f b v) w' ∧ Mov S d (S.step.1.gone f b v) w w' := by
  have hfs : f.nm = s := by
    obtain ⟨g, h1, h2⟩ := h.rest.at ha
    rw [hfl] at h1
    cases h1
    exact h2
  have hst : S.step.2 = 0 ∧ S.step.1.n = S.n ∧ S.step.1.fl = S.fl ∧ S.step.1.loose = S.loose := by
    unfold Dsk.step
    rw [if_neg hf]
    split <;> exact ⟨rfl, rfl, rfl, rfl⟩
  have HST := Lib.hid (dstep_c h)
  rw [hst.1] at HST
  have HE := Lib.hid hst.2
  have HF := Lib.hid (dfind_c h s hs)
  rw [show S.find s = (some b, 0) from by unfold Dsk.find; rw [hd, ha]; rfl] at HF
  simp only [ptrOf, Option.map_some] at HF
  have HFL := Lib.hid hfl
  have hns : f.nm.size ≤ maxLen := by rw [hfs]; exact hs
  have HNS := Lib.hid hns
  clear h hst hfs ha hfl hns
  go_enter Try.func93, Try.ntmps93
  go_wp2_with fail
  refine HF.out.mono ?_
  rintro e1 w1 ⟨rfl, rfl⟩
  go_wp2_with fail
  refine HST.out.mono ?_
  rintro e3 w3 ⟨rfl, hk3, hm3⟩
  have HM3 := Lib.hid hm3
  have HD := Lib.hid (ddrop_c hk3 (b := b) (f := f) (by rw [HE.out.2.1]; exact HFL.out) HNS.out)
  clear hk3 hm3 HST HF
  go_wp2_with fail
  refine HD.out.mono ?_
  rintro e6 w6 ⟨rfl, hk6, hm6⟩
  have HK6 := Lib.hid hk6
  have HM6 := Lib.hid (HM3.out.trans hm6)
  have c3 := hk6.cells.2.2.2.1
  have HLL := Lib.hid (show (S.step.1.drop f).loose.length + 1 ≤ 1000000000 by
    show S.step.1.loose.length + 1 ≤ _
    rw [HE.out.2.2]
    omega)
  have HC := Lib.hid (show (∃ g, (S.step.1.drop f).fl b = some g) ∧ ∀ b', (none : Option Nat) = some b' → ∃ g, (S.step.1.drop f).fl b' = some g from ⟨⟨f, by show S.step.1.fl b = _; rw [HE.out.2.1]; exact HFL.out⟩, fun b' hb => by cases hb⟩)
  clear hk6 hm6 HD HM3
  obtain ⟨SX, hSX⟩ : ∃ SX, SX = S.step.1.drop f := ⟨_, rfl⟩
  rw [← hSX] at HK6 HM6 HLL HC c3
  have HSX := Lib.hid hSX
  clear hSX
  go_wp2_with (at_builtin; refine wpList_pushC rfl (.tmp 29) (.tmp 32) rfl B d SX ⟨2, b, 0, ⟨#[]⟩, none⟩ HK6.out (by rfl) (by rfl) HLL.out HC.out ?_; intro va vn vc w7 c7 f7 hk7 hm7; have HK7 := Lib.hid hk7; have HM7 := Lib.hid hm7; clear hk7 hm7 c3)
  go_ret
  refine ⟨rfl, .slice va vn vc, ?_, ?_⟩
  · have := HK7.out
    rw [HSX.out] at this
    exact this
  · have := HM6.out.trans HM7.out
    rw [HSX.out] at this
    exact this
set_option maxRecDepth 100000 in
set_option maxHeartbeats 4000000 in
theorem dremove_no {B d : Nat} {S : Dsk} {w : World} (h : DK B d S w) (s : ByteArray) (hs : s.size ≤ maxLen) (hn : (S.find s).2 ≠ 0) : Calls Try.prog 93 #[.pointer (some ⟨d, 0, none⟩), .string s] w fun e w' => e = .returned (.int .i64 (S.find s).2) ∧ w' = w := by
  have HF := Lib.hid (dfind_c h s hs)
  have hn' : ((S.find s).2 == 0) = false := beq_eq_false_iff_ne.2 hn
  clear h
  obtain ⟨x, hx⟩ : ∃ x, x = (S.find s).2 := ⟨_, rfl⟩
  obtain ⟨y, hy⟩ : ∃ y, y = ptrOf (S.find s).1 := ⟨_, rfl⟩
  rw [← hx] at HF hn hn' ⊢
  rw [← hy] at HF
  clear hx
  have hy' : ∃ z, y = .pointer z := ⟨_, hy⟩
  obtain ⟨z, rfl⟩ := hy'
  clear hy
  go_enter Try.func93, Try.ntmps93
  go_wp2_with fail
  refine HF.out.mono ?_
  rintro e1 w1 ⟨rfl, rfl⟩
  go_wp2_with fail
  go_ret
  exact ⟨rfl, rfl⟩
set_option maxRecDepth 100000 in
set_option maxHeartbeats 4000000 in
theorem dremove_power {B d : Nat} {S : Dsk} {w : World} (h : DK B d S w) (s : ByteArray) (hs : s.size ≤ maxLen) (hd : S.down = false) {b : Nat} (ha : S.at s = some b) (hf : S.fuse = 0) : Calls Try.prog 93 #[.pointer (some ⟨d, 0, none⟩), .string s] w fun e w' => e = .returned (.int .i64 5) ∧ DK B d { S with down := true } w' ∧ Mov S d { S with down := true } w w' := by
  have hst : S.step = ({ S with down := true }, 5) := by
    unfold Dsk.step
    rw [if_pos hf]
  have HST := Lib.hid (dstep_c h)
  rw [hst] at HST
  have HF := Lib.hid (dfind_c h s hs)
  rw [show S.find s = (some b, 0) from by unfold Dsk.find; rw [hd, ha]; rfl] at HF
  simp only [ptrOf, Option.map_some] at HF
  clear h hst
  go_enter Try.func93, Try.ntmps93
  go_wp2_with fail
  refine HF.out.mono ?_
  rintro e1 w1 ⟨rfl, rfl⟩
  go_wp2_with fail
  refine HST.out.mono ?_
  rintro e3 w3 ⟨rfl, hk3, hm3⟩
  have HK3 := Lib.hid hk3
  have HM3 := Lib.hid hm3
  clear hk3 hm3 HF HST
  go_wp2_with fail
  go_ret
  exact ⟨rfl, HK3.out, HM3.out⟩
/-- all changes last -/
def Dsk.sure (S : Dsk) : Dsk := { S with lv := .slice none 0 0, loose := [] }
theorem DK.sync {B d : Nat} {S : Dsk} {w : World} (h : DK B d S w) : DK B d S.sure (w.setCell ⟨d, 3, none⟩ (.slice none 0 0)) ∧ Mov S d S.sure w (w.setCell ⟨d, 3, none⟩ (.slice none 0 0)) := by
  have ho : ∀ k, k ≠ d → (w.setCell ⟨d, 3, none⟩ (.slice none 0 0)).heap[k]? = w.heap[k]? := fun k hk => Below.heap_setCell w ⟨d, 3, none⟩ _ k hk
  have hr := h.rest.keep (w' := w.setCell ⟨d, 3, none⟩ (.slice none 0 0)) fun k hk => ho k (h.ne hk)
  refine ⟨⟨h.base, row_set h.hd (.slice none 0 0) (o := 3) (by show 3 < 6; omega), ⟨hr.hm, hr.hf, hr.ha, hr.hr, World.ownsRow_nil _ _ _ _, fun c hc => by cases hc⟩⟩, rfl, rfl, rfl, by simp [World.setCell], fun k hk hn => ho k fun e => hn (.inl e), fun k hk => ?_⟩
  rcases hk with hk | hk | hk | hk | hk
  · exact .inl (.inl hk)
  · exact .inl (.inr (.inl hk))
  · exact .inl (.inr (.inr (.inl hk)))
  · exact .inl (.inr (.inr (.inr (.inl hk))))
  · cases hk
set_option maxRecDepth 100000 in
set_option maxHeartbeats 4000000 in
theorem dsync_ok {B d : Nat} {S : Dsk} {w : World} (h : DK B d S w) (hd : S.down = false) (hf : S.fuse ≠ 0) : Calls Try.prog 50 #[.pointer (some ⟨d, 0, none⟩)] w fun e w' => e = .returned (.int .i64 0) ∧ DK B d S.step.1.sure w' ∧ Mov S d S.step.1.sure w w' := by
  have HR := Lib.hid (dready_c h)
  rw [hd] at HR
  have hst : S.step.2 = 0 ∧ S.step.1.n = S.n ∧ S.step.1.fl = S.fl ∧ S.step.1.loose = S.loose := by
    unfold Dsk.step
    rw [if_neg hf]
    split <;> exact ⟨rfl, rfl, rfl, rfl⟩
  have HST := Lib.hid (dstep_c h)
  rw [hst.1] at HST
  have HE := Lib.hid hst.2
  clear h hst
  go_enter Try.func50, Try.ntmps50
  go_wp2_with fail
  refine HR.out.mono ?_
  rintro e1 w1 ⟨rfl, rfl⟩
  go_wp2_with fail
  refine HST.out.mono ?_
  rintro e3 w3 ⟨rfl, hk3, hm3⟩
  obtain ⟨hk4, hm4⟩ := hk3.sync
  have HK4 := Lib.hid hk4
  have HM4 := Lib.hid (hm3.trans hm4)
  have c3 := hk3.cells.2.2.2.1
  have f3 : w3.frozen? ⟨d, 3, none⟩ = false := frozen_of_row w3 d 3 _ _ hk3.hd
  clear hk3 hm3 hk4 hm4 HR HST
  go_wp2_with fail
  go_ret
  exact ⟨rfl, HK4.out, HM4.out⟩
set_option maxRecDepth 100000 in
set_option maxHeartbeats 4000000 in
theorem dsync_down {B d : Nat} {S : Dsk} {w : World} (h : DK B d S w) (hd : S.down = true) : Calls Try.prog 50 #[.pointer (some ⟨d, 0, none⟩)] w fun e w' => e = .returned (.int .i64 5) ∧ w' = w := by
  have HR := Lib.hid (dready_c h)
  rw [hd] at HR
  clear h
  go_enter Try.func50, Try.ntmps50
  go_wp2_with fail
  refine HR.out.mono ?_
  rintro e1 w1 ⟨rfl, rfl⟩
  go_wp2_with fail
  go_ret
  exact ⟨rfl, rfl⟩
set_option maxRecDepth 100000 in
set_option maxHeartbeats 4000000 in
theorem dsync_power {B d : Nat} {S : Dsk} {w : World} (h : DK B d S w) (hd : S.down = false) (hf : S.fuse = 0) : Calls Try.prog 50 #[.pointer (some ⟨d, 0, none⟩)] w fun e w' => e = .returned (.int .i64 5) ∧ DK B d { S with down := true } w' ∧ Mov S d { S with down := true } w w' := by
  have HR := Lib.hid (dready_c h)
  rw [hd] at HR
  have hst : S.step = ({ S with down := true }, 5) := by
    unfold Dsk.step
    rw [if_pos hf]
  have HST := Lib.hid (dstep_c h)
  rw [hst] at HST
  clear h hst
  go_enter Try.func50, Try.ntmps50
  go_wp2_with fail
  refine HR.out.mono ?_
  rintro e1 w1 ⟨rfl, rfl⟩
  go_wp2_with fail
  refine HST.out.mono ?_
  rintro e3 w3 ⟨rfl, hk3, hm3⟩
  have HK3 := Lib.hid hk3
  have HM3 := Lib.hid hm3
  clear hk3 hm3 HR HST
  go_wp2_with fail
  go_ret
  exact ⟨rfl, HK3.out, HM3.out⟩
end Go.Proofs.Ytihbgigledmliaa
namespace Go.Proofs.Ytihbgigledmliaa
open Go.RowKit Go.Maps
set_option linter.unusedVariables false
theorem DKr.tidy {B : Nat} {S : Dsk} {w : World} (h : DKr B S w) : Tidy S.D := by
  rcases h.hm with ⟨_, h1⟩ | ⟨b, _, _, h3⟩
  · rw [h1]; exact tidy_empty
  · exact h3.tidy mapLaw
theorem at_put {S : Dsk} (h : IsMap S.D) (m b : Nat) (f : Fil) (x : ByteArray) : (S.put m b f).at x = if x = f.nm then some b else S.at x := by
  unfold Dsk.at Dsk.put
  by_cases e : x = f.nm
  · subst e
    simp only [if_true]
    rw [atKey_put_same h (by trivial)]
    simp
  · rw [if_neg e]
    simp only
    rw [atKey_put_other (fun y => e (keyS_inj y))]
theorem at_drop {S : Dsk} (f : Fil) (x : ByteArray) : (S.drop f).at x = if x = f.nm then none else S.at x := by
  unfold Dsk.at Dsk.drop
  by_cases e : x = f.nm
  · subst e
    simp only [if_true]
    rw [atKey_del_same]
  · rw [if_neg e]
    simp only
    rw [atKey_del_other (fun y => e (keyS_inj y))]
theorem DKr.has {B : Nat} {S : Dsk} {w : World} (h : DKr B S w) (s : ByteArray) : Maps.has S.D (keyS s) = (S.at s).isSome := by
  rcases h.hr s with h0 | ⟨b, f, h1, h2, h3⟩
  · rw [h0]
    unfold Dsk.at
    rw [atKey_of_not_has h0]
    rfl
  · have e : S.at s = some b := by unfold Dsk.at; rw [h1]; simp
    rw [e]
    cases hh : Maps.has S.D (keyS s) with
    | true => rfl
    | false =>
      rw [atKey_of_not_has hh] at h1
      cases h1
theorem step_same {S : Dsk} (hf : S.fuse = -1) : S.step = (S, 0) := by
  unfold Dsk.step
  rw [if_neg (by omega), if_neg (by omega)]
/-- behind a Create that nothing refused -/
theorem made_facts {B d : Nat} {S : Dsk} {w : World} (h : DK B d S w) (s : ByteArray) (b m : Nat) (v : Value) (ha : S.at s = none) :
    (∀ x, (S.made s b m v).at x = if x = s then some b else S.at x) ∧ Maps.size (S.made s b m v).D = Maps.size S.D + 1 := by
  have hm : IsMap (S.file b ⟨s, .slice none 0 0, []⟩).D := h.rest.tidy.isMap
  refine ⟨fun x => ?_, ?_⟩
  · exact at_put hm m b ⟨s, .slice none 0 0, []⟩ x
  · show Maps.size (S.D.put (keyS s) _) = _
    rw [size_put h.rest.tidy, h.rest.has, ha]
    rfl
/-- behind a Remove that nothing refused -/
theorem gone_facts {B d : Nat} {S : Dsk} {w : World} (h : DK B d S w) (f : Fil) (b : Nat) (v : Value) (ha : S.at f.nm = some b) :
    (∀ x, (S.gone f b v).at x = if x = f.nm then none else S.at x) ∧ Maps.size (S.gone f b v).D + 1 = Maps.size S.D := by
  refine ⟨fun x => at_drop f x, ?_⟩
  have := size_del (k := keyS f.nm) h.rest.tidy
  rw [h.rest.has, ha] at this
  exact this
end Go.Proofs.Ytihbgigledmliaa
