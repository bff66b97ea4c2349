/-
  A disk in memory: undo of what was created, removed, renamed.
-/
import Derived.Test.YtmomdfmilelilaaDkn
namespace Go.Proofs.Ytmomdfmilelilaa
open Go.RowKit Go.Maps
set_option linter.unusedVariables false
theorem boxc {w : World} {X : Nat} {k z : Int} {b : Nat} {nm : ByteArray} {rp : Option Addr} (hh : w.heap[X]? = some (.cells #[.int .i64 k, .pointer (some ⟨b, 0, none⟩), .int .i64 z, .string nm, .pointer rp] 90 (0, 0))) :
    w.cell? ⟨X, 0, none⟩ = some (.int .i64 k) ∧ w.cell? ⟨X, 1, none⟩ = some (.pointer (some ⟨b, 0, none⟩)) ∧ w.cell? ⟨X, 2, none⟩ = some (.int .i64 z) ∧ w.cell? ⟨X, 3, none⟩ = some (.string nm) ∧ w.cell? ⟨X, 4, none⟩ = some (.pointer rp) :=
  ⟨(cell_of_row w X 0 _ _ _ hh).trans rfl, (cell_of_row w X 1 _ _ _ hh).trans rfl, (cell_of_row w X 2 _ _ _ hh).trans rfl, (cell_of_row w X 3 _ _ _ hh).trans rfl, (cell_of_row w X 4 _ _ _ hh).trans rfl⟩
set_option maxRecDepth 100000 in
set_option maxHeartbeats 8000000 in
theorem dundo_created {B d b : Nat} {S : Dsk} {f : Fil} {w : World} (h : DK B d S w) (hf : S.fl b = some f) (z stay : Int) (nm : ByteArray) (rp : Option Addr) (hs : f.nm.size ≤ maxLen)  :
    Calls Try.prog 46 #[.pointer (some ⟨d, 0, none⟩), .agg #[.int .i64 0, .pointer (some ⟨b, 0, none⟩), .int .i64 z, .string nm, .pointer rp], .int .i64 stay] w fun e w' => e = .returned (.tuple #[]) ∧ DK B d (S.drop f) w' ∧ Mov S d (S.drop f) w w' := by
  obtain ⟨X, hX⟩ : ∃ X, X = w.heap.size := ⟨_, rfl⟩
  obtain ⟨w1, hw⟩ : ∃ w1, w1 = w.alloc (.cells #[.int .i64 0, .pointer (some ⟨b, 0, none⟩), .int .i64 z, .string nm, .pointer rp] 90) := ⟨_, rfl⟩
  have hh : w1.heap[X]? = some (.cells #[.int .i64 0, .pointer (some ⟨b, 0, none⟩), .int .i64 z, .string nm, .pointer rp] 90 (0, 0)) := by rw [hw, hX]; exact heap_alloc_new w _
  obtain ⟨b0, b1, b2, b3, b4⟩ := boxc hh
  have hk1 : DK B d S w1 := by rw [hw]; exact h.alloc _
  have HXN := Lib.hid (show ¬ S.own d X from fun ho => by have := (h.ownLt ho).2; omega)
  have HM1 := Lib.hid (show Mov S d S w w1 from by rw [hw]; exact Mov.ofBelow ((Below.refl _ _).alloc (Nat.le_refl _) _))
  have HXW := Lib.hid (show w.heap.size ≤ X from by omega)
  have HH := Lib.hid hh
  have HD := Lib.hid (ddrop_c hk1 (b := b) (f := f) hf hs)
  clear hk1 hh h b4 b3 b2
  go_enter Try.func46, Try.ntmps46
  go_upto_region 1 with fail
  rw [← hX]
  rw [← hw]
  clear hX hw
  go_wp2_with fail
  refine HD.out.mono ?_
  rintro e2 w2 ⟨rfl, hk2, hm2⟩
  have HK2 := Lib.hid hk2
  have HM2 := Lib.hid (HM1.out.trans hm2)
  clear hk2 hm2
  go_wp2_with fail
  go_end0
  exact ⟨rfl, HK2.out, HM2.out⟩
set_option maxRecDepth 100000 in
set_option maxHeartbeats 8000000 in
theorem dundo_removed {B d b : Nat} {S : Dsk} {f : Fil} {w : World} (h : DK B d S w) (hf : S.fl b = some f) (z stay : Int) (nm : ByteArray) (rp : Option Addr) (hs : f.nm.size ≤ maxLen) (hn : S.n < maxLen) :
    Calls Try.prog 46 #[.pointer (some ⟨d, 0, none⟩), .agg #[.int .i64 2, .pointer (some ⟨b, 0, none⟩), .int .i64 z, .string nm, .pointer rp], .int .i64 stay] w fun e w' => e = .returned (.tuple #[]) ∧ ∃ m, DK B d (S.put m b f) w' ∧ Mov S d (S.put m b f) w w' := by
  obtain ⟨X, hX⟩ : ∃ X, X = w.heap.size := ⟨_, rfl⟩
  obtain ⟨w1, hw⟩ : ∃ w1, w1 = w.alloc (.cells #[.int .i64 2, .pointer (some ⟨b, 0, none⟩), .int .i64 z, .string nm, .pointer rp] 90) := ⟨_, rfl⟩
  have hh : w1.heap[X]? = some (.cells #[.int .i64 2, .pointer (some ⟨b, 0, none⟩), .int .i64 z, .string nm, .pointer rp] 90 (0, 0)) := by rw [hw, hX]; exact heap_alloc_new w _
  obtain ⟨b0, b1, b2, b3, b4⟩ := boxc hh
  have hk1 : DK B d S w1 := by rw [hw]; exact h.alloc _
  have HXN := Lib.hid (show ¬ S.own d X from fun ho => by have := (h.ownLt ho).2; omega)
  have HM1 := Lib.hid (show Mov S d S w w1 from by rw [hw]; exact Mov.ofBelow ((Below.refl _ _).alloc (Nat.le_refl _) _))
  have HXW := Lib.hid (show w.heap.size ≤ X from by omega)
  have HH := Lib.hid hh
  have HD := Lib.hid (dput_c hk1 (b := b) (f := f) hf hs hn)
  clear hk1 hh h b4 b3 b2
  go_enter Try.func46, Try.ntmps46
  go_upto_region 1 with fail
  rw [← hX]
  rw [← hw]
  clear hX hw
  go_wp2_with fail
  refine HD.out.mono ?_
  rintro e2 w2 ⟨rfl, m, hk2, hm2⟩
  have HK2 := Lib.hid hk2
  have HM2 := Lib.hid (HM1.out.trans hm2)
  clear hk2 hm2
  go_wp2_with fail
  go_end0
  exact ⟨rfl, m, HK2.out, HM2.out⟩
set_option maxRecDepth 100000 in
set_option maxHeartbeats 8000000 in
theorem dundo_renamed {B d b : Nat} {S : Dsk} {f : Fil} {w : World} (h : DK B d S w) (hf : S.fl b = some f) (z stay : Int) (nm : ByteArray) (hs : f.nm.size ≤ maxLen) (hnm : nm.size ≤ maxLen) (hn : S.n + 1 < maxLen) (hno : ∀ x, S.at x = some b → x = f.nm) :
    Calls Try.prog 46 #[.pointer (some ⟨d, 0, none⟩), .agg #[.int .i64 3, .pointer (some ⟨b, 0, none⟩), .int .i64 z, .string nm, .pointer none], .int .i64 stay] w fun e w' => e = .returned (.tuple #[]) ∧ ∃ m, DK B d (((S.drop f).file b ⟨nm, f.row, f.zs⟩).put m b ⟨nm, f.row, f.zs⟩) w' ∧ Mov S d (((S.drop f).file b ⟨nm, f.row, f.zs⟩).put m b ⟨nm, f.row, f.zs⟩) w w' := by
  obtain ⟨X, hX⟩ : ∃ X, X = w.heap.size := ⟨_, rfl⟩
  obtain ⟨w1, hw⟩ : ∃ w1, w1 = w.alloc (.cells #[.int .i64 3, .pointer (some ⟨b, 0, none⟩), .int .i64 z, .string nm, .pointer none] 90) := ⟨_, rfl⟩
  have hh : w1.heap[X]? = some (.cells #[.int .i64 3, .pointer (some ⟨b, 0, none⟩), .int .i64 z, .string nm, .pointer none] 90 (0, 0)) := by rw [hw, hX]; exact heap_alloc_new w _
  obtain ⟨b0, b1, b2, b3, b4⟩ := boxc hh
  have hk1 : DK B d S w1 := by rw [hw]; exact h.alloc _
  have HXN := Lib.hid (show ¬ S.own d X from fun ho => by have := (h.ownLt ho).2; omega)
  have HM1 := Lib.hid (show Mov S d S w w1 from by rw [hw]; exact Mov.ofBelow ((Below.refl _ _).alloc (Nat.le_refl _) _))
  have HXW := Lib.hid (show w.heap.size ≤ X from by omega)
  have HH := Lib.hid hh
  have HD := Lib.hid (ddrop_c hk1 (b := b) (f := f) hf hs)
  have HF := Lib.hid hf
  have HNO := Lib.hid (show ∀ x, (S.drop f).at x ≠ some b from fun x hx => by
    rw [at_drop] at hx
    split at hx
    · cases hx
    · rename_i e
      exact e (hno x hx))

  clear hk1 hh h hno hf 
  go_enter Try.func46, Try.ntmps46
  go_upto_region 1 with fail
  rw [← hX]
  rw [← hw]
  clear hX hw
  go_wp2_with fail
  refine HD.out.mono ?_
  rintro e2 w2 ⟨rfl, hk2, hm2⟩
  have hx2 := (hm2.block X (Array.getElem?_eq_some_iff.1 HH.out).1 HXN.out).trans HH.out
  have hxn2 := hm2.own0 (Array.getElem?_eq_some_iff.1 HH.out).1 HXN.out
  obtain ⟨b0, b1, b2, b3, b4⟩ := boxc hx2
  obtain ⟨⟨nc, nz⟩, hk3, hm3⟩ := hk2.nameSet (b := b) (f := f) HF.out HNO.out nm
  have hXb : X ≠ b := fun e => hxn2 (.inr (.inr (.inl ⟨f, by rw [e]; exact HF.out⟩)))
  have HX3 := Lib.hid ((Below.heap_setCell w2 ⟨b, 0, none⟩ (.string nm) X hXb).trans hx2)
  have HXN3 := Lib.hid (hm3.own0 (Array.getElem?_eq_some_iff.1 hx2).1 hxn2)
  have HM3 := Lib.hid ((HM1.out.trans hm2).trans hm3)
  have HP := Lib.hid (dput_c hk3 (b := b) (f := ⟨nm, f.row, f.zs⟩) (by show (if _ then _ else _) = _; rw [if_pos rfl]) hnm (by show S.n < maxLen; omega))
  obtain ⟨w3, hw3⟩ : ∃ w3, w3 = w2.setCell ⟨b, 0, none⟩ (.string nm) := ⟨_, rfl⟩
  rw [← hw3] at HP HX3 HM3
  obtain ⟨q0, q1, q2, q3, q4⟩ := boxc HX3.out
  clear hk2 hm2 hx2 hxn2 hk3 hm3 HD HM1 HH HXN
  go_wp2_with (rw [← hw3])
  clear nc nz b0 b1 b2 b3 b4
  refine HP.out.mono ?_
  rintro e4 w4 ⟨rfl, m, hk4, hm4⟩
  have hx4 := (hm4.block X (Array.getElem?_eq_some_iff.1 HX3.out).1 HXN3.out).trans HX3.out
  obtain ⟨b0, b1, b2, b3, b4⟩ := boxc hx4
  have HK4 := Lib.hid hk4
  have HM4 := Lib.hid (HM3.out.trans hm4)
  clear hk4 hm4 hx4 HP HX3 HM3 HXN3 q0 q1 q2 q3 q4 hw3
  go_wp2_with fail
  go_end0
  exact ⟨rfl, m, HK4.out, HM4.out⟩
set_option maxRecDepth 100000 in
set_option maxHeartbeats 8000000 in
theorem dundo_renamed2 {B d b : Nat} {S : Dsk} {f : Fil} {w : World} (h : DK B d S w) (hf : S.fl b = some f) (z stay : Int) (nm : ByteArray) (hs : f.nm.size ≤ maxLen) (hnm : nm.size ≤ maxLen) (hn : S.n + 1 < maxLen) (hno : ∀ x, S.at x = some b → x = f.nm) {r : Nat} {g : Fil} (hrf : S.fl r = some g) (hrb : r ≠ b) (hgs : g.nm.size ≤ maxLen) :
    Calls Try.prog 46 #[.pointer (some ⟨d, 0, none⟩), .agg #[.int .i64 3, .pointer (some ⟨b, 0, none⟩), .int .i64 z, .string nm, .pointer (some ⟨r, 0, none⟩)], .int .i64 stay] w fun e w' => e = .returned (.tuple #[]) ∧ ∃ m m2, DK B d ((((S.drop f).file b ⟨nm, f.row, f.zs⟩).put m b ⟨nm, f.row, f.zs⟩).put m2 r g) w' ∧ Mov S d ((((S.drop f).file b ⟨nm, f.row, f.zs⟩).put m b ⟨nm, f.row, f.zs⟩).put m2 r g) w w' := by
  obtain ⟨X, hX⟩ : ∃ X, X = w.heap.size := ⟨_, rfl⟩
  obtain ⟨w1, hw⟩ : ∃ w1, w1 = w.alloc (.cells #[.int .i64 3, .pointer (some ⟨b, 0, none⟩), .int .i64 z, .string nm, .pointer (some ⟨r, 0, none⟩)] 90) := ⟨_, rfl⟩
  have hh : w1.heap[X]? = some (.cells #[.int .i64 3, .pointer (some ⟨b, 0, none⟩), .int .i64 z, .string nm, .pointer (some ⟨r, 0, none⟩)] 90 (0, 0)) := by rw [hw, hX]; exact heap_alloc_new w _
  obtain ⟨b0, b1, b2, b3, b4⟩ := boxc hh
  have hk1 : DK B d S w1 := by rw [hw]; exact h.alloc _
  have HXN := Lib.hid (show ¬ S.own d X from fun ho => by have := (h.ownLt ho).2; omega)
  have HM1 := Lib.hid (show Mov S d S w w1 from by rw [hw]; exact Mov.ofBelow ((Below.refl _ _).alloc (Nat.le_refl _) _))
  have HXW := Lib.hid (show w.heap.size ≤ X from by omega)
  have HH := Lib.hid hh
  have HD := Lib.hid (ddrop_c hk1 (b := b) (f := f) hf hs)
  have HF := Lib.hid hf
  have HNO := Lib.hid (show ∀ x, (S.drop f).at x ≠ some b from fun x hx => by
    rw [at_drop] at hx
    split at hx
    · cases hx
    · rename_i e
      exact e (hno x hx))
  have HRF := Lib.hid hrf
  clear hk1 hh h hno hf hrf
  go_enter Try.func46, Try.ntmps46
  go_upto_region 1 with fail
  rw [← hX]
  rw [← hw]
  clear hX hw
  go_wp2_with fail
  refine HD.out.mono ?_
  rintro e2 w2 ⟨rfl, hk2, hm2⟩
  have hx2 := (hm2.block X (Array.getElem?_eq_some_iff.1 HH.out).1 HXN.out).trans HH.out
  have hxn2 := hm2.own0 (Array.getElem?_eq_some_iff.1 HH.out).1 HXN.out
  obtain ⟨b0, b1, b2, b3, b4⟩ := boxc hx2
  obtain ⟨⟨nc, nz⟩, hk3, hm3⟩ := hk2.nameSet (b := b) (f := f) HF.out HNO.out nm
  have hXb : X ≠ b := fun e => hxn2 (.inr (.inr (.inl ⟨f, by rw [e]; exact HF.out⟩)))
  have HX3 := Lib.hid ((Below.heap_setCell w2 ⟨b, 0, none⟩ (.string nm) X hXb).trans hx2)
  have HXN3 := Lib.hid (hm3.own0 (Array.getElem?_eq_some_iff.1 hx2).1 hxn2)
  have HM3 := Lib.hid ((HM1.out.trans hm2).trans hm3)
  have HP := Lib.hid (dput_c hk3 (b := b) (f := ⟨nm, f.row, f.zs⟩) (by show (if _ then _ else _) = _; rw [if_pos rfl]) hnm (by show S.n < maxLen; omega))
  obtain ⟨w3, hw3⟩ : ∃ w3, w3 = w2.setCell ⟨b, 0, none⟩ (.string nm) := ⟨_, rfl⟩
  rw [← hw3] at HP HX3 HM3
  obtain ⟨q0, q1, q2, q3, q4⟩ := boxc HX3.out
  clear hk2 hm2 hx2 hxn2 hk3 hm3 HD HM1 HH HXN
  go_wp2_with (rw [← hw3])
  clear nc nz b0 b1 b2 b3 b4
  refine HP.out.mono ?_
  rintro e4 w4 ⟨rfl, m, hk4, hm4⟩
  have hx4 := (hm4.block X (Array.getElem?_eq_some_iff.1 HX3.out).1 HXN3.out).trans HX3.out
  obtain ⟨b0, b1, b2, b3, b4⟩ := boxc hx4
  have HK4 := Lib.hid hk4
  have HM4 := Lib.hid (HM3.out.trans hm4)
  have HQ := Lib.hid (dput_c hk4 (b := r) (f := g) (by show (if _ then _ else S.fl r) = _; rw [if_neg hrb]; exact HRF.out) hgs (by show S.n + 1 < maxLen; exact hn))
  clear hk4 hm4 hx4 HP HX3 HM3 HXN3 q0 q1 q2 q3 q4 hw3
  go_wp2_with fail
  refine HQ.out.mono ?_
  rintro e5 w5 ⟨rfl, m2, hk5, hm5⟩
  have HK5 := Lib.hid hk5
  have HM5 := Lib.hid (HM4.out.trans hm5)
  clear hk5 hm5
  go_wp2_with fail
  go_end0
  exact ⟨rfl, m, m2, HK5.out, HM5.out⟩
end Go.Proofs.Ytmomdfmilelilaa
