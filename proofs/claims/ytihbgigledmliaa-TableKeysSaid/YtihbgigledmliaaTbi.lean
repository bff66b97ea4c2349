/-
  The table's Open of a journal without records.
-/
import Derived.Test.YtihbgigledmliaaTbh
namespace Go.Proofs.Ytihbgigledmliaa
open Go.RowKit Go.Maps
set_option linter.unusedVariables false
/-- what Open leaves where there are no records -/
def TopR (X : Nat → Prop) (B d N : Nat) (nm : ByteArray) (w : World) (us : Nat) (r : Ad × Int) (e : Ending) (w' : World) : Prop :=
  ∃ Y : Nat → Prop, (∀ j, X j → Y j) ∧ (∀ j, Y j → X j ∨ w.heap.size ≤ j) ∧ Below B w w' ∧ KpD X w w' ∧ Dx Y B d N r.1 w' ∧ ((r.2 = 0 ∧ ∃ jb tb m, e = .returned (.tuple #[.pointer (some ⟨tb, 0, none⟩), .int .i64 0]) ∧ Tbl Y B d jb tb m 0 N nm us r.1 (fun _ => none) false w' ∧ w.heap.size ≤ jb ∧ w.heap.size ≤ tb ∧ w.heap.size ≤ m) ∨ (r.2 ≠ 0 ∧ e = .returned (.tuple #[.pointer none, .int .i64 r.2])))
set_option maxRecDepth 100000 in
set_option maxHeartbeats 4000000 in
theorem topen_none {X : Nat → Prop} {B d N : Nat} {A : Ad} {w : World} (h : Dx X B d N A w) (hN : N < 100000000) (nm : ByteArray) (h1 : 1 ≤ nm.size) (h2 : nm.size ≤ 159) (hzl : ∀ z, lookF A.now nm = some z → z.length < 1048576) (hrs : recsA A nm = []) :
    Calls Try.prog 5 #[.pointer (some ⟨d, 0, none⟩), .string nm] w (TopR X B d (N + 24) nm w (usedA A nm) (A.load nm)) := by
  have hop := jopen_c h hN nm h1 h2 hzl
  rw [hrs] at hop
  obtain ⟨us, hus⟩ : ∃ us, usedA A nm = us := ⟨_, rfl⟩
  obtain ⟨r, hr⟩ : ∃ r, A.load nm = r := ⟨_, rfl⟩
  rw [hus, hr] at hop
  rw [hus, hr]
  have HOP := Lib.hid hop
  clear hop hus hr hrs hzl h1 h2 h
  obtain ⟨A', x⟩ := r
  go_enter Try.func5, Try.ntmps5
  go_wp2_with fail
  refine HOP.out.mono ?_
  rintro e1 w1 ⟨Y, jb, a, n, c, hres, y1, y2, y3, y4, y5, y6, y7, y8, y9, y10⟩
  have HY := Lib.hid (And.intro y1 (And.intro y2 (And.intro y3 (And.intro y8 (And.intro y9 y10)))))
  have hn0 : n = 0 := y4.ln.symm
  subst hn0
  clear y1 y2 y3 y4 y5 y6 y7 y8 y9 y10 HOP
  by_cases h0 : x = 0
  · subst h0
    obtain ⟨-, rfl⟩ := hres.resolve_right (fun h => h.1 rfl)
    clear hres
    obtain ⟨w2, hw2⟩ : ∃ w2, w2 = w1.alloc (.map #[] 0) := ⟨_, rfl⟩
    obtain ⟨m, hm⟩ : ∃ m, m = w1.heap.size := ⟨_, rfl⟩
    obtain ⟨w3, hw3⟩ : ∃ w3, w3 = w2.alloc (.cells #[.pointer (some ⟨jb, 0, none⟩), .map (some m), .bool false] 60) := ⟨_, rfl⟩
    have hb2 : Below w1.heap.size w1 w2 := by rw [hw2]; exact (Below.refl _ _).alloc (Nat.le_refl _) _
    have hb3 : Below w2.heap.size w2 w3 := by rw [hw3]; exact (Below.refl _ _).alloc (Nat.le_refl _) _
    have hz2 : w2.heap.size = m + 1 := by rw [hw2, hm]; simp
    obtain ⟨tb, htb⟩ : ∃ tb, tb = w2.heap.size := ⟨_, rfl⟩
    have hz3 : w3.heap.size = tb + 1 := by rw [hw3, htb]; simp
    have hb13 : Below w1.heap.size w1 w3 := hb2.trans (hb3.mono hb2.size)
    obtain ⟨u1, u2, u3, u4, u5, u6⟩ := HY.out
    have hBw : B ≤ w1.heap.size := Nat.le_of_lt (Nat.lt_of_le_of_lt u3.dx.base.1 u3.dx.base.2)
    have hjl := u3.dx.lt jb u3.xj
    have hdx : Dx (fun j => Y j ∨ j = m ∨ j = tb) B d (N + 24) A' w3 := u3.dx.belowY hb13 (fun j hj => hj.imp id fun e => by omega) (fun j hj => hj.elim (fun e => Nat.lt_of_lt_of_le (u3.dx.lt j e) hb13.size) fun e => by omega)
    have htm : TM B (fun k => (fun j => Y j ∨ j = m ∨ j = tb) k ∧ k ≠ jb ∧ k ≠ tb) w3 m 0 (.map []) fun _ => none := by
      have := TM.made w1 B (fun k => (fun j => Y j ∨ j = m ∨ j = tb) k ∧ k ≠ jb ∧ k ≠ tb) hBw
      rw [← hw2, ← hm] at this
      exact this.below hb3
    have HF := Lib.hid (show TopR X B d (N + 24) nm w us (A', 0) (.returned (.tuple #[.pointer (some ⟨tb, 0, none⟩), .int .i64 0])) w3 from ⟨fun j => Y j ∨ j = m ∨ j = tb, fun j hj => .inl (u1 j hj), fun j hj => by
      have h5 := u5.size
      rcases hj with hj | hj
      · exact u2 j hj
      · exact .inr (by omega), u5.trans (hb13.mono hBw), fun j hj => (hb13.block j (u3.dx.lt j (u1 j hj))).trans (u6 j hj), hdx, .inl ⟨rfl, jb, tb, m, rfl, ⟨⟨hdx, .inl u3.xj, u3.bj, (hb13.block jb hjl).trans u3.row⟩, ⟨_, htm⟩, (by unfold TRow; rw [hw3, htb]; exact heap_alloc_new w2 _), .inr (.inr rfl), by omega, .inr (.inl rfl), by omega⟩, u4, by have := u5.size; omega, by have := u5.size; omega⟩⟩)
    have htbm := htb.trans hz2
    clear hb2 hb3 hz2 hz3 hb13 u1 u2 u3 u4 u5 u6 hBw hjl hdx htm HY
    have hmm := @run_makeMap Try.prog
    go_upto_region 5 with fail
    rw [← hw2, ← hm]
    rw [← htbm, ← hw3]
    clear hw2 hm hw3 htb hmm htbm
    go_wp2_with fail
    refine wp_loop_rounds 1 ?_
    rw [rounds_succ]
    go_wp2_with fail
    go_ret2
    exact HF.out
  · have hx0 : (x != 0) = true := by simp [h0]
    obtain ⟨-, rfl⟩ := hres.resolve_left (fun h => h0 h.1)
    obtain ⟨u1, u2, u3, u4, u5, u6⟩ := HY.out
    have HF := Lib.hid (show TopR X B d (N + 24) nm w us (A', x) (.returned (.tuple #[.pointer none, .int .i64 x])) w1 from ⟨Y, u1, u2, u5, u6, u3.dx, .inr ⟨h0, rfl⟩⟩)
    clear hres u1 u2 u3 u4 u5 u6 HY
    go_wp2_with fail
    go_ret2
    exact HF.out
end Go.Proofs.Ytihbgigledmliaa
