/-
  A step of a script, done to a disk in memory and as the document says: the law's own Does: Append, Sync, Fuse, Crash.
-/
import Derived.Test.YtcjlbonflecbkaaDoe
import Derived.Test.YtcjlbonflecbkaaRfm
namespace Go.Proofs.Ytcjlbonflecbkaa
open Go.RowKit
set_option linter.unusedVariables false
theorem DoR.fin {X0 X1 : Nat → Prop} {B d m k : Nat} {w w3 : World} {A' : Ad} (hX : ∀ j, X0 j → X1 j) (hr : Rel X1 B d m (3 * k + 3) A' A' w3) (hb : Bnd (k + 1) A') (hbl : Below B w w3) (hkp : KpX X0 w w3) : DoR X0 B d m k w A' (.returned (.bool true)) w3 :=
  ⟨rfl, ⟨(hr.more (Sta.refl _ _) (fun j hj => .inl (hX j hj)) fun j hj => hr.lt j (hX j hj)).mono (by omega), hb⟩, hbl, hkp⟩
set_option maxRecDepth 100000 in
set_option maxHeartbeats 8000000 in
theorem does4_c {X0 : Nat → Prop} {B d m k : Nat} {A : Ad} {w : World} (h : Two X0 B d m k A w) (hB : B ≤ w.heap.size) (hk : k ≤ 1000) (s t : ByteArray) (pa : Option Addr) (pn pc : Nat) (n q : Int) : Calls Try.prog 10 #[.pointer (some ⟨d, 0, none⟩), .pointer (some ⟨m, 0, none⟩), .agg #[.int .i64 4, .string s, .string t, .slice pa pn pc, .int .i64 n, .int .i64 q]] w (DoR X0 B d m k w A.sync.1) := by
  obtain ⟨X, hX⟩ : ∃ X, X = w.heap.size := ⟨_, rfl⟩
  obtain ⟨w1, hw1⟩ : ∃ w1, w1 = w.alloc (.cells #[.int .i64 4, .string s, .string t, .slice pa pn pc, .int .i64 n, .int .i64 q] 32) := ⟨_, rfl⟩
  have hbx : OpB w1 X 4 s t (.slice pa pn pc) n q := by rw [hw1, hX]; exact heap_alloc_new w _
  have hr1 := (h.boxed (o := .cells #[.int .i64 4, .string s, .string t, .slice pa pn pc, .int .i64 n, .int .i64 q] 32) hB)
  rw [← hX, ← hw1] at hr1
  have hg := h.gd
  have HBX := Lib.hid hbx
  have HXW := Lib.hid hX
  have HW1 := Lib.hid (show Below w.heap.size w w1 from by rw [hw1]; exact (Below.refl _ _).alloc (Nat.le_refl _) _)
  have HLT := Lib.hid h.rel.lt
  obtain ⟨i0, i1, i2, i3, i4, i5⟩ := hbx.cells
  obtain ⟨x, hx⟩ : ∃ x, A.sync.2 = x := ⟨_, rfl⟩
  have HC1 := Lib.hid (hr1.rel.prog (N' := 3 * k) (fun S h1 h2 _ => async h1 h2))
  have HC2 := Lib.hid (fun (w2 : World) (hr2 : Rel (fun j => X0 j ∨ j = X) B d m (3 * k) A.sync.1 A w2) => hr2.sync hg)
  rw [hx] at HC1 HC2
  have HBND := Lib.hid (h.bnd.sync hg)
  have hxx : (x == x) = true := by simp
  clear h hbx hr1 hg hx
  go_enter Try.func10, Try.ntmps10
  go_upto_region 18 with fail
  rw [← hX]
  rw [← hw1]
  clear hX hw1
  clear i0 i1 i2 i3 i4 i5
  go_wp2_with fail
  refine HC1.out.mono ?_
  rintro e2 w2 ⟨rfl, hr2, hb2, hk2⟩
  have HR2 := Lib.hid hr2
  have HB2 := Lib.hid hb2
  have HK2 := Lib.hid hk2
  clear hr2 hb2 hk2 HC1
  go_wp2_with fail
  refine (HC2.out _ HR2.out).mono ?_
  rintro e3 w3 ⟨rfl, hr3, hb3, hk3⟩
  have HE := Lib.hid (show DoR X0 B d m k w A.sync.1 (.returned (.bool true)) w3 from DoR.fin (fun j hj => Or.inl hj) (hr3.mono (by omega)) HBND.out ((HW1.out.mono hB).trans (HB2.out.trans hb3)) fun j hj => by
    rw [hk3 j (.inl hj), HK2.out j (.inl hj)]
    exact HW1.out.block j (HLT.out j hj).2)
  clear hr3 hb3 hk3 HC2 HR2 HB2 HK2 HBX HXW HW1 HLT HBND
  go_wp2_with fail
  go_ret
  exact HE.out
set_option maxRecDepth 100000 in
set_option maxHeartbeats 8000000 in
theorem does6_c {X0 : Nat → Prop} {B d m k : Nat} {A : Ad} {w : World} (h : Two X0 B d m k A w) (hB : B ≤ w.heap.size) (hk : k ≤ 1000) (s t : ByteArray) (pa : Option Addr) (pn pc : Nat) (n q : Int) : Calls Try.prog 10 #[.pointer (some ⟨d, 0, none⟩), .pointer (some ⟨m, 0, none⟩), .agg #[.int .i64 6, .string s, .string t, .slice pa pn pc, .int .i64 n, .int .i64 q]] w (DoR X0 B d m k w (A.crash n q)) := by
  obtain ⟨X, hX⟩ : ∃ X, X = w.heap.size := ⟨_, rfl⟩
  obtain ⟨w1, hw1⟩ : ∃ w1, w1 = w.alloc (.cells #[.int .i64 6, .string s, .string t, .slice pa pn pc, .int .i64 n, .int .i64 q] 32) := ⟨_, rfl⟩
  have hbx : OpB w1 X 6 s t (.slice pa pn pc) n q := by rw [hw1, hX]; exact heap_alloc_new w _
  have hr1 := (h.boxed (o := .cells #[.int .i64 6, .string s, .string t, .slice pa pn pc, .int .i64 n, .int .i64 q] 32) hB)
  rw [← hX, ← hw1] at hr1
  have hg := h.gd
  have HBX := Lib.hid hbx
  have HXW := Lib.hid hX
  have HW1 := Lib.hid (show Below w.heap.size w w1 from by rw [hw1]; exact (Below.refl _ _).alloc (Nat.le_refl _) _)
  have HLT := Lib.hid h.rel.lt
  obtain ⟨i0, i1, i2, i3, i4, i5⟩ := hbx.cells
  have HC1 := Lib.hid (hr1.rel.crash hg h.bnd (by omega) n q)
  have HC2 := Lib.hid (fun (w2 : World) (hr2 : Rel (fun j => X0 j ∨ j = X) B d m (3 * k) A (A.crash n q) w2) => hr2.prog (N' := 3 * k) (fun S h1 h2 _ => acrash h1 h2 n q (by omega)))
  have HBND := Lib.hid (h.bnd.crash hg n q)
  clear h hbx hr1 hg
  go_enter Try.func10, Try.ntmps10
  go_upto_region 25 with fail
  rw [← hX]
  rw [← hw1]
  clear hX hw1
  clear i0 i1 i2 i3
  go_wp2_with fail
  refine HC1.out.mono ?_
  rintro e2 w2 ⟨rfl, hr2, hb2, hk2⟩
  have HR2 := Lib.hid hr2
  have HB2 := Lib.hid hb2
  have HK2 := Lib.hid hk2
  obtain ⟨-, -, -, -, i4, i5⟩ := (HBX.out.kp hk2 (.inr rfl)).cells
  clear hr2 hb2 hk2 HC1
  go_wp2_with fail
  refine (HC2.out _ HR2.out).mono ?_
  rintro e3 w3 ⟨rfl, hr3, hb3, hk3⟩
  have HE := Lib.hid (show DoR X0 B d m k w (A.crash n q) (.returned (.bool true)) w3 from DoR.fin (fun j hj => Or.inl hj) (hr3.mono (by omega)) HBND.out ((HW1.out.mono hB).trans (HB2.out.trans hb3)) fun j hj => by
    rw [hk3 j (.inl hj), HK2.out j (.inl hj)]
    exact HW1.out.block j (HLT.out j hj).2)
  clear hr3 hb3 hk3 HC2 HR2 HB2 HK2 HBX HXW HW1 HLT HBND
  go_wp2_with fail
  go_ret
  exact HE.out
set_option maxRecDepth 100000 in
set_option maxHeartbeats 8000000 in
theorem does5_c {X0 : Nat → Prop} {B d m k : Nat} {A : Ad} {w : World} (h : Two X0 B d m k A w) (hB : B ≤ w.heap.size) (hk : k ≤ 1000) (s t : ByteArray) (pa : Option Addr) (pn pc : Nat) (n q : Int) (hn : n ≤ 9223372036854775807) : Calls Try.prog 10 #[.pointer (some ⟨d, 0, none⟩), .pointer (some ⟨m, 0, none⟩), .agg #[.int .i64 5, .string s, .string t, .slice pa pn pc, .int .i64 n, .int .i64 q]] w (DoR X0 B d m k w (A.fused n).1) := by
  obtain ⟨X, hX⟩ : ∃ X, X = w.heap.size := ⟨_, rfl⟩
  obtain ⟨w1, hw1⟩ : ∃ w1, w1 = w.alloc (.cells #[.int .i64 5, .string s, .string t, .slice pa pn pc, .int .i64 n, .int .i64 q] 32) := ⟨_, rfl⟩
  have hbx : OpB w1 X 5 s t (.slice pa pn pc) n q := by rw [hw1, hX]; exact heap_alloc_new w _
  have hr1 := (h.boxed (o := .cells #[.int .i64 5, .string s, .string t, .slice pa pn pc, .int .i64 n, .int .i64 q] 32) hB)
  rw [← hX, ← hw1] at hr1
  have hg := h.gd
  have HBX := Lib.hid hbx
  have HXW := Lib.hid hX
  have HW1 := Lib.hid (show Below w.heap.size w w1 from by rw [hw1]; exact (Below.refl _ _).alloc (Nat.le_refl _) _)
  have HLT := Lib.hid h.rel.lt
  obtain ⟨i0, i1, i2, i3, i4, i5⟩ := hbx.cells
  have HBND := Lib.hid ((h.bnd.fused n).mono (Nat.le_succ _))
  obtain ⟨S, lv, h1, h2, h3, h4⟩ := hr1.rel.ex
  obtain ⟨na, nn, nc, sa, sn, sc, ⟨c0, c1, c2, c3, c4, c5⟩, hfz, -, -⟩ := h3.cells
  rcases down_cases A with hd | hd
  · have hfu : A.fused n = (A, 5) := by unfold Ad.fused; rw [if_pos hd]
    rw [hfu] at HBND ⊢
    rw [hd] at c5
    have HC1 := Lib.hid (hr1.rel.prog (N' := 3 * k) (fun S h1 h2 _ => afuse h1 h2 n hn))
    rw [hfu] at HC1
    clear h hbx hr1 hg h1 h2 h3 h4 c0 c1 c2 c3 c4 hfz hfu
    go_enter Try.func10, Try.ntmps10
    go_upto_region 20 with fail
    rw [← hX]
    rw [← hw1]
    clear hX hw1
    go_wp2_with fail
    refine HC1.out.mono ?_
    rintro e2 w2 ⟨rfl, hr2, hb2, hk2⟩
    have HE := Lib.hid (show DoR X0 B d m k w A (.returned (.bool true)) w2 from DoR.fin (fun j hj => Or.inl hj) (hr2.mono (by omega)) HBND.out ((HW1.out.mono hB).trans hb2) fun j hj => by
      rw [hk2 j (.inl hj)]
      exact HW1.out.block j (HLT.out j hj).2)
    clear hr2 hb2 hk2 HC1 HBX HXW HW1 HLT HBND i0 i1 i2 i3 i4 i5 c5
    go_wp2_with fail
    go_ret
    exact HE.out
  · have hfu : A.fused n = ({ A with fuse := max n (-1) }, 0) := by unfold Ad.fused; rw [hd]; rfl
    rw [hfu] at HBND ⊢
    rw [hd] at c5
    obtain ⟨w2, hw2⟩ : ∃ w2, w2 = w1.setCell ⟨m, 4, none⟩ (.int .i64 (max n (-1))) := ⟨_, rfl⟩
    obtain ⟨hr2, hb2, hk2⟩ := hr1.rel.docSet (A2' := { A with fuse := max n (-1) }) (w' := w2) (fun F lv hr => by
      rw [hw2]
      exact hr.cellSet 4 (.int .i64 (max n (-1))) { A with fuse := max n (-1) } (na := none) (sa := none) (nn := 0) (nc := 0) (sn := 0) (sc := 0) (fun na nn nc sa sn sc _ h2 h3 => ⟨na, nn, nc, sa, sn, sc, rfl, h2, h3⟩) (by omega) rfl)
    have HC1 := Lib.hid (hr2.prog (N' := 3 * k) (fun S h1 h2 _ => afuse h1 h2 n hn))
    rw [hfu] at HC1
    have HB2 := Lib.hid hb2
    have HK2 := Lib.hid hk2
    have j4 := (HBX.out.kp hk2 (.inr rfl)).cells.2.2.2.2.1
    have f4 := hfz 4
    clear h hbx hr1 hg h1 h2 h3 h4 c0 c1 c2 c3 hfz hfu hr2 hb2 hk2
    go_enter Try.func10, Try.ntmps10
    go_upto_region 20 with fail
    rw [← hX]
    rw [← hw1]
    clear hX hw1
    go_upto_region 23 with fail
    rw [← hw2]
    clear hw2 i0 i1 i2 i3 i4 i5 c5 f4 c4
    go_wp2_with fail
    refine HC1.out.mono ?_
    rintro e3 w3 ⟨rfl, hr3, hb3, hk3⟩
    have HE := Lib.hid (show DoR X0 B d m k w { A with fuse := max n (-1) } (.returned (.bool true)) w3 from DoR.fin (fun j hj => Or.inl hj) (hr3.mono (by omega)) HBND.out ((HW1.out.mono hB).trans (HB2.out.trans hb3)) fun j hj => by
      rw [hk3 j (.inl hj), HK2.out j (.inl hj)]
      exact HW1.out.block j (HLT.out j hj).2)
    clear hr3 hb3 hk3 HC1 HB2 HK2 HBX HXW HW1 HLT HBND j4
    go_wp2_with fail
    go_ret
    exact HE.out
end Go.Proofs.Ytcjlbonflecbkaa
