/-
  A step of a script, done to a disk in memory and as the document says: the law's own Does: Create, Remove, Rename.
-/
import Derived.Test.YtcjlbonflecbkaaTwo
import Derived.Test.YtcjlbonflecbkaaJpk
import Derived.BigQuiet
namespace Go.Proofs.Ytcjlbonflecbkaa
open Go.RowKit
set_option linter.unusedVariables false
/-- a step of a script that lies in a box -/
def OpB (W : World) (X : Nat) (kd : Int) (s t : ByteArray) (p : Value) (n q : Int) : Prop := W.heap[X]? = some (.cells #[.int .i64 kd, .string s, .string t, p, .int .i64 n, .int .i64 q] 32 (0, 0))
theorem OpB.cells {W : World} {X : Nat} {kd : Int} {s t : ByteArray} {p : Value} {n q : Int} (h : OpB W X kd s t p n q) : W.cell? ⟨X, 0, none⟩ = some (.int .i64 kd) ∧ W.cell? ⟨X, 1, none⟩ = some (.string s) ∧ W.cell? ⟨X, 2, none⟩ = some (.string t) ∧ W.cell? ⟨X, 3, none⟩ = some p ∧ W.cell? ⟨X, 4, none⟩ = some (.int .i64 n) ∧ W.cell? ⟨X, 5, none⟩ = some (.int .i64 q) :=
  ⟨(cell_of_row W X 0 _ _ _ h).trans rfl, (cell_of_row W X 1 _ _ _ h).trans rfl, (cell_of_row W X 2 _ _ _ h).trans rfl, (cell_of_row W X 3 _ _ _ h).trans rfl, (cell_of_row W X 4 _ _ _ h).trans rfl, (cell_of_row W X 5 _ _ _ h).trans rfl⟩
theorem OpB.kp {W W' : World} {X : Nat} {kd : Int} {s t : ByteArray} {p : Value} {n q : Int} {Y : Nat → Prop} (h : OpB W X kd s t p n q) (hk : KpX Y W W') (hX : Y X) : OpB W' X kd s t p n q := (hk X hX).trans h
theorem Two.boxed {X0 : Nat → Prop} {B d m k : Nat} {A : Ad} {w : World} (h : Two X0 B d m k A w) (hB : B ≤ w.heap.size) {o : Obj} : Two (fun j => X0 j ∨ j = w.heap.size) B d m k A (w.alloc o) := by
  have hb : Below w.heap.size w (w.alloc o) := (Below.refl _ _).alloc (Nat.le_refl _) _
  refine ⟨h.rel.more (Sta.ofBelow hb) (fun j hj => ?_) (fun j hj => ?_), h.bnd⟩
  · rcases hj with hj | rfl
    · exact .inl hj
    · exact .inr (Nat.le_refl _)
  · rcases hj with hj | rfl
    · exact ⟨(h.rel.lt j hj).1, Nat.lt_of_lt_of_le (h.rel.lt j hj).2 hb.size⟩
    · exact ⟨hB, by simp⟩
/-- what a step leaves -/
def DoR (X0 : Nat → Prop) (B d m k : Nat) (w : World) (A' : Ad) (e : Ending) (w' : World) : Prop := e = .returned (.bool true) ∧ Two X0 B d m (k + 1) A' w' ∧ Below B w w' ∧ KpX X0 w w'
theorem DoR.of {X0 : Nat → Prop} {B d m k X : Nat} {w w1 w2 w3 : World} {A' : Ad} (hX : X = w.heap.size) (h1 : Below w.heap.size w w1) (h2 : Below B (World.drew w1) w2) (h3 : Below B w2 w3) (k2 : KpX (fun j => X0 j ∨ j = X) (World.drew w1) w2) (k3 : KpX (fun j => X0 j ∨ j = X) w2 w3) (hr : Rel (fun j => X0 j ∨ j = X) B d m (3 * k + 3) A' A' w3) (hb : Bnd (k + 1) A') (hlt : ∀ j, X0 j → B ≤ j ∧ j < w.heap.size) (hB : B ≤ w.heap.size) : DoR X0 B d m k w A' (.returned (.bool true)) w3 := by
  refine ⟨rfl, ⟨(hr.more (Sta.refl _ _) (fun j hj => .inl (.inl hj)) fun j hj => hr.lt j (.inl hj)).mono (by omega), hb⟩, ((h1.mono hB).trans (below_drewN' _ w1 1)).trans (h2.trans h3), fun j hj => ?_⟩
  rw [k3 j (.inl hj), k2 j (.inl hj)]
  exact h1.block j (hlt j hj).2
set_option maxRecDepth 100000 in
set_option maxHeartbeats 8000000 in
theorem does0_c {X0 : Nat → Prop} {B d m k : Nat} {A : Ad} {w : World} (h : Two X0 B d m k A w) (hB : B ≤ w.heap.size) (hk : k ≤ 1000) (s t : ByteArray) (hs : s.size ≤ maxLen) (ht : t.size ≤ maxLen) (pa : Option Addr) (pn pc : Nat) (n q : Int) :
    Calls Try.prog 10 #[.pointer (some ⟨d, 0, none⟩), .pointer (some ⟨m, 0, none⟩), .agg #[.int .i64 0, .string s, .string t, .slice pa pn pc, .int .i64 n, .int .i64 q]] w (DoR X0 B d m k w (A.step ⟨0, s, ⟨#[]⟩, []⟩).1) := by
  obtain ⟨X, hX⟩ : ∃ X, X = w.heap.size := ⟨_, rfl⟩
  obtain ⟨w1, hw1⟩ : ∃ w1, w1 = w.alloc (.cells #[.int .i64 0, .string s, .string t, .slice pa pn pc, .int .i64 n, .int .i64 q] 32) := ⟨_, rfl⟩
  have hbx : OpB w1 X 0 s t (.slice pa pn pc) n q := by rw [hw1, hX]; exact heap_alloc_new w _
  have hr1 := (h.boxed (o := .cells #[.int .i64 0, .string s, .string t, .slice pa pn pc, .int .i64 n, .int .i64 q] 32) hB)
  rw [← hX, ← hw1] at hr1
  have hrd := hr1.rel.below (below_drewN' _ w1 1)
  have hg := h.gd
  obtain ⟨x, hx⟩ : ∃ x, (A.step ⟨0, s, ⟨#[]⟩, []⟩).2 = x := ⟨_, rfl⟩
  have HC1 := Lib.hid (hrd.prog (N' := 3 * k + 3) (fun S h1 h2 _ => acreate h1 h2 s hs (by omega)))
  have HC2 := Lib.hid (fun (w2 : World) (hr2 : Rel (fun j => X0 j ∨ j = X) B d m (3 * k + 3) (A.step ⟨0, s, ⟨#[]⟩, []⟩).1 A w2) => hr2.step hg h.bnd (by omega) ⟨0, s, ⟨#[]⟩, []⟩ (show 0 ≤ 3 from by decide) none 0 0 ⟨rfl, by simp, .inl rfl⟩ (fun _ _ _ e => by cases e) (fun _ => rfl) (Nat.le_refl _) (by omega) hs (Nat.zero_le _))
  rw [hx] at HC1 HC2
  have HBND := Lib.hid (h.bnd.step ⟨0, s, ⟨#[]⟩, []⟩)
  have HBX := Lib.hid hbx
  have HXW := Lib.hid hX
  have HW1 := Lib.hid (show Below w.heap.size w w1 from by rw [hw1]; exact (Below.refl _ _).alloc (Nat.le_refl _) _)
  have HLT := Lib.hid h.rel.lt
  have i0 : w1.cell? ⟨X, 0, none⟩ = some (.int .i64 0) := hbx.cells.1
  have hxx : (x == x) = true := by simp
  have hf0 : w1.frozen? ⟨X, 0, none⟩ = false := frozen_of_row w1 X 0 _ _ hbx
  clear h hbx hr1 hrd hg hx
  go_enter Try.func10, Try.ntmps10
  go_upto_region 3 with fail
  rw [← hX]
  rw [← hw1]
  clear hX hw1 i0 hf0
  have HS := Lib.hid (show OpB (World.drew w1) X 0 s t (.slice pa pn pc) n q from HBX.out)
  have HL1 := Lib.hid (fun W (hW : OpB W X 0 s t (.slice pa pn pc) n q) => run_cell_s W ⟨X, 1, none⟩ s hW.cells.2.1)
  have HL2 := Lib.hid (fun W (hW : OpB W X 0 s t (.slice pa pn pc) n q) => run_cell_s W ⟨X, 2, none⟩ t hW.cells.2.2.1)
  refine anyH_begin (S := fun W => OpB W X 0 s t (.slice pa pn pc) n q) (by kernel_rfl) ?_
  refine anyH_pureG 0 (d := 19) (op := .move (.tmp 0)) (gd := none) (.pointer (some ⟨d, 0, none⟩)) (by rfl) (fun o ho => wanted_plain ho _) (by kernel_rfl) (by kernel_rfl) (by kernel_rfl) (fun _ _ _ h => h) (fun o ho W hW => by unfold execOp; simp only [ho]; go_simp) HS.out ?_
  simp only [Act.put, List.setIfInBounds_toArray, List.set_cons_zero, List.set_cons_succ]
  refine anyH_pureG 1 (d := 20) (op := .fieldAddr 32 (.tmp 5) 1) (gd := none) (.pointer (some ⟨X, 1, none⟩)) (by rfl) (fun o ho => wanted_plain ho _) (by kernel_rfl) (by kernel_rfl) (by kernel_rfl) (fun _ _ _ h => h) (fun o ho W hW => by unfold execOp; simp only [ho]; go_simp) HS.out ?_
  simp only [Act.put, List.setIfInBounds_toArray, List.set_cons_zero, List.set_cons_succ]
  refine anyH_loadG 2 (d := 21) (ty := 9) (x := (.tmp 20)) (gd := none) (p := .pointer (some ⟨X, 1, none⟩)) (.string s) (by rfl) (fun o ho => wanted_plain ho _) (by kernel_rfl) (by kernel_rfl) (by kernel_rfl) (fun _ _ _ h => h) (by rfl) HL1.out HS.out ?_
  simp only [Act.put, List.setIfInBounds_toArray, List.set_cons_zero, List.set_cons_succ]
  refine anyH_pureG 4 (d := 23) (op := .move (.tmp 1)) (gd := none) (.pointer (some ⟨m, 0, none⟩)) (by rfl) (fun o ho => wanted_plain ho _) (by kernel_rfl) (by kernel_rfl) (by kernel_rfl) (fun _ _ _ h => h) (fun o ho W hW => by unfold execOp; simp only [ho]; go_simp) HS.out ?_
  simp only [Act.put, List.setIfInBounds_toArray, List.set_cons_zero, List.set_cons_succ]
  refine anyH_pureG 5 (d := 24) (op := .fieldAddr 32 (.tmp 5) 1) (gd := none) (.pointer (some ⟨X, 1, none⟩)) (by rfl) (fun o ho => wanted_plain ho _) (by kernel_rfl) (by kernel_rfl) (by kernel_rfl) (fun _ _ _ h => h) (fun o ho W hW => by unfold execOp; simp only [ho]; go_simp) HS.out ?_
  simp only [Act.put, List.setIfInBounds_toArray, List.set_cons_zero, List.set_cons_succ]
  refine anyH_loadG 6 (d := 25) (ty := 9) (x := (.tmp 24)) (gd := none) (p := .pointer (some ⟨X, 1, none⟩)) (.string s) (by rfl) (fun o ho => wanted_plain ho _) (by kernel_rfl) (by kernel_rfl) (by kernel_rfl) (fun _ _ _ h => h) (by rfl) HL1.out HS.out ?_
  simp only [Act.put, List.setIfInBounds_toArray, List.set_cons_zero, List.set_cons_succ]
  refine anyH_pureG 7 (d := 26) (op := .build 94 #[(0, (.const (.int .i64 0))), (1, (.tmp 25))]) (gd := none) (.agg #[.int .i64 0, .string s, .string ⟨#[]⟩, .slice none 0 0]) (by rfl) (fun o ho => wanted_plain ho _) (by kernel_rfl) (by kernel_rfl) (by kernel_rfl) (fun _ _ _ h => h) (fun o ho W hW => by unfold execOp; simp only [ho]; go_simp) HS.out ?_
  simp only [Act.put, List.setIfInBounds_toArray, List.set_cons_zero, List.set_cons_succ]
  refine anyH_callG 3 (d := some 22) (f := 40) (xs := #[(.tmp 19), (.tmp 21)]) (ts := #[24, 9]) (gd := none) (vs := #[.pointer (some ⟨d, 0, none⟩), .string s]) (by kernel_rfl) (by rfl) (fun o ho => wanted_plain ho _) (by go_simp) (by go_simp) (HC1.out) ?_
  rintro e2 w2 ⟨rfl, hr2, hb2, hk2⟩
  have HS2 := Lib.hid (HS.out.kp hk2 (.inr rfl))
  have HR2 := Lib.hid hr2
  have HB2 := Lib.hid hb2
  have HK2 := Lib.hid hk2
  clear hr2 hb2 hk2
  refine ⟨_, rfl, HS2.out, fun _ => ?_⟩
  simp only [Act.put, List.setIfInBounds_toArray, List.set_cons_zero, List.set_cons_succ]
  refine anyH_callG 8 (d := some 27) (f := 43) (xs := #[(.tmp 23), (.tmp 26)]) (ts := #[28, 94]) (gd := none) (vs := #[.pointer (some ⟨m, 0, none⟩), .agg #[.int .i64 0, .string s, .string ⟨#[]⟩, .slice none 0 0]]) (by kernel_rfl) (by rfl) (fun o ho => wanted_plain ho _) (by go_simp) (by go_simp) (HC2.out _ HR2.out) ?_
  rintro e3 w3 ⟨rfl, hr3, hb3, hk3⟩
  have HS3 := Lib.hid (HS2.out.kp hk3 (.inr rfl))
  have HR3 := Lib.hid hr3
  have HB3 := Lib.hid hb3
  have HK3 := Lib.hid hk3
  clear hr3 hb3 hk3
  refine ⟨_, rfl, HS3.out, fun _ => ?_⟩
  simp only [Act.put, List.setIfInBounds_toArray, List.set_cons_zero, List.set_cons_succ]
  refine anyH_pureG 9 (d := 28) (op := .binOp .eql 3 (.tmp 22) (.tmp 27) 3) (gd := none) (.bool true) (by rfl) (fun o ho => wanted_plain ho _) (by kernel_rfl) (by kernel_rfl) (by kernel_rfl) (fun _ _ _ h => h) (fun o1 ho W hW => by unfold execOp; simp only [ho]; go_simp; try simp) HS3.out ?_
  simp only [Act.put, List.setIfInBounds_toArray, List.set_cons_zero, List.set_cons_succ]
  refine anyH_pureG 10 (d := 6) (op := .assign (.tmp 28)) (gd := none) (.bool true) (by rfl) (fun o ho => wanted_plain ho _) (by kernel_rfl) (by kernel_rfl) (by kernel_rfl) (fun _ _ _ h => h) (fun o ho W hW => by unfold execOp; simp only [ho]; go_simp) HS3.out ?_
  simp only [Act.put, List.setIfInBounds_toArray, List.set_cons_zero, List.set_cons_succ]
  refine wpAnyH_done (by kernel_rfl) ?_ _
  have HE := Lib.hid (show DoR X0 B d m k w (A.step ⟨0, s, ⟨#[]⟩, []⟩).1 (.returned (.bool true)) w3 from DoR.of HXW.out HW1.out HB2.out HB3.out HK2.out HK3.out HR3.out HBND.out HLT.out hB)
  clear HS HS2 HS3 HL1 HL2 HC1 HC2 HBND HBX HXW HW1 HB2 HB3 HK2 HK3 HR2 HR3 HLT hxx
  go_wp2_with fail
  go_ret
  exact HE.out
set_option maxRecDepth 100000 in
set_option maxHeartbeats 8000000 in
theorem does2_c {X0 : Nat → Prop} {B d m k : Nat} {A : Ad} {w : World} (h : Two X0 B d m k A w) (hB : B ≤ w.heap.size) (hk : k ≤ 1000) (s t : ByteArray) (hs : s.size ≤ maxLen) (ht : t.size ≤ maxLen) (pa : Option Addr) (pn pc : Nat) (n q : Int) :
    Calls Try.prog 10 #[.pointer (some ⟨d, 0, none⟩), .pointer (some ⟨m, 0, none⟩), .agg #[.int .i64 2, .string s, .string t, .slice pa pn pc, .int .i64 n, .int .i64 q]] w (DoR X0 B d m k w (A.step ⟨2, s, ⟨#[]⟩, []⟩).1) := by
  obtain ⟨X, hX⟩ : ∃ X, X = w.heap.size := ⟨_, rfl⟩
  obtain ⟨w1, hw1⟩ : ∃ w1, w1 = w.alloc (.cells #[.int .i64 2, .string s, .string t, .slice pa pn pc, .int .i64 n, .int .i64 q] 32) := ⟨_, rfl⟩
  have hbx : OpB w1 X 2 s t (.slice pa pn pc) n q := by rw [hw1, hX]; exact heap_alloc_new w _
  have hr1 := (h.boxed (o := .cells #[.int .i64 2, .string s, .string t, .slice pa pn pc, .int .i64 n, .int .i64 q] 32) hB)
  rw [← hX, ← hw1] at hr1
  have hrd := hr1.rel.below (below_drewN' _ w1 1)
  have hg := h.gd
  obtain ⟨x, hx⟩ : ∃ x, (A.step ⟨2, s, ⟨#[]⟩, []⟩).2 = x := ⟨_, rfl⟩
  have HC1 := Lib.hid (hrd.prog (N' := 3 * k + 3) (fun S h1 h2 _ => aremove h1 h2 s hs (by omega)))
  have HC2 := Lib.hid (fun (w2 : World) (hr2 : Rel (fun j => X0 j ∨ j = X) B d m (3 * k + 3) (A.step ⟨2, s, ⟨#[]⟩, []⟩).1 A w2) => hr2.step hg h.bnd (by omega) ⟨2, s, ⟨#[]⟩, []⟩ (show 2 ≤ 3 from by decide) none 0 0 ⟨rfl, by simp, .inl rfl⟩ (fun _ _ _ e => by cases e) (fun _ => rfl) (Nat.le_refl _) (by omega) hs (Nat.zero_le _))
  rw [hx] at HC1 HC2
  have HBND := Lib.hid (h.bnd.step ⟨2, s, ⟨#[]⟩, []⟩)
  have HBX := Lib.hid hbx
  have HXW := Lib.hid hX
  have HW1 := Lib.hid (show Below w.heap.size w w1 from by rw [hw1]; exact (Below.refl _ _).alloc (Nat.le_refl _) _)
  have HLT := Lib.hid h.rel.lt
  have i0 : w1.cell? ⟨X, 0, none⟩ = some (.int .i64 2) := hbx.cells.1
  have hxx : (x == x) = true := by simp
  have hf0 : w1.frozen? ⟨X, 0, none⟩ = false := frozen_of_row w1 X 0 _ _ hbx
  clear h hbx hr1 hrd hg hx
  go_enter Try.func10, Try.ntmps10
  go_upto_region 14 with fail
  rw [← hX]
  rw [← hw1]
  clear hX hw1 i0 hf0
  have HS := Lib.hid (show OpB (World.drew w1) X 2 s t (.slice pa pn pc) n q from HBX.out)
  have HL1 := Lib.hid (fun W (hW : OpB W X 2 s t (.slice pa pn pc) n q) => run_cell_s W ⟨X, 1, none⟩ s hW.cells.2.1)
  have HL2 := Lib.hid (fun W (hW : OpB W X 2 s t (.slice pa pn pc) n q) => run_cell_s W ⟨X, 2, none⟩ t hW.cells.2.2.1)
  refine anyH_begin (S := fun W => OpB W X 2 s t (.slice pa pn pc) n q) (by kernel_rfl) ?_
  refine anyH_pureG 0 (d := 62) (op := .move (.tmp 0)) (gd := none) (.pointer (some ⟨d, 0, none⟩)) (by rfl) (fun o ho => wanted_plain ho _) (by kernel_rfl) (by kernel_rfl) (by kernel_rfl) (fun _ _ _ h => h) (fun o ho W hW => by unfold execOp; simp only [ho]; go_simp) HS.out ?_
  simp only [Act.put, List.setIfInBounds_toArray, List.set_cons_zero, List.set_cons_succ]
  refine anyH_pureG 1 (d := 63) (op := .fieldAddr 32 (.tmp 5) 1) (gd := none) (.pointer (some ⟨X, 1, none⟩)) (by rfl) (fun o ho => wanted_plain ho _) (by kernel_rfl) (by kernel_rfl) (by kernel_rfl) (fun _ _ _ h => h) (fun o ho W hW => by unfold execOp; simp only [ho]; go_simp) HS.out ?_
  simp only [Act.put, List.setIfInBounds_toArray, List.set_cons_zero, List.set_cons_succ]
  refine anyH_loadG 2 (d := 64) (ty := 9) (x := (.tmp 63)) (gd := none) (p := .pointer (some ⟨X, 1, none⟩)) (.string s) (by rfl) (fun o ho => wanted_plain ho _) (by kernel_rfl) (by kernel_rfl) (by kernel_rfl) (fun _ _ _ h => h) (by rfl) HL1.out HS.out ?_
  simp only [Act.put, List.setIfInBounds_toArray, List.set_cons_zero, List.set_cons_succ]
  refine anyH_pureG 4 (d := 66) (op := .move (.tmp 1)) (gd := none) (.pointer (some ⟨m, 0, none⟩)) (by rfl) (fun o ho => wanted_plain ho _) (by kernel_rfl) (by kernel_rfl) (by kernel_rfl) (fun _ _ _ h => h) (fun o ho W hW => by unfold execOp; simp only [ho]; go_simp) HS.out ?_
  simp only [Act.put, List.setIfInBounds_toArray, List.set_cons_zero, List.set_cons_succ]
  refine anyH_pureG 5 (d := 67) (op := .fieldAddr 32 (.tmp 5) 1) (gd := none) (.pointer (some ⟨X, 1, none⟩)) (by rfl) (fun o ho => wanted_plain ho _) (by kernel_rfl) (by kernel_rfl) (by kernel_rfl) (fun _ _ _ h => h) (fun o ho W hW => by unfold execOp; simp only [ho]; go_simp) HS.out ?_
  simp only [Act.put, List.setIfInBounds_toArray, List.set_cons_zero, List.set_cons_succ]
  refine anyH_loadG 6 (d := 68) (ty := 9) (x := (.tmp 67)) (gd := none) (p := .pointer (some ⟨X, 1, none⟩)) (.string s) (by rfl) (fun o ho => wanted_plain ho _) (by kernel_rfl) (by kernel_rfl) (by kernel_rfl) (fun _ _ _ h => h) (by rfl) HL1.out HS.out ?_
  simp only [Act.put, List.setIfInBounds_toArray, List.set_cons_zero, List.set_cons_succ]
  refine anyH_pureG 7 (d := 69) (op := .build 94 #[(0, (.const (.int .i64 2))), (1, (.tmp 68))]) (gd := none) (.agg #[.int .i64 2, .string s, .string ⟨#[]⟩, .slice none 0 0]) (by rfl) (fun o ho => wanted_plain ho _) (by kernel_rfl) (by kernel_rfl) (by kernel_rfl) (fun _ _ _ h => h) (fun o ho W hW => by unfold execOp; simp only [ho]; go_simp) HS.out ?_
  simp only [Act.put, List.setIfInBounds_toArray, List.set_cons_zero, List.set_cons_succ]
  refine anyH_callG 3 (d := some 65) (f := 44) (xs := #[(.tmp 62), (.tmp 64)]) (ts := #[24, 9]) (gd := none) (vs := #[.pointer (some ⟨d, 0, none⟩), .string s]) (by kernel_rfl) (by rfl) (fun o ho => wanted_plain ho _) (by go_simp) (by go_simp) (HC1.out) ?_
  rintro e2 w2 ⟨rfl, hr2, hb2, hk2⟩
  have HS2 := Lib.hid (HS.out.kp hk2 (.inr rfl))
  have HR2 := Lib.hid hr2
  have HB2 := Lib.hid hb2
  have HK2 := Lib.hid hk2
  clear hr2 hb2 hk2
  refine ⟨_, rfl, HS2.out, fun _ => ?_⟩
  simp only [Act.put, List.setIfInBounds_toArray, List.set_cons_zero, List.set_cons_succ]
  refine anyH_callG 8 (d := some 70) (f := 43) (xs := #[(.tmp 66), (.tmp 69)]) (ts := #[28, 94]) (gd := none) (vs := #[.pointer (some ⟨m, 0, none⟩), .agg #[.int .i64 2, .string s, .string ⟨#[]⟩, .slice none 0 0]]) (by kernel_rfl) (by rfl) (fun o ho => wanted_plain ho _) (by go_simp) (by go_simp) (HC2.out _ HR2.out) ?_
  rintro e3 w3 ⟨rfl, hr3, hb3, hk3⟩
  have HS3 := Lib.hid (HS2.out.kp hk3 (.inr rfl))
  have HR3 := Lib.hid hr3
  have HB3 := Lib.hid hb3
  have HK3 := Lib.hid hk3
  clear hr3 hb3 hk3
  refine ⟨_, rfl, HS3.out, fun _ => ?_⟩
  simp only [Act.put, List.setIfInBounds_toArray, List.set_cons_zero, List.set_cons_succ]
  refine anyH_pureG 9 (d := 71) (op := .binOp .eql 3 (.tmp 65) (.tmp 70) 3) (gd := none) (.bool true) (by rfl) (fun o ho => wanted_plain ho _) (by kernel_rfl) (by kernel_rfl) (by kernel_rfl) (fun _ _ _ h => h) (fun o1 ho W hW => by unfold execOp; simp only [ho]; go_simp; try simp) HS3.out ?_
  simp only [Act.put, List.setIfInBounds_toArray, List.set_cons_zero, List.set_cons_succ]
  refine anyH_pureG 10 (d := 6) (op := .assign (.tmp 71)) (gd := none) (.bool true) (by rfl) (fun o ho => wanted_plain ho _) (by kernel_rfl) (by kernel_rfl) (by kernel_rfl) (fun _ _ _ h => h) (fun o ho W hW => by unfold execOp; simp only [ho]; go_simp) HS3.out ?_
  simp only [Act.put, List.setIfInBounds_toArray, List.set_cons_zero, List.set_cons_succ]
  refine wpAnyH_done (by kernel_rfl) ?_ _
  have HE := Lib.hid (show DoR X0 B d m k w (A.step ⟨2, s, ⟨#[]⟩, []⟩).1 (.returned (.bool true)) w3 from DoR.of HXW.out HW1.out HB2.out HB3.out HK2.out HK3.out HR3.out HBND.out HLT.out hB)
  clear HS HS2 HS3 HL1 HL2 HC1 HC2 HBND HBX HXW HW1 HB2 HB3 HK2 HK3 HR2 HR3 HLT hxx
  go_wp2_with fail
  go_ret
  exact HE.out
set_option maxRecDepth 100000 in
set_option maxHeartbeats 8000000 in
theorem does3_c {X0 : Nat → Prop} {B d m k : Nat} {A : Ad} {w : World} (h : Two X0 B d m k A w) (hB : B ≤ w.heap.size) (hk : k ≤ 1000) (s t : ByteArray) (hs : s.size ≤ maxLen) (ht : t.size ≤ maxLen) (pa : Option Addr) (pn pc : Nat) (n q : Int) :
    Calls Try.prog 10 #[.pointer (some ⟨d, 0, none⟩), .pointer (some ⟨m, 0, none⟩), .agg #[.int .i64 3, .string s, .string t, .slice pa pn pc, .int .i64 n, .int .i64 q]] w (DoR X0 B d m k w (A.step ⟨3, s, t, []⟩).1) := by
  obtain ⟨X, hX⟩ : ∃ X, X = w.heap.size := ⟨_, rfl⟩
  obtain ⟨w1, hw1⟩ : ∃ w1, w1 = w.alloc (.cells #[.int .i64 3, .string s, .string t, .slice pa pn pc, .int .i64 n, .int .i64 q] 32) := ⟨_, rfl⟩
  have hbx : OpB w1 X 3 s t (.slice pa pn pc) n q := by rw [hw1, hX]; exact heap_alloc_new w _
  have hr1 := (h.boxed (o := .cells #[.int .i64 3, .string s, .string t, .slice pa pn pc, .int .i64 n, .int .i64 q] 32) hB)
  rw [← hX, ← hw1] at hr1
  have hrd := hr1.rel.below (below_drewN' _ w1 1)
  have hg := h.gd
  obtain ⟨x, hx⟩ : ∃ x, (A.step ⟨3, s, t, []⟩).2 = x := ⟨_, rfl⟩
  have HC1 := Lib.hid (hrd.prog (N' := 3 * k + 3) (fun S h1 h2 _ => arename h1 h2 s t hs ht (by omega)))
  have HC2 := Lib.hid (fun (w2 : World) (hr2 : Rel (fun j => X0 j ∨ j = X) B d m (3 * k + 3) (A.step ⟨3, s, t, []⟩).1 A w2) => hr2.step hg h.bnd (by omega) ⟨3, s, t, []⟩ (show 3 ≤ 3 from by decide) none 0 0 ⟨rfl, by simp, .inl rfl⟩ (fun _ _ _ e => by cases e) (fun _ => rfl) (Nat.le_refl _) (by omega) hs ht)
  rw [hx] at HC1 HC2
  have HBND := Lib.hid (h.bnd.step ⟨3, s, t, []⟩)
  have HBX := Lib.hid hbx
  have HXW := Lib.hid hX
  have HW1 := Lib.hid (show Below w.heap.size w w1 from by rw [hw1]; exact (Below.refl _ _).alloc (Nat.le_refl _) _)
  have HLT := Lib.hid h.rel.lt
  have i0 : w1.cell? ⟨X, 0, none⟩ = some (.int .i64 3) := hbx.cells.1
  have hxx : (x == x) = true := by simp
  have hf0 : w1.frozen? ⟨X, 0, none⟩ = false := frozen_of_row w1 X 0 _ _ hbx
  clear h hbx hr1 hrd hg hx
  go_enter Try.func10, Try.ntmps10
  go_upto_region 16 with fail
  rw [← hX]
  rw [← hw1]
  clear hX hw1 i0 hf0
  have HS := Lib.hid (show OpB (World.drew w1) X 3 s t (.slice pa pn pc) n q from HBX.out)
  have HL1 := Lib.hid (fun W (hW : OpB W X 3 s t (.slice pa pn pc) n q) => run_cell_s W ⟨X, 1, none⟩ s hW.cells.2.1)
  have HL2 := Lib.hid (fun W (hW : OpB W X 3 s t (.slice pa pn pc) n q) => run_cell_s W ⟨X, 2, none⟩ t hW.cells.2.2.1)
  refine anyH_begin (S := fun W => OpB W X 3 s t (.slice pa pn pc) n q) (by kernel_rfl) ?_
  refine anyH_pureG 0 (d := 74) (op := .move (.tmp 0)) (gd := none) (.pointer (some ⟨d, 0, none⟩)) (by rfl) (fun o ho => wanted_plain ho _) (by kernel_rfl) (by kernel_rfl) (by kernel_rfl) (fun _ _ _ h => h) (fun o ho W hW => by unfold execOp; simp only [ho]; go_simp) HS.out ?_
  simp only [Act.put, List.setIfInBounds_toArray, List.set_cons_zero, List.set_cons_succ]
  refine anyH_pureG 1 (d := 75) (op := .fieldAddr 32 (.tmp 5) 1) (gd := none) (.pointer (some ⟨X, 1, none⟩)) (by rfl) (fun o ho => wanted_plain ho _) (by kernel_rfl) (by kernel_rfl) (by kernel_rfl) (fun _ _ _ h => h) (fun o ho W hW => by unfold execOp; simp only [ho]; go_simp) HS.out ?_
  simp only [Act.put, List.setIfInBounds_toArray, List.set_cons_zero, List.set_cons_succ]
  refine anyH_loadG 2 (d := 76) (ty := 9) (x := (.tmp 75)) (gd := none) (p := .pointer (some ⟨X, 1, none⟩)) (.string s) (by rfl) (fun o ho => wanted_plain ho _) (by kernel_rfl) (by kernel_rfl) (by kernel_rfl) (fun _ _ _ h => h) (by rfl) HL1.out HS.out ?_
  simp only [Act.put, List.setIfInBounds_toArray, List.set_cons_zero, List.set_cons_succ]
  refine anyH_pureG 3 (d := 77) (op := .fieldAddr 32 (.tmp 5) 2) (gd := none) (.pointer (some ⟨X, 2, none⟩)) (by rfl) (fun o ho => wanted_plain ho _) (by kernel_rfl) (by kernel_rfl) (by kernel_rfl) (fun _ _ _ h => h) (fun o ho W hW => by unfold execOp; simp only [ho]; go_simp) HS.out ?_
  simp only [Act.put, List.setIfInBounds_toArray, List.set_cons_zero, List.set_cons_succ]
  refine anyH_loadG 4 (d := 78) (ty := 9) (x := (.tmp 77)) (gd := none) (p := .pointer (some ⟨X, 2, none⟩)) (.string t) (by rfl) (fun o ho => wanted_plain ho _) (by kernel_rfl) (by kernel_rfl) (by kernel_rfl) (fun _ _ _ h => h) (by rfl) HL2.out HS.out ?_
  simp only [Act.put, List.setIfInBounds_toArray, List.set_cons_zero, List.set_cons_succ]
  refine anyH_pureG 6 (d := 80) (op := .move (.tmp 1)) (gd := none) (.pointer (some ⟨m, 0, none⟩)) (by rfl) (fun o ho => wanted_plain ho _) (by kernel_rfl) (by kernel_rfl) (by kernel_rfl) (fun _ _ _ h => h) (fun o ho W hW => by unfold execOp; simp only [ho]; go_simp) HS.out ?_
  simp only [Act.put, List.setIfInBounds_toArray, List.set_cons_zero, List.set_cons_succ]
  refine anyH_pureG 7 (d := 81) (op := .fieldAddr 32 (.tmp 5) 1) (gd := none) (.pointer (some ⟨X, 1, none⟩)) (by rfl) (fun o ho => wanted_plain ho _) (by kernel_rfl) (by kernel_rfl) (by kernel_rfl) (fun _ _ _ h => h) (fun o ho W hW => by unfold execOp; simp only [ho]; go_simp) HS.out ?_
  simp only [Act.put, List.setIfInBounds_toArray, List.set_cons_zero, List.set_cons_succ]
  refine anyH_loadG 8 (d := 82) (ty := 9) (x := (.tmp 81)) (gd := none) (p := .pointer (some ⟨X, 1, none⟩)) (.string s) (by rfl) (fun o ho => wanted_plain ho _) (by kernel_rfl) (by kernel_rfl) (by kernel_rfl) (fun _ _ _ h => h) (by rfl) HL1.out HS.out ?_
  simp only [Act.put, List.setIfInBounds_toArray, List.set_cons_zero, List.set_cons_succ]
  refine anyH_pureG 9 (d := 83) (op := .fieldAddr 32 (.tmp 5) 2) (gd := none) (.pointer (some ⟨X, 2, none⟩)) (by rfl) (fun o ho => wanted_plain ho _) (by kernel_rfl) (by kernel_rfl) (by kernel_rfl) (fun _ _ _ h => h) (fun o ho W hW => by unfold execOp; simp only [ho]; go_simp) HS.out ?_
  simp only [Act.put, List.setIfInBounds_toArray, List.set_cons_zero, List.set_cons_succ]
  refine anyH_loadG 10 (d := 84) (ty := 9) (x := (.tmp 83)) (gd := none) (p := .pointer (some ⟨X, 2, none⟩)) (.string t) (by rfl) (fun o ho => wanted_plain ho _) (by kernel_rfl) (by kernel_rfl) (by kernel_rfl) (fun _ _ _ h => h) (by rfl) HL2.out HS.out ?_
  simp only [Act.put, List.setIfInBounds_toArray, List.set_cons_zero, List.set_cons_succ]
  refine anyH_pureG 11 (d := 85) (op := .build 94 #[(0, (.const (.int .i64 3))), (1, (.tmp 82)), (2, (.tmp 84))]) (gd := none) (.agg #[.int .i64 3, .string s, .string t, .slice none 0 0]) (by rfl) (fun o ho => wanted_plain ho _) (by kernel_rfl) (by kernel_rfl) (by kernel_rfl) (fun _ _ _ h => h) (fun o ho W hW => by unfold execOp; simp only [ho]; go_simp) HS.out ?_
  simp only [Act.put, List.setIfInBounds_toArray, List.set_cons_zero, List.set_cons_succ]
  refine anyH_callG 5 (d := some 79) (f := 45) (xs := #[(.tmp 74), (.tmp 76), (.tmp 78)]) (ts := #[24, 9, 9]) (gd := none) (vs := #[.pointer (some ⟨d, 0, none⟩), .string s, .string t]) (by kernel_rfl) (by rfl) (fun o ho => wanted_plain ho _) (by go_simp) (by go_simp) (HC1.out) ?_
  rintro e2 w2 ⟨rfl, hr2, hb2, hk2⟩
  have HS2 := Lib.hid (HS.out.kp hk2 (.inr rfl))
  have HR2 := Lib.hid hr2
  have HB2 := Lib.hid hb2
  have HK2 := Lib.hid hk2
  clear hr2 hb2 hk2
  refine ⟨_, rfl, HS2.out, fun _ => ?_⟩
  simp only [Act.put, List.setIfInBounds_toArray, List.set_cons_zero, List.set_cons_succ]
  refine anyH_callG 12 (d := some 86) (f := 43) (xs := #[(.tmp 80), (.tmp 85)]) (ts := #[28, 94]) (gd := none) (vs := #[.pointer (some ⟨m, 0, none⟩), .agg #[.int .i64 3, .string s, .string t, .slice none 0 0]]) (by kernel_rfl) (by rfl) (fun o ho => wanted_plain ho _) (by go_simp) (by go_simp) (HC2.out _ HR2.out) ?_
  rintro e3 w3 ⟨rfl, hr3, hb3, hk3⟩
  have HS3 := Lib.hid (HS2.out.kp hk3 (.inr rfl))
  have HR3 := Lib.hid hr3
  have HB3 := Lib.hid hb3
  have HK3 := Lib.hid hk3
  clear hr3 hb3 hk3
  refine ⟨_, rfl, HS3.out, fun _ => ?_⟩
  simp only [Act.put, List.setIfInBounds_toArray, List.set_cons_zero, List.set_cons_succ]
  refine anyH_pureG 13 (d := 87) (op := .binOp .eql 3 (.tmp 79) (.tmp 86) 3) (gd := none) (.bool true) (by rfl) (fun o ho => wanted_plain ho _) (by kernel_rfl) (by kernel_rfl) (by kernel_rfl) (fun _ _ _ h => h) (fun o1 ho W hW => by unfold execOp; simp only [ho]; go_simp; try simp) HS3.out ?_
  simp only [Act.put, List.setIfInBounds_toArray, List.set_cons_zero, List.set_cons_succ]
  refine anyH_pureG 14 (d := 6) (op := .assign (.tmp 87)) (gd := none) (.bool true) (by rfl) (fun o ho => wanted_plain ho _) (by kernel_rfl) (by kernel_rfl) (by kernel_rfl) (fun _ _ _ h => h) (fun o ho W hW => by unfold execOp; simp only [ho]; go_simp) HS3.out ?_
  simp only [Act.put, List.setIfInBounds_toArray, List.set_cons_zero, List.set_cons_succ]
  refine wpAnyH_done (by kernel_rfl) ?_ _
  have HE := Lib.hid (show DoR X0 B d m k w (A.step ⟨3, s, t, []⟩).1 (.returned (.bool true)) w3 from DoR.of HXW.out HW1.out HB2.out HB3.out HK2.out HK3.out HR3.out HBND.out HLT.out hB)
  clear HS HS2 HS3 HL1 HL2 HC1 HC2 HBND HBX HXW HW1 HB2 HB3 HK2 HK3 HR2 HR3 HLT hxx
  go_wp2_with fail
  go_ret
  exact HE.out
end Go.Proofs.Ytcjlbonflecbkaa
