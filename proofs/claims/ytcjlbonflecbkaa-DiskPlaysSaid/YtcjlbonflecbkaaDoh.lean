/-
  A step of a script, done to a disk in memory and as the document says: the law's own Does: Read; all of it.
-/
import Derived.Test.YtcjlbonflecbkaaDog
namespace Go.Proofs.Ytcjlbonflecbkaa
open Go.RowKit
set_option linter.unusedVariables false
def S28 (m X : Nat) (s : ByteArray) (na : Option Addr) (nn nc : Nat) (W : World) : Prop := W.cell? ⟨m, 1, none⟩ = some (.slice na nn nc) ∧ W.cell? ⟨X, 1, none⟩ = some (.string s)
structure S35 (d m X : Nat) (n q : Int) (na : Option Addr) (nn nc fb fo i : Nat) (ra : Option Addr) (rn rc : Nat) (W : World) : Prop where
  now : W.cell? ⟨m, 1, none⟩ = some (.slice na nn nc)
  row : W.cell? ⟨fb, fo + 2 * i + 1, none⟩ = some (.slice ra rn rc)
  n4 : W.cell? ⟨X, 4, none⟩ = some (.int .i64 n)
  q5 : W.cell? ⟨X, 5, none⟩ = some (.int .i64 q)
  lt : m < W.heap.size ∧ fb < W.heap.size ∧ X < W.heap.size
theorem S35.below {d m X : Nat} {n q : Int} {na : Option Addr} {nn nc fb fo i : Nat} {ra : Option Addr} {rn rc : Nat} {W W' : World} (h : S35 d m X n q na nn nc fb fo i ra rn rc W) (hb : Below W.heap.size W W') : S35 d m X n q na nn nc fb fo i ra rn rc W' :=
  ⟨(hb.cell (p := ⟨m, 1, none⟩) h.lt.1).trans h.now, (hb.cell (p := ⟨fb, fo + 2 * i + 1, none⟩) h.lt.2.1).trans h.row, (hb.cell (p := ⟨X, 4, none⟩) h.lt.2.2).trans h.n4, (hb.cell (p := ⟨X, 5, none⟩) h.lt.2.2).trans h.q5, Nat.lt_of_lt_of_le h.lt.1 hb.size, Nat.lt_of_lt_of_le h.lt.2.1 hb.size, Nat.lt_of_lt_of_le h.lt.2.2 hb.size⟩
set_option maxRecDepth 100000 in
set_option maxHeartbeats 8000000 in
theorem does7a_c {X0 : Nat → Prop} {B d m k : Nat} {A : Ad} {w : World} (h : Two X0 B d m k A w) (hB : B ≤ w.heap.size) (hk : k ≤ 1000) (kd : Int) (h0 : ¬ kd = 0) (h1 : ¬ kd = 1) (h2 : ¬ kd = 2) (h3 : ¬ kd = 3) (h4 : ¬ kd = 4) (h5 : ¬ kd = 5) (h6 : ¬ kd = 6) (s t : ByteArray) (hs : s.size ≤ maxLen) (pa : Option Addr) (pn pc : Nat) (n q : Int) (hd : A.down = true) : Calls Try.prog 10 #[.pointer (some ⟨d, 0, none⟩), .pointer (some ⟨m, 0, none⟩), .agg #[.int .i64 kd, .string s, .string t, .slice pa pn pc, .int .i64 n, .int .i64 q]] w (DoR X0 B d m k w A) := by
  obtain ⟨X, hX⟩ : ∃ X, X = w.heap.size := ⟨_, rfl⟩
  obtain ⟨w1, hw1⟩ : ∃ w1, w1 = w.alloc (.cells #[.int .i64 kd, .string s, .string t, .slice pa pn pc, .int .i64 n, .int .i64 q] 32) := ⟨_, rfl⟩
  have hbx : OpB w1 X kd s t (.slice pa pn pc) n q := by rw [hw1, hX]; exact heap_alloc_new w _
  have hr1 := (h.boxed (o := .cells #[.int .i64 kd, .string s, .string t, .slice pa pn pc, .int .i64 n, .int .i64 q] 32) hB)
  rw [← hX, ← hw1] at hr1
  have hg := h.gd
  have HBX := Lib.hid hbx
  have HXW := Lib.hid hX
  have HW1 := Lib.hid (show Below w.heap.size w w1 from by rw [hw1]; exact (Below.refl _ _).alloc (Nat.le_refl _) _)
  have HLT := Lib.hid h.rel.lt
  obtain ⟨i0, i1, i2, i3, i4, i5⟩ := hbx.cells
  obtain ⟨S, lv, g1, g2, g3, g4⟩ := hr1.rel.ex
  obtain ⟨na, nn, nc, sa, sn, sc, ⟨c0, c1, c2, c3, c4, c5⟩, -, hnow, -⟩ := g3.cells
  have HRD := Lib.hid (aread g1 g2 s hs n q)
  unfold RdA at HRD
  have hnn : nn ≤ 1000000000 := by have e1 := hnow.ln; have e2 := hg.now h.bnd; omega
  have HFIN := Lib.hid (show ∀ w9, Below w1.heap.size w1 w9 → DoR X0 B d m k w A (.returned (.bool true)) w9 from fun w9 hb9 => DoR.fin (fun j hj => Or.inl hj) ((hr1.rel.below hb9).mono (by omega)) (h.bnd.mono (Nat.le_succ _)) ((HW1.out.mono hB).trans (hb9.mono (Nat.le_trans hB HW1.out.size))) fun j hj => by
    rw [hb9.block j (Nat.lt_of_lt_of_le (HLT.out j hj).2 HW1.out.size)]
    exact HW1.out.block j (HLT.out j hj).2)
  have hmlt := g3.lt
  have hXlt : X < w1.heap.size := by rw [hw1, hX]; simp
  rw [hd] at HRD c5
  simp only [if_true] at HRD
  have HFI := Lib.hid (rfind_c (cap := nc) (hnow.below (below_drewN' _ w1 1)) s hnn)
  clear g1 g2 g3 g4 hbx hr1 hnow c0 c2 c3 c4 hg HBX HXW HW1 HLT
  clear h
  go_enter Try.func10, Try.ntmps10
  go_upto_region 27 with fail
  rw [← hX]
  rw [← hw1]
  clear hX hw1
  go_wp2_with fail
  refine HRD.out.mono ?_
  rintro e2 w2 ⟨rfl, rfl⟩
  clear HRD
  go_wp2_with fail
  (try dsimp only [Act.put, List.setIfInBounds_toArray, List.set_cons_zero, List.set_cons_succ])
  have HS := Lib.hid (show S28 m X s na nn nc (World.drew w2) from ⟨c1, i1⟩)
  have HL1 := Lib.hid (fun W (hW : S28 m X s na nn nc W) => run_cell_fl W ⟨m, 1, none⟩ na nn nc hW.1)
  have HL2 := Lib.hid (fun W (hW : S28 m X s na nn nc W) => run_cell_s W ⟨X, 1, none⟩ s hW.2)
  refine anyH_begin (S := S28 m X s na nn nc) (by kernel_rfl) ?_
  refine anyH_pureG 0 (d := 143) (op := .move (.tmp 1)) (gd := none) (.pointer (some ⟨m, 0, none⟩)) (by rfl) (fun o ho => wanted_plain ho _) (by kernel_rfl) (by kernel_rfl) (by kernel_rfl) (fun _ _ _ h => h) (fun o ho W hW => by unfold execOp; simp only [ho]; go_simp) HS.out ?_
  simp only [Act.put, List.setIfInBounds_toArray, List.set_cons_zero, List.set_cons_succ]
  refine anyH_pureG 1 (d := 144) (op := .nilCheck (.tmp 143)) (gd := none) (.pointer (some ⟨m, 0, none⟩)) (by rfl) (fun o ho => wanted_plain ho _) (by kernel_rfl) (by kernel_rfl) (by kernel_rfl) (fun _ _ _ h => h) (fun o ho W hW => by unfold execOp; simp only [ho]; go_simp) HS.out ?_
  simp only [Act.put, List.setIfInBounds_toArray, List.set_cons_zero, List.set_cons_succ]
  refine anyH_pureG 2 (d := 145) (op := .fieldAddr 91 (.tmp 144) 1) (gd := none) (.pointer (some ⟨m, 1, none⟩)) (by rfl) (fun o ho => wanted_plain ho _) (by kernel_rfl) (by kernel_rfl) (by kernel_rfl) (fun _ _ _ h => h) (fun o ho W hW => by unfold execOp; simp only [ho]; go_simp) HS.out ?_
  simp only [Act.put, List.setIfInBounds_toArray, List.set_cons_zero, List.set_cons_succ]
  refine anyH_loadG 3 (d := 146) (ty := 88) (x := (.tmp 145)) (gd := none) (p := .pointer (some ⟨m, 1, none⟩)) (.slice na nn nc) (by rfl) (fun o ho => wanted_plain ho _) (by kernel_rfl) (by kernel_rfl) (by kernel_rfl) (fun _ _ _ h => h) (by rfl) HL1.out HS.out ?_
  simp only [Act.put, List.setIfInBounds_toArray, List.set_cons_zero, List.set_cons_succ]
  refine anyH_pureG 4 (d := 147) (op := .fieldAddr 32 (.tmp 5) 1) (gd := none) (.pointer (some ⟨X, 1, none⟩)) (by rfl) (fun o ho => wanted_plain ho _) (by kernel_rfl) (by kernel_rfl) (by kernel_rfl) (fun _ _ _ h => h) (fun o ho W hW => by unfold execOp; simp only [ho]; go_simp) HS.out ?_
  simp only [Act.put, List.setIfInBounds_toArray, List.set_cons_zero, List.set_cons_succ]
  refine anyH_loadG 5 (d := 148) (ty := 9) (x := (.tmp 147)) (gd := none) (p := .pointer (some ⟨X, 1, none⟩)) (.string s) (by rfl) (fun o ho => wanted_plain ho _) (by kernel_rfl) (by kernel_rfl) (by kernel_rfl) (fun _ _ _ h => h) (by rfl) HL2.out HS.out ?_
  simp only [Act.put, List.setIfInBounds_toArray, List.set_cons_zero, List.set_cons_succ]
  refine anyH_callG 6 (d := some 149) (f := 49) (xs := #[(.tmp 146), (.tmp 148)]) (ts := #[88, 9]) (gd := none) (vs := #[.slice na nn nc, .string s]) (by kernel_rfl) (by rfl) (fun o ho => wanted_plain ho _) (by go_simp) (by go_simp) (HFI.out) ?_
  rintro e3 w3 ⟨rfl, rfl⟩
  refine ⟨_, rfl, HS.out, fun _ => ?_⟩
  simp only [Act.put, List.setIfInBounds_toArray, List.set_cons_zero, List.set_cons_succ]
  refine anyH_pureG 7 (d := 12) (op := .assign (.tmp 149)) (gd := none) (.int .i64 (ixI (idxF A.now s))) (by rfl) (fun o ho => wanted_plain ho _) (by kernel_rfl) (by kernel_rfl) (by kernel_rfl) (fun _ _ _ h => h) (fun o ho W hW => by unfold execOp; simp only [ho]; go_simp) HS.out ?_
  simp only [Act.put, List.setIfInBounds_toArray, List.set_cons_zero, List.set_cons_succ]
  refine wpAnyH_done (by kernel_rfl) ?_ _
  clear HS HL1 HL2 HFI
  clear c1
  go_wp2_with fail
  go_ret
  exact HFIN.out _ (below_drewN' _ _ 1)
set_option maxRecDepth 100000 in
set_option maxHeartbeats 8000000 in
theorem does7b_c {X0 : Nat → Prop} {B d m k : Nat} {A : Ad} {w : World} (h : Two X0 B d m k A w) (hB : B ≤ w.heap.size) (hk : k ≤ 1000) (kd : Int) (h0 : ¬ kd = 0) (h1 : ¬ kd = 1) (h2 : ¬ kd = 2) (h3 : ¬ kd = 3) (h4 : ¬ kd = 4) (h5 : ¬ kd = 5) (h6 : ¬ kd = 6) (s t : ByteArray) (hs : s.size ≤ maxLen) (pa : Option Addr) (pn pc : Nat) (n q : Int) (hd : A.down = false) (hl : lookF A.now s = none) : Calls Try.prog 10 #[.pointer (some ⟨d, 0, none⟩), .pointer (some ⟨m, 0, none⟩), .agg #[.int .i64 kd, .string s, .string t, .slice pa pn pc, .int .i64 n, .int .i64 q]] w (DoR X0 B d m k w A) := by
  obtain ⟨X, hX⟩ : ∃ X, X = w.heap.size := ⟨_, rfl⟩
  obtain ⟨w1, hw1⟩ : ∃ w1, w1 = w.alloc (.cells #[.int .i64 kd, .string s, .string t, .slice pa pn pc, .int .i64 n, .int .i64 q] 32) := ⟨_, rfl⟩
  have hbx : OpB w1 X kd s t (.slice pa pn pc) n q := by rw [hw1, hX]; exact heap_alloc_new w _
  have hr1 := (h.boxed (o := .cells #[.int .i64 kd, .string s, .string t, .slice pa pn pc, .int .i64 n, .int .i64 q] 32) hB)
  rw [← hX, ← hw1] at hr1
  have hg := h.gd
  have HBX := Lib.hid hbx
  have HXW := Lib.hid hX
  have HW1 := Lib.hid (show Below w.heap.size w w1 from by rw [hw1]; exact (Below.refl _ _).alloc (Nat.le_refl _) _)
  have HLT := Lib.hid h.rel.lt
  obtain ⟨i0, i1, i2, i3, i4, i5⟩ := hbx.cells
  obtain ⟨S, lv, g1, g2, g3, g4⟩ := hr1.rel.ex
  obtain ⟨na, nn, nc, sa, sn, sc, ⟨c0, c1, c2, c3, c4, c5⟩, -, hnow, -⟩ := g3.cells
  have HRD := Lib.hid (aread g1 g2 s hs n q)
  unfold RdA at HRD
  have hnn : nn ≤ 1000000000 := by have e1 := hnow.ln; have e2 := hg.now h.bnd; omega
  have HFIN := Lib.hid (show ∀ w9, Below w1.heap.size w1 w9 → DoR X0 B d m k w A (.returned (.bool true)) w9 from fun w9 hb9 => DoR.fin (fun j hj => Or.inl hj) ((hr1.rel.below hb9).mono (by omega)) (h.bnd.mono (Nat.le_succ _)) ((HW1.out.mono hB).trans (hb9.mono (Nat.le_trans hB HW1.out.size))) fun j hj => by
    rw [hb9.block j (Nat.lt_of_lt_of_le (HLT.out j hj).2 HW1.out.size)]
    exact HW1.out.block j (HLT.out j hj).2)
  have hmlt := g3.lt
  have hXlt : X < w1.heap.size := by rw [hw1, hX]; simp
  rw [hd, hl] at HRD
  rw [hd] at c5
  simp only [Bool.false_eq_true, if_false] at HRD
  have hix : ixI (idxF A.now s) = -1 := by rw [idxF_none.2 hl]; rfl
  have HFI := Lib.hid (rfind_c (cap := nc) (hnow.below (below_drewN' _ w1 1)) s hnn)
  rw [hix] at HFI
  clear hix
  clear g1 g2 g3 g4 hbx hr1 hnow c0 c2 c3 c4 hg HBX HXW HW1 HLT
  clear h
  go_enter Try.func10, Try.ntmps10
  go_upto_region 27 with fail
  rw [← hX]
  rw [← hw1]
  clear hX hw1
  go_wp2_with fail
  refine HRD.out.mono ?_
  rintro e2 w2 ⟨rfl, rfl⟩
  clear HRD
  go_wp2_with fail
  (try dsimp only [Act.put, List.setIfInBounds_toArray, List.set_cons_zero, List.set_cons_succ])
  have HS := Lib.hid (show S28 m X s na nn nc (World.drew w2) from ⟨c1, i1⟩)
  have HL1 := Lib.hid (fun W (hW : S28 m X s na nn nc W) => run_cell_fl W ⟨m, 1, none⟩ na nn nc hW.1)
  have HL2 := Lib.hid (fun W (hW : S28 m X s na nn nc W) => run_cell_s W ⟨X, 1, none⟩ s hW.2)
  refine anyH_begin (S := S28 m X s na nn nc) (by kernel_rfl) ?_
  refine anyH_pureG 0 (d := 143) (op := .move (.tmp 1)) (gd := none) (.pointer (some ⟨m, 0, none⟩)) (by rfl) (fun o ho => wanted_plain ho _) (by kernel_rfl) (by kernel_rfl) (by kernel_rfl) (fun _ _ _ h => h) (fun o ho W hW => by unfold execOp; simp only [ho]; go_simp) HS.out ?_
  simp only [Act.put, List.setIfInBounds_toArray, List.set_cons_zero, List.set_cons_succ]
  refine anyH_pureG 1 (d := 144) (op := .nilCheck (.tmp 143)) (gd := none) (.pointer (some ⟨m, 0, none⟩)) (by rfl) (fun o ho => wanted_plain ho _) (by kernel_rfl) (by kernel_rfl) (by kernel_rfl) (fun _ _ _ h => h) (fun o ho W hW => by unfold execOp; simp only [ho]; go_simp) HS.out ?_
  simp only [Act.put, List.setIfInBounds_toArray, List.set_cons_zero, List.set_cons_succ]
  refine anyH_pureG 2 (d := 145) (op := .fieldAddr 91 (.tmp 144) 1) (gd := none) (.pointer (some ⟨m, 1, none⟩)) (by rfl) (fun o ho => wanted_plain ho _) (by kernel_rfl) (by kernel_rfl) (by kernel_rfl) (fun _ _ _ h => h) (fun o ho W hW => by unfold execOp; simp only [ho]; go_simp) HS.out ?_
  simp only [Act.put, List.setIfInBounds_toArray, List.set_cons_zero, List.set_cons_succ]
  refine anyH_loadG 3 (d := 146) (ty := 88) (x := (.tmp 145)) (gd := none) (p := .pointer (some ⟨m, 1, none⟩)) (.slice na nn nc) (by rfl) (fun o ho => wanted_plain ho _) (by kernel_rfl) (by kernel_rfl) (by kernel_rfl) (fun _ _ _ h => h) (by rfl) HL1.out HS.out ?_
  simp only [Act.put, List.setIfInBounds_toArray, List.set_cons_zero, List.set_cons_succ]
  refine anyH_pureG 4 (d := 147) (op := .fieldAddr 32 (.tmp 5) 1) (gd := none) (.pointer (some ⟨X, 1, none⟩)) (by rfl) (fun o ho => wanted_plain ho _) (by kernel_rfl) (by kernel_rfl) (by kernel_rfl) (fun _ _ _ h => h) (fun o ho W hW => by unfold execOp; simp only [ho]; go_simp) HS.out ?_
  simp only [Act.put, List.setIfInBounds_toArray, List.set_cons_zero, List.set_cons_succ]
  refine anyH_loadG 5 (d := 148) (ty := 9) (x := (.tmp 147)) (gd := none) (p := .pointer (some ⟨X, 1, none⟩)) (.string s) (by rfl) (fun o ho => wanted_plain ho _) (by kernel_rfl) (by kernel_rfl) (by kernel_rfl) (fun _ _ _ h => h) (by rfl) HL2.out HS.out ?_
  simp only [Act.put, List.setIfInBounds_toArray, List.set_cons_zero, List.set_cons_succ]
  refine anyH_callG 6 (d := some 149) (f := 49) (xs := #[(.tmp 146), (.tmp 148)]) (ts := #[88, 9]) (gd := none) (vs := #[.slice na nn nc, .string s]) (by kernel_rfl) (by rfl) (fun o ho => wanted_plain ho _) (by go_simp) (by go_simp) (HFI.out) ?_
  rintro e3 w3 ⟨rfl, rfl⟩
  refine ⟨_, rfl, HS.out, fun _ => ?_⟩
  simp only [Act.put, List.setIfInBounds_toArray, List.set_cons_zero, List.set_cons_succ]
  refine anyH_pureG 7 (d := 12) (op := .assign (.tmp 149)) (gd := none) (.int .i64 (-1)) (by rfl) (fun o ho => wanted_plain ho _) (by kernel_rfl) (by kernel_rfl) (by kernel_rfl) (fun _ _ _ h => h) (fun o ho W hW => by unfold execOp; simp only [ho]; go_simp) HS.out ?_
  simp only [Act.put, List.setIfInBounds_toArray, List.set_cons_zero, List.set_cons_succ]
  refine wpAnyH_done (by kernel_rfl) ?_ _
  clear HS HL1 HL2 HFI
  clear c1
  go_wp2_with fail
  go_ret
  exact HFIN.out _ (below_drewN' _ _ 1)
set_option maxRecDepth 100000 in
set_option maxHeartbeats 8000000 in
theorem does7c_c {X0 : Nat → Prop} {B d m k : Nat} {A : Ad} {w : World} (h : Two X0 B d m k A w) (hB : B ≤ w.heap.size) (hk : k ≤ 1000) (kd : Int) (h0 : ¬ kd = 0) (h1 : ¬ kd = 1) (h2 : ¬ kd = 2) (h3 : ¬ kd = 3) (h4 : ¬ kd = 4) (h5 : ¬ kd = 5) (h6 : ¬ kd = 6) (s t : ByteArray) (hs : s.size ≤ maxLen) (pa : Option Addr) (pn pc : Nat) (n q : Int) (hd : A.down = false) {z : List Nat} (hl : lookF A.now s = some z) (hnq : n < 0 ∨ q < 0) : Calls Try.prog 10 #[.pointer (some ⟨d, 0, none⟩), .pointer (some ⟨m, 0, none⟩), .agg #[.int .i64 kd, .string s, .string t, .slice pa pn pc, .int .i64 n, .int .i64 q]] w (DoR X0 B d m k w A) := by
  obtain ⟨X, hX⟩ : ∃ X, X = w.heap.size := ⟨_, rfl⟩
  obtain ⟨w1, hw1⟩ : ∃ w1, w1 = w.alloc (.cells #[.int .i64 kd, .string s, .string t, .slice pa pn pc, .int .i64 n, .int .i64 q] 32) := ⟨_, rfl⟩
  have hbx : OpB w1 X kd s t (.slice pa pn pc) n q := by rw [hw1, hX]; exact heap_alloc_new w _
  have hr1 := (h.boxed (o := .cells #[.int .i64 kd, .string s, .string t, .slice pa pn pc, .int .i64 n, .int .i64 q] 32) hB)
  rw [← hX, ← hw1] at hr1
  have hg := h.gd
  have HBX := Lib.hid hbx
  have HXW := Lib.hid hX
  have HW1 := Lib.hid (show Below w.heap.size w w1 from by rw [hw1]; exact (Below.refl _ _).alloc (Nat.le_refl _) _)
  have HLT := Lib.hid h.rel.lt
  obtain ⟨i0, i1, i2, i3, i4, i5⟩ := hbx.cells
  obtain ⟨S, lv, g1, g2, g3, g4⟩ := hr1.rel.ex
  obtain ⟨na, nn, nc, sa, sn, sc, ⟨c0, c1, c2, c3, c4, c5⟩, -, hnow, -⟩ := g3.cells
  have HRD := Lib.hid (aread g1 g2 s hs n q)
  unfold RdA at HRD
  have hnn : nn ≤ 1000000000 := by have e1 := hnow.ln; have e2 := hg.now h.bnd; omega
  have HFIN := Lib.hid (show ∀ w9, Below w1.heap.size w1 w9 → DoR X0 B d m k w A (.returned (.bool true)) w9 from fun w9 hb9 => DoR.fin (fun j hj => Or.inl hj) ((hr1.rel.below hb9).mono (by omega)) (h.bnd.mono (Nat.le_succ _)) ((HW1.out.mono hB).trans (hb9.mono (Nat.le_trans hB HW1.out.size))) fun j hj => by
    rw [hb9.block j (Nat.lt_of_lt_of_le (HLT.out j hj).2 HW1.out.size)]
    exact HW1.out.block j (HLT.out j hj).2)
  have hmlt := g3.lt
  have hXlt : X < w1.heap.size := by rw [hw1, hX]; simp
  rw [hd, hl] at HRD
  rw [hd] at c5
  simp only [Bool.false_eq_true, if_false, if_pos hnq] at HRD
  obtain ⟨j, hj⟩ : ∃ j : Nat, ixI (idxF A.now s) = (j : Int) := by
    obtain ⟨j, hj, -⟩ := idx_of hl
    exact ⟨j, by rw [hj]; rfl⟩
  have hj0 : ¬ (j : Int) < 0 := by omega
  have HFI := Lib.hid (rfind_c (cap := nc) (hnow.below (below_drewN' _ w1 1)) s hnn)
  rw [hj] at HFI
  clear hj
  clear g1 g2 g3 g4 hbx hr1 hnow c0 c2 c3 c4 hg HBX HXW HW1 HLT
  clear h
  go_enter Try.func10, Try.ntmps10
  go_upto_region 27 with fail
  rw [← hX]
  rw [← hw1]
  clear hX hw1
  go_wp2_with fail
  refine HRD.out.mono ?_
  rintro e2 w2 ⟨rfl, rfl⟩
  clear HRD
  go_wp2_with fail
  (try dsimp only [Act.put, List.setIfInBounds_toArray, List.set_cons_zero, List.set_cons_succ])
  have HS := Lib.hid (show S28 m X s na nn nc (World.drew w2) from ⟨c1, i1⟩)
  have HL1 := Lib.hid (fun W (hW : S28 m X s na nn nc W) => run_cell_fl W ⟨m, 1, none⟩ na nn nc hW.1)
  have HL2 := Lib.hid (fun W (hW : S28 m X s na nn nc W) => run_cell_s W ⟨X, 1, none⟩ s hW.2)
  refine anyH_begin (S := S28 m X s na nn nc) (by kernel_rfl) ?_
  refine anyH_pureG 0 (d := 143) (op := .move (.tmp 1)) (gd := none) (.pointer (some ⟨m, 0, none⟩)) (by rfl) (fun o ho => wanted_plain ho _) (by kernel_rfl) (by kernel_rfl) (by kernel_rfl) (fun _ _ _ h => h) (fun o ho W hW => by unfold execOp; simp only [ho]; go_simp) HS.out ?_
  simp only [Act.put, List.setIfInBounds_toArray, List.set_cons_zero, List.set_cons_succ]
  refine anyH_pureG 1 (d := 144) (op := .nilCheck (.tmp 143)) (gd := none) (.pointer (some ⟨m, 0, none⟩)) (by rfl) (fun o ho => wanted_plain ho _) (by kernel_rfl) (by kernel_rfl) (by kernel_rfl) (fun _ _ _ h => h) (fun o ho W hW => by unfold execOp; simp only [ho]; go_simp) HS.out ?_
  simp only [Act.put, List.setIfInBounds_toArray, List.set_cons_zero, List.set_cons_succ]
  refine anyH_pureG 2 (d := 145) (op := .fieldAddr 91 (.tmp 144) 1) (gd := none) (.pointer (some ⟨m, 1, none⟩)) (by rfl) (fun o ho => wanted_plain ho _) (by kernel_rfl) (by kernel_rfl) (by kernel_rfl) (fun _ _ _ h => h) (fun o ho W hW => by unfold execOp; simp only [ho]; go_simp) HS.out ?_
  simp only [Act.put, List.setIfInBounds_toArray, List.set_cons_zero, List.set_cons_succ]
  refine anyH_loadG 3 (d := 146) (ty := 88) (x := (.tmp 145)) (gd := none) (p := .pointer (some ⟨m, 1, none⟩)) (.slice na nn nc) (by rfl) (fun o ho => wanted_plain ho _) (by kernel_rfl) (by kernel_rfl) (by kernel_rfl) (fun _ _ _ h => h) (by rfl) HL1.out HS.out ?_
  simp only [Act.put, List.setIfInBounds_toArray, List.set_cons_zero, List.set_cons_succ]
  refine anyH_pureG 4 (d := 147) (op := .fieldAddr 32 (.tmp 5) 1) (gd := none) (.pointer (some ⟨X, 1, none⟩)) (by rfl) (fun o ho => wanted_plain ho _) (by kernel_rfl) (by kernel_rfl) (by kernel_rfl) (fun _ _ _ h => h) (fun o ho W hW => by unfold execOp; simp only [ho]; go_simp) HS.out ?_
  simp only [Act.put, List.setIfInBounds_toArray, List.set_cons_zero, List.set_cons_succ]
  refine anyH_loadG 5 (d := 148) (ty := 9) (x := (.tmp 147)) (gd := none) (p := .pointer (some ⟨X, 1, none⟩)) (.string s) (by rfl) (fun o ho => wanted_plain ho _) (by kernel_rfl) (by kernel_rfl) (by kernel_rfl) (fun _ _ _ h => h) (by rfl) HL2.out HS.out ?_
  simp only [Act.put, List.setIfInBounds_toArray, List.set_cons_zero, List.set_cons_succ]
  refine anyH_callG 6 (d := some 149) (f := 49) (xs := #[(.tmp 146), (.tmp 148)]) (ts := #[88, 9]) (gd := none) (vs := #[.slice na nn nc, .string s]) (by kernel_rfl) (by rfl) (fun o ho => wanted_plain ho _) (by go_simp) (by go_simp) (HFI.out) ?_
  rintro e3 w3 ⟨rfl, rfl⟩
  refine ⟨_, rfl, HS.out, fun _ => ?_⟩
  simp only [Act.put, List.setIfInBounds_toArray, List.set_cons_zero, List.set_cons_succ]
  refine anyH_pureG 7 (d := 12) (op := .assign (.tmp 149)) (gd := none) (.int .i64 (j : Int)) (by rfl) (fun o ho => wanted_plain ho _) (by kernel_rfl) (by kernel_rfl) (by kernel_rfl) (fun _ _ _ h => h) (fun o ho W hW => by unfold execOp; simp only [ho]; go_simp) HS.out ?_
  simp only [Act.put, List.setIfInBounds_toArray, List.set_cons_zero, List.set_cons_succ]
  refine wpAnyH_done (by kernel_rfl) ?_ _
  clear HS HL1 HL2 HFI
  clear c1
  rcases (show n < 0 ∨ (¬ n < 0 ∧ q < 0) by omega) with e1 | ⟨e1, e2⟩
  · clear hnq
    go_wp2_with fail
    go_ret
    exact HFIN.out _ (below_drewN' _ _ 1)
  · clear hnq
    go_wp2_with fail
    go_ret
    exact HFIN.out _ (below_drewN' _ _ 1)
set_option maxRecDepth 100000 in
set_option maxHeartbeats 8000000 in
theorem does7d_c {X0 : Nat → Prop} {B d m k : Nat} {A : Ad} {w : World} (h : Two X0 B d m k A w) (hB : B ≤ w.heap.size) (hk : k ≤ 1000) (kd : Int) (h0 : ¬ kd = 0) (h1 : ¬ kd = 1) (h2 : ¬ kd = 2) (h3 : ¬ kd = 3) (h4 : ¬ kd = 4) (h5 : ¬ kd = 5) (h6 : ¬ kd = 6) (s t : ByteArray) (hs : s.size ≤ maxLen) (pa : Option Addr) (pn pc : Nat) (n q : Int) (hd : A.down = false) {z : List Nat} (hl : lookF A.now s = some z) (hn0 : ¬ n < 0) (hq0 : ¬ q < 0) : Calls Try.prog 10 #[.pointer (some ⟨d, 0, none⟩), .pointer (some ⟨m, 0, none⟩), .agg #[.int .i64 kd, .string s, .string t, .slice pa pn pc, .int .i64 n, .int .i64 q]] w (DoR X0 B d m k w A) := by
  obtain ⟨X, hX⟩ : ∃ X, X = w.heap.size := ⟨_, rfl⟩
  obtain ⟨w1, hw1⟩ : ∃ w1, w1 = w.alloc (.cells #[.int .i64 kd, .string s, .string t, .slice pa pn pc, .int .i64 n, .int .i64 q] 32) := ⟨_, rfl⟩
  have hbx : OpB w1 X kd s t (.slice pa pn pc) n q := by rw [hw1, hX]; exact heap_alloc_new w _
  have hr1 := (h.boxed (o := .cells #[.int .i64 kd, .string s, .string t, .slice pa pn pc, .int .i64 n, .int .i64 q] 32) hB)
  rw [← hX, ← hw1] at hr1
  have hg := h.gd
  have HBX := Lib.hid hbx
  have HXW := Lib.hid hX
  have HW1 := Lib.hid (show Below w.heap.size w w1 from by rw [hw1]; exact (Below.refl _ _).alloc (Nat.le_refl _) _)
  have HLT := Lib.hid h.rel.lt
  obtain ⟨i0, i1, i2, i3, i4, i5⟩ := hbx.cells
  obtain ⟨S, lv, g1, g2, g3, g4⟩ := hr1.rel.ex
  obtain ⟨na, nn, nc, sa, sn, sc, ⟨c0, c1, c2, c3, c4, c5⟩, -, hnow, -⟩ := g3.cells
  have HRD := Lib.hid (aread g1 g2 s hs n q)
  unfold RdA at HRD
  have hnn : nn ≤ 1000000000 := by have e1 := hnow.ln; have e2 := hg.now h.bnd; omega
  have HFIN := Lib.hid (show ∀ w9, Below w1.heap.size w1 w9 → DoR X0 B d m k w A (.returned (.bool true)) w9 from fun w9 hb9 => DoR.fin (fun j hj => Or.inl hj) ((hr1.rel.below hb9).mono (by omega)) (h.bnd.mono (Nat.le_succ _)) ((HW1.out.mono hB).trans (hb9.mono (Nat.le_trans hB HW1.out.size))) fun j hj => by
    rw [hb9.block j (Nat.lt_of_lt_of_le (HLT.out j hj).2 HW1.out.size)]
    exact HW1.out.block j (HLT.out j hj).2)
  have hmlt := g3.lt
  have hXlt : X < w1.heap.size := by rw [hw1, hX]; simp
  rw [hd, hl] at HRD
  rw [hd] at c5
  simp only [Bool.false_eq_true, if_false] at HRD
  simp only [if_neg (show ¬ (n < 0 ∨ q < 0) by omega)] at HRD
  obtain ⟨i, hi, hat⟩ := idx_of hl
  have hix : ixI (idxF A.now s) = (i : Int) := by rw [hi]; rfl
  have hin : i < nn := by rw [hnow.ln]; exact (List.getElem?_eq_some_iff.1 hat).1
  obtain ⟨fb, fo, f, ra, rn, rc, hna, hfb, hf, -, d1, hrb⟩ := hnow.at hin
  rw [hat] at hf
  obtain rfl := (Option.some.inj hf).symm
  subst hna
  have hzl : z.length ≤ 67108864 := by
    have e1 := used_without (n := s) hg.srt
    rw [hl] at e1
    simp only [Option.getD_some] at e1
    have := hg.used
    omega
  have HZL := Lib.hid hzl
  have hz256 : ∀ y ∈ z, y < 256 := hrb.rd.2.1
  have HRB := Lib.hid hrb
  obtain ⟨zz, hzz⟩ : ∃ zz, zz = (z.drop n.toNat).take q.toNat := ⟨_, rfl⟩
  have HZZ := Lib.hid (show ∀ y ∈ zz, y < 256 from fun y hy => hz256 y (by rw [hzz] at hy; exact List.mem_of_mem_drop (List.mem_of_mem_take hy)))
  have HZE := Lib.hid hzz
  have hrl : rn ≤ 1000000000 := by have := hrb.rd.1; simp only at this; omega
  rw [← hzz] at HRD
  have HNOW := Lib.hid hnow
  have hi0 : ¬ (i : Int) < 0 := by omega
  clear g1 g2 g3 g4 hbx hr1 c0 c2 c3 c4 hg HBX HXW HW1 HLT hat hl hrb hf hzz hz256 hi hzl hnow
  clear h
  go_enter Try.func10, Try.ntmps10
  go_upto_region 27 with fail
  rw [← hX]
  rw [← hw1]
  clear hX hw1
  go_wp2_with fail
  refine HRD.out.mono ?_
  rintro e2 w2 ⟨va, vn, vc, rfl, hown, hvn, -, hb2⟩
  have HFI := Lib.hid (rfind_c (cap := nc) ((HNOW.out.below hb2).below (below_drewN' _ w2 1)) s hnn)
  rw [hix] at HFI
  have C1 := (hb2.cell (p := ⟨m, 1, none⟩) hmlt).trans c1
  have C5 := (hb2.cell (p := ⟨m, 5, none⟩) hmlt).trans c5
  have I1 := (hb2.cell (p := ⟨X, 1, none⟩) hXlt).trans i1
  have I4 := (hb2.cell (p := ⟨X, 4, none⟩) hXlt).trans i4
  have I5 := (hb2.cell (p := ⟨X, 5, none⟩) hXlt).trans i5
  have HS0 := Lib.hid (show S35 d m X n q (some ⟨fb, fo, none⟩) nn nc fb fo i ra rn rc w2 from ⟨C1, (hb2.cell (p := ⟨fb, fo + 2 * i + 1, none⟩) hfb).trans d1, I4, I5, Nat.lt_of_lt_of_le hmlt hb2.size, Nat.lt_of_lt_of_le hfb hb2.size, Nat.lt_of_lt_of_le hXlt hb2.size⟩)
  obtain ⟨hrd2, hvb⟩ := rd_own hown hvn HZZ.out
  have hvm : vn ≤ 1000000000 := by
    have e1 := HZE.out
    have e2 : zz.length ≤ z.length := by rw [e1, List.length_take, List.length_drop]; omega
    have e3 := HZL.out
    omega
  have HOW := Lib.hid hown
  have HB2 := Lib.hid hb2
  have HVN := Lib.hid hvn
  have HRD2 := Lib.hid hrd2
  clear HRD i1 i2 i3 i4 i5 i0 c1 c5 d1 hown hvn hb2 hrd2 hix
  go_wp2_with fail
  (try dsimp only [Act.put, List.setIfInBounds_toArray, List.set_cons_zero, List.set_cons_succ])
  have HS := Lib.hid (show S28 m X s (some ⟨fb, fo, none⟩) nn nc (World.drew w2) from ⟨C1, I1⟩)
  have HL1 := Lib.hid (fun W (hW : S28 m X s (some ⟨fb, fo, none⟩) nn nc W) => run_cell_fl W ⟨m, 1, none⟩ (some ⟨fb, fo, none⟩) nn nc hW.1)
  have HL2 := Lib.hid (fun W (hW : S28 m X s (some ⟨fb, fo, none⟩) nn nc W) => run_cell_s W ⟨X, 1, none⟩ s hW.2)
  refine anyH_begin (S := S28 m X s (some ⟨fb, fo, none⟩) nn nc) (by kernel_rfl) ?_
  refine anyH_pureG 0 (d := 143) (op := .move (.tmp 1)) (gd := none) (.pointer (some ⟨m, 0, none⟩)) (by rfl) (fun o ho => wanted_plain ho _) (by kernel_rfl) (by kernel_rfl) (by kernel_rfl) (fun _ _ _ h => h) (fun o ho W hW => by unfold execOp; simp only [ho]; go_simp) HS.out ?_
  simp only [Act.put, List.setIfInBounds_toArray, List.set_cons_zero, List.set_cons_succ]
  refine anyH_pureG 1 (d := 144) (op := .nilCheck (.tmp 143)) (gd := none) (.pointer (some ⟨m, 0, none⟩)) (by rfl) (fun o ho => wanted_plain ho _) (by kernel_rfl) (by kernel_rfl) (by kernel_rfl) (fun _ _ _ h => h) (fun o ho W hW => by unfold execOp; simp only [ho]; go_simp) HS.out ?_
  simp only [Act.put, List.setIfInBounds_toArray, List.set_cons_zero, List.set_cons_succ]
  refine anyH_pureG 2 (d := 145) (op := .fieldAddr 91 (.tmp 144) 1) (gd := none) (.pointer (some ⟨m, 1, none⟩)) (by rfl) (fun o ho => wanted_plain ho _) (by kernel_rfl) (by kernel_rfl) (by kernel_rfl) (fun _ _ _ h => h) (fun o ho W hW => by unfold execOp; simp only [ho]; go_simp) HS.out ?_
  simp only [Act.put, List.setIfInBounds_toArray, List.set_cons_zero, List.set_cons_succ]
  refine anyH_loadG 3 (d := 146) (ty := 88) (x := (.tmp 145)) (gd := none) (p := .pointer (some ⟨m, 1, none⟩)) (.slice (some ⟨fb, fo, none⟩) nn nc) (by rfl) (fun o ho => wanted_plain ho _) (by kernel_rfl) (by kernel_rfl) (by kernel_rfl) (fun _ _ _ h => h) (by rfl) HL1.out HS.out ?_
  simp only [Act.put, List.setIfInBounds_toArray, List.set_cons_zero, List.set_cons_succ]
  refine anyH_pureG 4 (d := 147) (op := .fieldAddr 32 (.tmp 5) 1) (gd := none) (.pointer (some ⟨X, 1, none⟩)) (by rfl) (fun o ho => wanted_plain ho _) (by kernel_rfl) (by kernel_rfl) (by kernel_rfl) (fun _ _ _ h => h) (fun o ho W hW => by unfold execOp; simp only [ho]; go_simp) HS.out ?_
  simp only [Act.put, List.setIfInBounds_toArray, List.set_cons_zero, List.set_cons_succ]
  refine anyH_loadG 5 (d := 148) (ty := 9) (x := (.tmp 147)) (gd := none) (p := .pointer (some ⟨X, 1, none⟩)) (.string s) (by rfl) (fun o ho => wanted_plain ho _) (by kernel_rfl) (by kernel_rfl) (by kernel_rfl) (fun _ _ _ h => h) (by rfl) HL2.out HS.out ?_
  simp only [Act.put, List.setIfInBounds_toArray, List.set_cons_zero, List.set_cons_succ]
  refine anyH_callG 6 (d := some 149) (f := 49) (xs := #[(.tmp 146), (.tmp 148)]) (ts := #[88, 9]) (gd := none) (vs := #[.slice (some ⟨fb, fo, none⟩) nn nc, .string s]) (by kernel_rfl) (by rfl) (fun o ho => wanted_plain ho _) (by go_simp) (by go_simp) (HFI.out) ?_
  rintro e3 w3 ⟨rfl, rfl⟩
  refine ⟨_, rfl, HS.out, fun _ => ?_⟩
  simp only [Act.put, List.setIfInBounds_toArray, List.set_cons_zero, List.set_cons_succ]
  refine anyH_pureG 7 (d := 12) (op := .assign (.tmp 149)) (gd := none) (.int .i64 (i : Int)) (by rfl) (fun o ho => wanted_plain ho _) (by kernel_rfl) (by kernel_rfl) (by kernel_rfl) (fun _ _ _ h => h) (fun o ho W hW => by unfold execOp; simp only [ho]; go_simp) HS.out ?_
  simp only [Act.put, List.setIfInBounds_toArray, List.set_cons_zero, List.set_cons_succ]
  refine wpAnyH_done (by kernel_rfl) ?_ _
  clear HS HL1 HL2 HFI
  clear C1 I1
  go_upto_region 35 with fail
  clear C5 I4 I5
  (try dsimp only [Act.put, List.setIfInBounds_toArray, List.set_cons_zero, List.set_cons_succ])
  have HS := Lib.hid (show S35 d m X n q (some ⟨fb, fo, none⟩) nn nc fb fo i ra rn rc (World.drew (World.drew w2)) from (HS0.out.below (below_drewN' _ w2 1)).below (below_drewN' _ _ 1))
  have HL1 := Lib.hid (fun W (hW : S35 d m X n q (some ⟨fb, fo, none⟩) nn nc fb fo i ra rn rc W) => run_cell_fl W ⟨m, 1, none⟩ _ nn nc hW.now)
  have HL2 := Lib.hid (fun W (hW : S35 d m X n q (some ⟨fb, fo, none⟩) nn nc fb fo i ra rn rc W) => run_cell_b W ⟨fb, fo + 2 * i + 1, none⟩ ra rn rc hW.row)
  have HL3 := Lib.hid (fun W (hW : S35 d m X n q (some ⟨fb, fo, none⟩) nn nc fb fo i ra rn rc W) => run_cell_i W ⟨X, 4, none⟩ n hW.n4)
  have HL4 := Lib.hid (fun W (hW : S35 d m X n q (some ⟨fb, fo, none⟩) nn nc fb fo i ra rn rc W) => run_cell_i W ⟨X, 5, none⟩ q hW.q5)
  have HRR := Lib.hid (rread_c ((((HRB.out.below HB2.out).below (below_drewN' _ w2 1))).below (below_drewN' _ (World.drew w2) 1)) n q hrl)
  rw [← HZE.out] at HRR
  have HSM := Lib.hid (show ∀ xa xn xc w5, Rd w5 xa xn zz → Below (World.drew (World.drew w2)).heap.size (World.drew (World.drew w2)) w5 → Calls Try.prog 34 #[.slice va vn vc, .slice xa xn xc] w5 (RetD (.bool true) w5) from fun xa xn xc w5 e1 e2 => by
    have e3 : Rd w5 va vn zz := Rd.below (w := World.drew (World.drew w2)) HRD2.out e2
    have := same_c va xa vn vc xn xc zz zz w5 e3 e1 hvb
    simpa using this)
  refine anyH_begin (S := S35 d m X n q (some ⟨fb, fo, none⟩) nn nc fb fo i ra rn rc) (by kernel_rfl) ?_
  refine anyH_pureG 0 (d := 188) (op := .move (.tmp 11)) (gd := none) (.int .i64 0) (by rfl) (fun o ho => wanted_plain ho _) (by kernel_rfl) (by kernel_rfl) (by kernel_rfl) (fun _ _ _ h => h) (fun o ho W hW => by unfold execOp; simp only [ho]; go_simp) HS.out ?_
  simp only [Act.put, List.setIfInBounds_toArray, List.set_cons_zero, List.set_cons_succ]
  refine anyH_pureG 1 (d := 189) (op := .binOp .eql 25 (.tmp 188) (.const (.int .i64 0)) 25) (gd := none) (.bool true) (by rfl) (fun o ho => wanted_plain ho _) (by kernel_rfl) (by kernel_rfl) (by kernel_rfl) (fun _ _ _ h => h) (fun o1 ho W hW => by unfold execOp; simp only [ho]; go_simp; try simp) HS.out ?_
  simp only [Act.put, List.setIfInBounds_toArray, List.set_cons_zero, List.set_cons_succ]
  refine anyH_pureG 2 (d := 190) (op := .move (.tmp 189)) (gd := none) (.bool true) (by rfl) (fun o ho => wanted_plain ho _) (by kernel_rfl) (by kernel_rfl) (by kernel_rfl) (fun _ _ _ h => h) (fun o ho W hW => by unfold execOp; simp only [ho]; go_simp) HS.out ?_
  simp only [Act.put, List.setIfInBounds_toArray, List.set_cons_zero, List.set_cons_succ]
  refine anyH_pureG 3 (d := 191) (op := .move (.tmp 10)) (gd := some (2, true)) (.slice va vn vc) (by rfl) (fun o ho => by simp only [Region.wanted, ho]; rfl) (by kernel_rfl) (by kernel_rfl) (by kernel_rfl) (fun _ _ _ h => h) (fun o ho W hW => by unfold execOp; simp only [ho]; go_simp) HS.out ?_
  simp only [Act.put, List.setIfInBounds_toArray, List.set_cons_zero, List.set_cons_succ]
  refine anyH_pureG 4 (d := 192) (op := .move (.tmp 1)) (gd := some (2, true)) (.pointer (some ⟨m, 0, none⟩)) (by rfl) (fun o ho => by simp only [Region.wanted, ho]; rfl) (by kernel_rfl) (by kernel_rfl) (by kernel_rfl) (fun _ _ _ h => h) (fun o ho W hW => by unfold execOp; simp only [ho]; go_simp) HS.out ?_
  simp only [Act.put, List.setIfInBounds_toArray, List.set_cons_zero, List.set_cons_succ]
  refine anyH_pureG 5 (d := 193) (op := .nilCheck (.tmp 192)) (gd := some (2, true)) (.pointer (some ⟨m, 0, none⟩)) (by rfl) (fun o ho => by simp only [Region.wanted, ho]; rfl) (by kernel_rfl) (by kernel_rfl) (by kernel_rfl) (fun _ _ _ h => h) (fun o ho W hW => by unfold execOp; simp only [ho]; go_simp) HS.out ?_
  simp only [Act.put, List.setIfInBounds_toArray, List.set_cons_zero, List.set_cons_succ]
  refine anyH_pureG 6 (d := 194) (op := .fieldAddr 91 (.tmp 193) 1) (gd := some (2, true)) (.pointer (some ⟨m, 1, none⟩)) (by rfl) (fun o ho => by simp only [Region.wanted, ho]; rfl) (by kernel_rfl) (by kernel_rfl) (by kernel_rfl) (fun _ _ _ h => h) (fun o ho W hW => by unfold execOp; simp only [ho]; go_simp) HS.out ?_
  simp only [Act.put, List.setIfInBounds_toArray, List.set_cons_zero, List.set_cons_succ]
  refine anyH_loadG 7 (d := 195) (ty := 88) (x := (.tmp 194)) (gd := some (2, true)) (p := .pointer (some ⟨m, 1, none⟩)) (.slice (some ⟨fb, fo, none⟩) nn nc) (by rfl) (fun o ho => by simp only [Region.wanted, ho]; rfl) (by kernel_rfl) (by kernel_rfl) (by kernel_rfl) (fun _ _ _ h => h) (by rfl) HL1.out HS.out ?_
  simp only [Act.put, List.setIfInBounds_toArray, List.set_cons_zero, List.set_cons_succ]
  refine anyH_pureG 8 (d := 196) (op := .move (.tmp 12)) (gd := some (2, true)) (.int .i64 (i : Int)) (by rfl) (fun o ho => by simp only [Region.wanted, ho]; rfl) (by kernel_rfl) (by kernel_rfl) (by kernel_rfl) (fun _ _ _ h => h) (fun o ho W hW => by unfold execOp; simp only [ho]; go_simp) HS.out ?_
  simp only [Act.put, List.setIfInBounds_toArray, List.set_cons_zero, List.set_cons_succ]
  refine anyH_pureG 9 (d := 197) (op := .indexAddr 88 (.tmp 195) (.tmp 196)) (gd := some (2, true)) (.pointer (some ⟨fb, fo + 2 * i, none⟩)) (by rfl) (fun o ho => by simp only [Region.wanted, ho]; rfl) (by kernel_rfl) (by kernel_rfl) (by kernel_rfl) (fun _ _ _ h => h) (fun o1 ho W hW => exec_file_idx hin (x := .tmp 195) (y := .tmp 196) (by rfl) (by rfl) o1 ho W) HS.out ?_
  simp only [Act.put, List.setIfInBounds_toArray, List.set_cons_zero, List.set_cons_succ]
  refine anyH_pureG 10 (d := 198) (op := .fieldAddr 100 (.tmp 197) 1) (gd := some (2, true)) (.pointer (some ⟨fb, fo + 2 * i + 1, none⟩)) (by rfl) (fun o ho => by simp only [Region.wanted, ho]; rfl) (by kernel_rfl) (by kernel_rfl) (by kernel_rfl) (fun _ _ _ h => h) (fun o ho W hW => by unfold execOp; simp only [ho]; go_simp) HS.out ?_
  simp only [Act.put, List.setIfInBounds_toArray, List.set_cons_zero, List.set_cons_succ]
  refine anyH_loadG 11 (d := 199) (ty := 30) (x := (.tmp 198)) (gd := some (2, true)) (p := .pointer (some ⟨fb, fo + 2 * i + 1, none⟩)) (.slice ra rn rc) (by rfl) (fun o ho => by simp only [Region.wanted, ho]; rfl) (by kernel_rfl) (by kernel_rfl) (by kernel_rfl) (fun _ _ _ h => h) (by rfl) HL2.out HS.out ?_
  simp only [Act.put, List.setIfInBounds_toArray, List.set_cons_zero, List.set_cons_succ]
  refine anyH_pureG 12 (d := 200) (op := .fieldAddr 32 (.tmp 5) 4) (gd := some (2, true)) (.pointer (some ⟨X, 4, none⟩)) (by rfl) (fun o ho => by simp only [Region.wanted, ho]; rfl) (by kernel_rfl) (by kernel_rfl) (by kernel_rfl) (fun _ _ _ h => h) (fun o ho W hW => by unfold execOp; simp only [ho]; go_simp) HS.out ?_
  simp only [Act.put, List.setIfInBounds_toArray, List.set_cons_zero, List.set_cons_succ]
  refine anyH_loadG 13 (d := 201) (ty := 3) (x := (.tmp 200)) (gd := some (2, true)) (p := .pointer (some ⟨X, 4, none⟩)) (.int .i64 n) (by rfl) (fun o ho => by simp only [Region.wanted, ho]; rfl) (by kernel_rfl) (by kernel_rfl) (by kernel_rfl) (fun _ _ _ h => h) (by rfl) HL3.out HS.out ?_
  simp only [Act.put, List.setIfInBounds_toArray, List.set_cons_zero, List.set_cons_succ]
  refine anyH_pureG 14 (d := 202) (op := .fieldAddr 32 (.tmp 5) 5) (gd := some (2, true)) (.pointer (some ⟨X, 5, none⟩)) (by rfl) (fun o ho => by simp only [Region.wanted, ho]; rfl) (by kernel_rfl) (by kernel_rfl) (by kernel_rfl) (fun _ _ _ h => h) (fun o ho W hW => by unfold execOp; simp only [ho]; go_simp) HS.out ?_
  simp only [Act.put, List.setIfInBounds_toArray, List.set_cons_zero, List.set_cons_succ]
  refine anyH_loadG 15 (d := 203) (ty := 3) (x := (.tmp 202)) (gd := some (2, true)) (p := .pointer (some ⟨X, 5, none⟩)) (.int .i64 q) (by rfl) (fun o ho => by simp only [Region.wanted, ho]; rfl) (by kernel_rfl) (by kernel_rfl) (by kernel_rfl) (fun _ _ _ h => h) (by rfl) HL4.out HS.out ?_
  simp only [Act.put, List.setIfInBounds_toArray, List.set_cons_zero, List.set_cons_succ]
  refine anyH_callG 16 (d := some 204) (f := 50) (xs := #[(.tmp 199), (.tmp 201), (.tmp 203)]) (ts := #[30, 3, 3]) (gd := some (2, true)) (vs := #[.slice ra rn rc, .int .i64 n, .int .i64 q]) (by kernel_rfl) (by rfl) (fun o ho => by simp only [Region.wanted, ho]; rfl) (by go_simp) (by go_simp) (HRR.out) ?_
  rintro e5 w5 ⟨v5, rfl, hown5, hb5⟩
  obtain ⟨xa, xn, xc, hv5, hxr⟩ := own_sl hown5 HZZ.out
  subst hv5
  have HX5 := Lib.hid hxr
  have HB5 := Lib.hid hb5
  have HS5 := Lib.hid (HS.out.below hb5)
  clear hown5 hb5 hxr
  refine ⟨_, rfl, HS5.out, fun _ => ?_⟩
  simp only [Act.put, List.setIfInBounds_toArray, List.set_cons_zero, List.set_cons_succ]
  refine anyH_callG 17 (d := some 205) (f := 34) (xs := #[(.tmp 191), (.tmp 204)]) (ts := #[30, 30]) (gd := some (2, true)) (vs := #[.slice va vn vc, .slice xa xn xc]) (by kernel_rfl) (by rfl) (fun o ho => by simp only [Region.wanted, ho]; rfl) (by go_simp) (by go_simp) (HSM.out _ _ _ _ HX5.out HB5.out) ?_
  rintro e6 w6 ⟨rfl, q6, hw6⟩
  have HW6 := Lib.hid hw6
  have HS6 := Lib.hid (show S35 d m X n q (some ⟨fb, fo, none⟩) nn nc fb fo i ra rn rc w6 from by rw [hw6]; exact HS5.out.below (below_drewN' _ _ _))
  clear hw6
  refine ⟨_, rfl, HS6.out, fun _ => ?_⟩
  simp only [Act.put, List.setIfInBounds_toArray, List.set_cons_zero, List.set_cons_succ]
  refine anyH_pureG 18 (d := 206) (op := .pick (.tmp 190) (.tmp 205) (.const (.bool false))) (gd := none) (.bool true) (by rfl) (fun o ho => wanted_plain ho _) (by kernel_rfl) (by kernel_rfl) (by kernel_rfl) (fun _ _ _ h => h) (fun o ho W hW => by unfold execOp; simp only [ho]; go_simp) HS6.out ?_
  simp only [Act.put, List.setIfInBounds_toArray, List.set_cons_zero, List.set_cons_succ]
  refine anyH_pureG 19 (d := 13) (op := .assign (.tmp 206)) (gd := none) (.bool true) (by rfl) (fun o ho => wanted_plain ho _) (by kernel_rfl) (by kernel_rfl) (by kernel_rfl) (fun _ _ _ h => h) (fun o ho W hW => by unfold execOp; simp only [ho]; go_simp) HS6.out ?_
  simp only [Act.put, List.setIfInBounds_toArray, List.set_cons_zero, List.set_cons_succ]
  refine wpAnyH_done (by kernel_rfl) ?_ _
  have hb26 : Below w2.heap.size w2 w6 := by rw [HW6.out]; exact ((below_drewN' _ w2 1).trans (below_drewN' _ _ 1)).trans (HB5.out.trans (below_drewN' _ _ _))
  have hTB : TB w1.heap.size (.slice va vn vc) zz 0 w6 w6 := TB.start (row_keep HOW.out fun j hj => hb26.block j (World.ownsRow.lt HOW.out j hj).2) (Nat.le_refl _)
  obtain ⟨zs, hzs⟩ : ∃ zs, zs = zz := ⟨_, rfl⟩
  have HLEN := Lib.hid HVN.out
  rw [← hzs] at hTB HLEN
  have HTB := Lib.hid hTB
  have HB6 := Lib.hid (HB2.out.trans (hb26.mono HB2.out.size))
  clear HS HS5 HS6 HL1 HL2 HL3 HL4 HRR HSM HX5 HB5 HW6 hb26 hTB hzs HS0 HRD2 HVN HOW HRB HZE HZZ HNOW
  go_wp2_with fail
  go_loopw [209] (fun i wr => ∃ kk : Nat, kk ≤ vn ∧ i = .int .i64 kk ∧ Hid (TB w1.heap.size (.slice va vn vc) zs kk w6 wr)) (fun i _ => vn - (intOf i).toNat)
  case atStart => exact ⟨0, Nat.zero_le _, rfl, HTB⟩
  case round =>
    clear HTB
    obtain ⟨kk, hkk, rfl, HK⟩ := hrel
    by_cases hkn : kk < vn
    · obtain ⟨gb, hgb, hcg, hfz, hst⟩ := HK.out.at HLEN.out hkn
      subst hgb
      obtain ⟨x, hx⟩ : ∃ x, zs.getD kk 0 = x := ⟨_, rfl⟩
      rw [hx] at hcg
      have HST := Lib.hid hst
      have i0 : (0 : Int) ≤ (kk : Int) := by omega
      have i1 : (kk : Int) < (vn : Int) := by omega
      clear hst hx HK
      go_wp2_with fail
      go_roundw
      case rel => exact ⟨kk + 1, by omega, by go_num, Lib.hid (HST.out _)⟩
      case measure => simp [intOf]; omega
    · have HE := Lib.hid (HFIN.out _ (HB6.out.trans HK.out.bel))
      clear HK HFIN
      go_wp2_with fail
      go_ret
      exact HE.out
def Ad.does (A : Ad) (kd : Int) (s t : ByteArray) (ps : List Nat) (n q : Int) : Ad :=
  if kd = 0 then (A.step ⟨0, s, ⟨#[]⟩, []⟩).1 else if kd = 1 then (A.step ⟨1, s, ⟨#[]⟩, ps⟩).1 else if kd = 2 then (A.step ⟨2, s, ⟨#[]⟩, []⟩).1 else if kd = 3 then (A.step ⟨3, s, t, []⟩).1 else if kd = 4 then A.sync.1 else if kd = 5 then (A.fused n).1 else if kd = 6 then A.crash n q else A
theorem does_c {X0 : Nat → Prop} {B d m k : Nat} {A : Ad} {w : World} (h : Two X0 B d m k A w) (hB : B ≤ w.heap.size) (hk : k ≤ 1000) (kd : Int) (s t : ByteArray) (hs : s.size ≤ maxLen) (ht : t.size ≤ maxLen) (pa : Option Addr) (pn pc : Nat) (ps : List Nat) (hp : Rd w pa pn ps) (hpl : ∀ b o s, pa = some ⟨b, o, s⟩ → pn ≠ 0 → b < B) (hpn : pa = none → pc = 0) (hple : pn ≤ pc) (hpm : pn ≤ 140737488355327) (n q : Int) (hn : n ≤ 9223372036854775807) :
    Calls Try.prog 10 #[.pointer (some ⟨d, 0, none⟩), .pointer (some ⟨m, 0, none⟩), .agg #[.int .i64 kd, .string s, .string t, .slice pa pn pc, .int .i64 n, .int .i64 q]] w (DoR X0 B d m k w (A.does kd s t ps n q)) := by
  unfold Ad.does
  by_cases h0 : kd = 0
  · subst h0; exact does0_c h hB hk s t hs ht pa pn pc n q
  · rw [if_neg h0]
    by_cases h1 : kd = 1
    · subst h1; exact does1_c h hB hk s t hs ht pa pn pc ps hp hpl hpn hple hpm n q
    · rw [if_neg h1]
      by_cases h2 : kd = 2
      · subst h2; exact does2_c h hB hk s t hs ht pa pn pc n q
      · rw [if_neg h2]
        by_cases h3 : kd = 3
        · subst h3; exact does3_c h hB hk s t hs ht pa pn pc n q
        · rw [if_neg h3]
          by_cases h4 : kd = 4
          · subst h4; exact does4_c h hB hk s t pa pn pc n q
          · rw [if_neg h4]
            by_cases h5 : kd = 5
            · subst h5; exact does5_c h hB hk s t pa pn pc n q hn
            · rw [if_neg h5]
              by_cases h6 : kd = 6
              · subst h6; exact does6_c h hB hk s t pa pn pc n q
              · rw [if_neg h6]
                rcases down_cases A with hd | hd
                · exact does7a_c h hB hk kd h0 h1 h2 h3 h4 h5 h6 s t hs pa pn pc n q hd
                · cases hl : lookF A.now s with
                  | none => exact does7b_c h hB hk kd h0 h1 h2 h3 h4 h5 h6 s t hs pa pn pc n q hd hl
                  | some z =>
                    by_cases hnq : n < 0 ∨ q < 0
                    · exact does7c_c h hB hk kd h0 h1 h2 h3 h4 h5 h6 s t hs pa pn pc n q hd hl hnq
                    · exact does7d_c h hB hk kd h0 h1 h2 h3 h4 h5 h6 s t hs pa pn pc n q hd hl (by omega) (by omega)
end Go.Proofs.Ytcjlbonflecbkaa
