/-
  The document's disk: May of an Append, a Remove, a Rename.
-/
import Derived.Test.YtcjlbonflecbkaaRfh
namespace Go.Proofs.Ytcjlbonflecbkaa
open Go.RowKit
set_option linter.unusedVariables false
set_option maxRecDepth 100000 in
set_option maxHeartbeats 8000000 in
theorem rmay2_c {F : Nat → Prop} {B m : Nat} {lv : Value} {A : Ad} {w : World} (h : RDK F B m lv A w) (s t : ByteArray) (p : List Nat) (pa : Option Addr) (pn pc : Nat) (hm : A.now.length ≤ 100000000) : Calls Try.prog 85 #[.pointer (some ⟨m, 0, none⟩), .agg #[.int .i64 2, .string s, .string t, .slice pa pn pc]] w fun e w' => e = .returned (.int .i64 (A.may ⟨2, s, t, p⟩)) ∧ Below w.heap.size w w' := by
  obtain ⟨X, hX⟩ : ∃ X, X = w.heap.size := ⟨_, rfl⟩
  obtain ⟨w1, hw⟩ : ∃ w1, w1 = w.alloc (.cells #[.int .i64 2, .string s, .string t, .slice pa pn pc] 94) := ⟨_, rfl⟩
  have hb1 : Below w.heap.size w w1 := by rw [hw]; exact (Below.refl _ _).alloc (Nat.le_refl _) _
  have hh : w1.heap[X]? = some (.cells #[.int .i64 2, .string s, .string t, .slice pa pn pc] 94 (0, 0)) := by rw [hw, hX]; exact heap_alloc_new w _
  have hk1 := h.below hb1
  obtain ⟨na, nn, nc, sa, sn, sc, ⟨c0, c1, c2, c3, c4, c5⟩, hfz, hnow, hsure⟩ := hk1.cells
  obtain ⟨x0, x1, x2, x3⟩ := xcells hh
  have hlen := hnow.ln
  have HFI := Lib.hid (rfind_c (cap := nc) (hnow.below (Below.refl _ _).drew) s (by omega))
  have HB1 := Lib.hid hb1.drew
  have HNW := Lib.hid (hnow.below (Below.refl _ _).drew)
  obtain ⟨v, hv⟩ : ∃ v, v = A.may ⟨2, s, t, p⟩ := ⟨_, rfl⟩
  rw [← hv]
  clear h hb1 hh hk1 hnow hsure hfz c2 c3 c4 c5 hlen
  go_enter Try.func85, Try.ntmps85
  go_wp2_with fail
  rw [← hX, ← hw]
  clear hX hw
  (try dsimp only [Act.put, List.setIfInBounds_toArray, List.set_cons_zero, List.set_cons_succ])
  have HS := Lib.hid (show World.cell? (World.drew w1) ⟨m, 1, none⟩ = some (.slice na nn nc) ∧ World.cell? (World.drew w1) ⟨X, 1, none⟩ = some (.string s) from ⟨c1, x1⟩)
  have HL1 := Lib.hid (fun W (hW : World.cell? W ⟨m, 1, none⟩ = some (.slice na nn nc) ∧ World.cell? W ⟨X, 1, none⟩ = some (.string s)) => run_cell_fl W ⟨m, 1, none⟩ _ _ _ hW.1)
  have HL2 := Lib.hid (fun W (hW : World.cell? W ⟨m, 1, none⟩ = some (.slice na nn nc) ∧ World.cell? W ⟨X, 1, none⟩ = some (.string s)) => run_cell_s W ⟨X, 1, none⟩ _ hW.2)
  refine anyH_begin (S := fun W => World.cell? W ⟨m, 1, none⟩ = some (.slice na nn nc) ∧ World.cell? W ⟨X, 1, none⟩ = some (.string s)) (by kernel_rfl) ?_
  refine anyH_pureG 0 (d := 6) (op := .move (.tmp 0)) (gd := none) (.pointer (some ⟨m, 0, none⟩)) (by rfl) (fun o ho => wanted_plain ho _) (by kernel_rfl) (by kernel_rfl) (by kernel_rfl) (fun _ _ _ h => h) (fun o ho W hW => by unfold execOp; simp only [ho]; go_simp) HS.out ?_
  simp only [Act.put, List.setIfInBounds_toArray, List.set_cons_zero, List.set_cons_succ]
  refine anyH_pureG 1 (d := 7) (op := .nilCheck (.tmp 6)) (gd := none) (.pointer (some ⟨m, 0, none⟩)) (by rfl) (fun o ho => wanted_plain ho _) (by kernel_rfl) (by kernel_rfl) (by kernel_rfl) (fun _ _ _ h => h) (fun o ho W hW => by unfold execOp; simp only [ho]; go_simp) HS.out ?_
  simp only [Act.put, List.setIfInBounds_toArray, List.set_cons_zero, List.set_cons_succ]
  refine anyH_pureG 2 (d := 8) (op := .fieldAddr 91 (.tmp 7) 1) (gd := none) (.pointer (some ⟨m, 1, none⟩)) (by rfl) (fun o ho => wanted_plain ho _) (by kernel_rfl) (by kernel_rfl) (by kernel_rfl) (fun _ _ _ h => h) (fun o ho W hW => by unfold execOp; simp only [ho]; go_simp) HS.out ?_
  simp only [Act.put, List.setIfInBounds_toArray, List.set_cons_zero, List.set_cons_succ]
  refine anyH_loadG 3 (d := 9) (ty := 88) (x := (.tmp 8)) (gd := none) (p := .pointer (some ⟨m, 1, none⟩)) (.slice na nn nc) (by rfl) (fun o ho => wanted_plain ho _) (by kernel_rfl) (by kernel_rfl) (by kernel_rfl) (fun _ _ _ h => h) (by rfl) HL1.out HS.out ?_
  simp only [Act.put, List.setIfInBounds_toArray, List.set_cons_zero, List.set_cons_succ]
  refine anyH_pureG 4 (d := 10) (op := .fieldAddr 94 (.tmp 3) 1) (gd := none) (.pointer (some ⟨X, 1, none⟩)) (by rfl) (fun o ho => wanted_plain ho _) (by kernel_rfl) (by kernel_rfl) (by kernel_rfl) (fun _ _ _ h => h) (fun o ho W hW => by unfold execOp; simp only [ho]; go_simp) HS.out ?_
  simp only [Act.put, List.setIfInBounds_toArray, List.set_cons_zero, List.set_cons_succ]
  refine anyH_loadG 5 (d := 11) (ty := 9) (x := (.tmp 10)) (gd := none) (p := .pointer (some ⟨X, 1, none⟩)) (.string s) (by rfl) (fun o ho => wanted_plain ho _) (by kernel_rfl) (by kernel_rfl) (by kernel_rfl) (fun _ _ _ h => h) (by rfl) HL2.out HS.out ?_
  simp only [Act.put, List.setIfInBounds_toArray, List.set_cons_zero, List.set_cons_succ]
  refine anyH_callG 6 (d := some 12) (f := 49) (xs := #[(.tmp 9), (.tmp 11)]) (ts := #[88, 9]) (gd := none) (vs := #[.slice na nn nc, .string s]) (by kernel_rfl) (by rfl) (fun o ho => wanted_plain ho _) (by go_simp) (by go_simp) (HFI.out) ?_
  rintro e9 w9 ⟨rfl, rfl⟩
  refine ⟨_, rfl, HS.out, fun _ => ?_⟩
  simp only [Act.put, List.setIfInBounds_toArray, List.set_cons_zero, List.set_cons_succ]
  refine anyH_pureG 7 (d := 5) (op := .assign (.tmp 12)) (gd := none) (.int .i64 (ixI (idxF A.now s))) (by rfl) (fun o ho => wanted_plain ho _) (by kernel_rfl) (by kernel_rfl) (by kernel_rfl) (fun _ _ _ h => h) (fun o ho W hW => by unfold execOp; simp only [ho]; go_simp) HS.out ?_
  simp only [Act.put, List.setIfInBounds_toArray, List.set_cons_zero, List.set_cons_succ]
  refine wpAnyH_done (by kernel_rfl) ?_ _
  clear HS HL1 HL2
  clear HFI
  obtain ⟨wq, hwq⟩ : ∃ wq, wq = World.drew w1 := ⟨_, rfl⟩
  rw [← hwq] at HB1 HNW ⊢
  obtain ⟨x0, x1, x2, x3⟩ : wq.cell? ⟨X, 0, none⟩ = some (.int .i64 2) ∧ wq.cell? ⟨X, 1, none⟩ = some (.string s) ∧ wq.cell? ⟨X, 2, none⟩ = some (.string t) ∧ wq.cell? ⟨X, 3, none⟩ = some (.slice pa pn pc) := by rw [hwq]; exact ⟨x0, x1, x2, x3⟩
  have c0 : wq.cell? ⟨m, 0, none⟩ = some (.int .i64 A.room) := by rw [hwq]; exact c0
  have c1 : wq.cell? ⟨m, 1, none⟩ = some (.slice na nn nc) := by rw [hwq]; exact c1
  clear hwq
  cases hl : lookF A.now s with
  | none =>
    rw [ixI_neg hl]
    obtain rfl : v = 6 := by rw [hv]; unfold Ad.may; rw [if_neg (show ¬ (2 : Nat) = 0 by decide)]; simp only [hl]; rfl
    clear hl hv
    go_wp2_with fail
    go_ret
    exact ⟨rfl, HB1.out⟩
  | some z =>
    obtain ⟨k, hk, hix⟩ := ixI_pos (l := A.now) (s := s) (by rw [hl]; rfl)
    rw [hix]
    have i0 : ¬ (k : Int) < 0 := by omega
    obtain rfl : v = 0 := by rw [hv]; unfold Ad.may; rw [if_neg (show ¬ (2 : Nat) = 0 by decide), if_neg (by rw [hl]; simp), if_neg (show ¬ (2 : Nat) = 1 by decide), if_neg (fun k => absurd k.1 (show ¬ (2 : Nat) = 3 by decide))]
    clear hl hv hix hk
    go_wp2_with fail
    go_ret
    exact ⟨rfl, HB1.out⟩
set_option maxRecDepth 100000 in
set_option maxHeartbeats 8000000 in
theorem rmay3_c {F : Nat → Prop} {B m : Nat} {lv : Value} {A : Ad} {w : World} (h : RDK F B m lv A w) (s t : ByteArray) (p : List Nat) (pa : Option Addr) (pn pc : Nat) (hm : A.now.length ≤ 100000000) (ht : t.size ≤ maxLen) : Calls Try.prog 85 #[.pointer (some ⟨m, 0, none⟩), .agg #[.int .i64 3, .string s, .string t, .slice pa pn pc]] w fun e w' => e = .returned (.int .i64 (A.may ⟨3, s, t, p⟩)) ∧ Below w.heap.size w w' := by
  obtain ⟨X, hX⟩ : ∃ X, X = w.heap.size := ⟨_, rfl⟩
  obtain ⟨w1, hw⟩ : ∃ w1, w1 = w.alloc (.cells #[.int .i64 3, .string s, .string t, .slice pa pn pc] 94) := ⟨_, rfl⟩
  have hb1 : Below w.heap.size w w1 := by rw [hw]; exact (Below.refl _ _).alloc (Nat.le_refl _) _
  have hh : w1.heap[X]? = some (.cells #[.int .i64 3, .string s, .string t, .slice pa pn pc] 94 (0, 0)) := by rw [hw, hX]; exact heap_alloc_new w _
  have hk1 := h.below hb1
  obtain ⟨na, nn, nc, sa, sn, sc, ⟨c0, c1, c2, c3, c4, c5⟩, hfz, hnow, hsure⟩ := hk1.cells
  obtain ⟨x0, x1, x2, x3⟩ := xcells hh
  have hlen := hnow.ln
  have HFI := Lib.hid (rfind_c (cap := nc) (hnow.below (Below.refl _ _).drew) s (by omega))
  have HB1 := Lib.hid hb1.drew
  have HNW := Lib.hid (hnow.below (Below.refl _ _).drew)
  obtain ⟨v, hv⟩ : ∃ v, v = A.may ⟨3, s, t, p⟩ := ⟨_, rfl⟩
  rw [← hv]
  have HNM := Lib.hid (fun W => risname_c t W ht)
  clear h hb1 hh hk1 hnow hsure hfz c2 c3 c4 c5 hlen
  go_enter Try.func85, Try.ntmps85
  go_wp2_with fail
  rw [← hX, ← hw]
  clear hX hw
  (try dsimp only [Act.put, List.setIfInBounds_toArray, List.set_cons_zero, List.set_cons_succ])
  have HS := Lib.hid (show World.cell? (World.drew w1) ⟨m, 1, none⟩ = some (.slice na nn nc) ∧ World.cell? (World.drew w1) ⟨X, 1, none⟩ = some (.string s) from ⟨c1, x1⟩)
  have HL1 := Lib.hid (fun W (hW : World.cell? W ⟨m, 1, none⟩ = some (.slice na nn nc) ∧ World.cell? W ⟨X, 1, none⟩ = some (.string s)) => run_cell_fl W ⟨m, 1, none⟩ _ _ _ hW.1)
  have HL2 := Lib.hid (fun W (hW : World.cell? W ⟨m, 1, none⟩ = some (.slice na nn nc) ∧ World.cell? W ⟨X, 1, none⟩ = some (.string s)) => run_cell_s W ⟨X, 1, none⟩ _ hW.2)
  refine anyH_begin (S := fun W => World.cell? W ⟨m, 1, none⟩ = some (.slice na nn nc) ∧ World.cell? W ⟨X, 1, none⟩ = some (.string s)) (by kernel_rfl) ?_
  refine anyH_pureG 0 (d := 6) (op := .move (.tmp 0)) (gd := none) (.pointer (some ⟨m, 0, none⟩)) (by rfl) (fun o ho => wanted_plain ho _) (by kernel_rfl) (by kernel_rfl) (by kernel_rfl) (fun _ _ _ h => h) (fun o ho W hW => by unfold execOp; simp only [ho]; go_simp) HS.out ?_
  simp only [Act.put, List.setIfInBounds_toArray, List.set_cons_zero, List.set_cons_succ]
  refine anyH_pureG 1 (d := 7) (op := .nilCheck (.tmp 6)) (gd := none) (.pointer (some ⟨m, 0, none⟩)) (by rfl) (fun o ho => wanted_plain ho _) (by kernel_rfl) (by kernel_rfl) (by kernel_rfl) (fun _ _ _ h => h) (fun o ho W hW => by unfold execOp; simp only [ho]; go_simp) HS.out ?_
  simp only [Act.put, List.setIfInBounds_toArray, List.set_cons_zero, List.set_cons_succ]
  refine anyH_pureG 2 (d := 8) (op := .fieldAddr 91 (.tmp 7) 1) (gd := none) (.pointer (some ⟨m, 1, none⟩)) (by rfl) (fun o ho => wanted_plain ho _) (by kernel_rfl) (by kernel_rfl) (by kernel_rfl) (fun _ _ _ h => h) (fun o ho W hW => by unfold execOp; simp only [ho]; go_simp) HS.out ?_
  simp only [Act.put, List.setIfInBounds_toArray, List.set_cons_zero, List.set_cons_succ]
  refine anyH_loadG 3 (d := 9) (ty := 88) (x := (.tmp 8)) (gd := none) (p := .pointer (some ⟨m, 1, none⟩)) (.slice na nn nc) (by rfl) (fun o ho => wanted_plain ho _) (by kernel_rfl) (by kernel_rfl) (by kernel_rfl) (fun _ _ _ h => h) (by rfl) HL1.out HS.out ?_
  simp only [Act.put, List.setIfInBounds_toArray, List.set_cons_zero, List.set_cons_succ]
  refine anyH_pureG 4 (d := 10) (op := .fieldAddr 94 (.tmp 3) 1) (gd := none) (.pointer (some ⟨X, 1, none⟩)) (by rfl) (fun o ho => wanted_plain ho _) (by kernel_rfl) (by kernel_rfl) (by kernel_rfl) (fun _ _ _ h => h) (fun o ho W hW => by unfold execOp; simp only [ho]; go_simp) HS.out ?_
  simp only [Act.put, List.setIfInBounds_toArray, List.set_cons_zero, List.set_cons_succ]
  refine anyH_loadG 5 (d := 11) (ty := 9) (x := (.tmp 10)) (gd := none) (p := .pointer (some ⟨X, 1, none⟩)) (.string s) (by rfl) (fun o ho => wanted_plain ho _) (by kernel_rfl) (by kernel_rfl) (by kernel_rfl) (fun _ _ _ h => h) (by rfl) HL2.out HS.out ?_
  simp only [Act.put, List.setIfInBounds_toArray, List.set_cons_zero, List.set_cons_succ]
  refine anyH_callG 6 (d := some 12) (f := 49) (xs := #[(.tmp 9), (.tmp 11)]) (ts := #[88, 9]) (gd := none) (vs := #[.slice na nn nc, .string s]) (by kernel_rfl) (by rfl) (fun o ho => wanted_plain ho _) (by go_simp) (by go_simp) (HFI.out) ?_
  rintro e9 w9 ⟨rfl, rfl⟩
  refine ⟨_, rfl, HS.out, fun _ => ?_⟩
  simp only [Act.put, List.setIfInBounds_toArray, List.set_cons_zero, List.set_cons_succ]
  refine anyH_pureG 7 (d := 5) (op := .assign (.tmp 12)) (gd := none) (.int .i64 (ixI (idxF A.now s))) (by rfl) (fun o ho => wanted_plain ho _) (by kernel_rfl) (by kernel_rfl) (by kernel_rfl) (fun _ _ _ h => h) (fun o ho W hW => by unfold execOp; simp only [ho]; go_simp) HS.out ?_
  simp only [Act.put, List.setIfInBounds_toArray, List.set_cons_zero, List.set_cons_succ]
  refine wpAnyH_done (by kernel_rfl) ?_ _
  clear HS HL1 HL2
  clear HFI
  obtain ⟨wq, hwq⟩ : ∃ wq, wq = World.drew w1 := ⟨_, rfl⟩
  rw [← hwq] at HB1 HNW ⊢
  obtain ⟨x0, x1, x2, x3⟩ : wq.cell? ⟨X, 0, none⟩ = some (.int .i64 3) ∧ wq.cell? ⟨X, 1, none⟩ = some (.string s) ∧ wq.cell? ⟨X, 2, none⟩ = some (.string t) ∧ wq.cell? ⟨X, 3, none⟩ = some (.slice pa pn pc) := by rw [hwq]; exact ⟨x0, x1, x2, x3⟩
  have c0 : wq.cell? ⟨m, 0, none⟩ = some (.int .i64 A.room) := by rw [hwq]; exact c0
  have c1 : wq.cell? ⟨m, 1, none⟩ = some (.slice na nn nc) := by rw [hwq]; exact c1
  clear hwq
  cases hl : lookF A.now s with
  | none =>
    rw [ixI_neg hl]
    obtain rfl : v = 6 := by rw [hv]; unfold Ad.may; rw [if_neg (show ¬ (3 : Nat) = 0 by decide)]; simp only [hl]; rfl
    clear hl hv
    go_wp2_with fail
    go_ret
    exact ⟨rfl, HB1.out⟩
  | some z =>
    obtain ⟨k, hk, hix⟩ := ixI_pos (l := A.now) (s := s) (by rw [hl]; rfl)
    rw [hix]
    have i0 : ¬ (k : Int) < 0 := by omega
    have hm0 : A.may ⟨3, s, t, p⟩ = (if (3 : Nat) = 3 ∧ isNm t = false then 1 else 0) := by
      unfold Ad.may
      rw [if_neg (show ¬ (3 : Nat) = 0 by decide), if_neg (by rw [hl]; simp), if_neg (show ¬ (3 : Nat) = 1 by decide)]
    rcases (isNm_cases t).symm with hn | hn
    · rw [hn] at HNM
      obtain rfl : v = 1 := by rw [hv, hm0, if_pos ⟨rfl, hn⟩]
      clear hl hv hix hk hm0 hn
      go_wp2_with fail
      refine (HNM.out _).mono ?_
      rintro e2 w2 ⟨rfl, rfl⟩
      go_wp2_with fail
      go_ret
      exact ⟨rfl, HB1.out⟩
    · rw [hn] at HNM
      obtain rfl : v = 0 := by rw [hv, hm0, if_neg (fun k => by rw [hn] at k; exact absurd k.2 (by decide))]
      clear hl hv hix hk hm0 hn
      go_wp2_with fail
      refine (HNM.out _).mono ?_
      rintro e2 w2 ⟨rfl, rfl⟩
      go_wp2_with fail
      go_ret
      exact ⟨rfl, HB1.out⟩
set_option maxRecDepth 100000 in
set_option maxHeartbeats 8000000 in
theorem rmay1_c {F : Nat → Prop} {B m : Nat} {lv : Value} {A : Ad} {w : World} (h : RDK F B m lv A w) (s t : ByteArray) (p : List Nat) (pa : Option Addr) (pn pc : Nat) (hm : A.now.length ≤ 100000000) (hpl : p.length = pn) (hu : usedF A.now ≤ 1000000000) (hr0 : 0 ≤ A.room) (hr1 : A.room ≤ 1000000000) : Calls Try.prog 85 #[.pointer (some ⟨m, 0, none⟩), .agg #[.int .i64 1, .string s, .string t, .slice pa pn pc]] w fun e w' => e = .returned (.int .i64 (A.may ⟨1, s, t, p⟩)) ∧ Below w.heap.size w w' := by
  obtain ⟨X, hX⟩ : ∃ X, X = w.heap.size := ⟨_, rfl⟩
  obtain ⟨w1, hw⟩ : ∃ w1, w1 = w.alloc (.cells #[.int .i64 1, .string s, .string t, .slice pa pn pc] 94) := ⟨_, rfl⟩
  have hb1 : Below w.heap.size w w1 := by rw [hw]; exact (Below.refl _ _).alloc (Nat.le_refl _) _
  have hh : w1.heap[X]? = some (.cells #[.int .i64 1, .string s, .string t, .slice pa pn pc] 94 (0, 0)) := by rw [hw, hX]; exact heap_alloc_new w _
  have hk1 := h.below hb1
  obtain ⟨na, nn, nc, sa, sn, sc, ⟨c0, c1, c2, c3, c4, c5⟩, hfz, hnow, hsure⟩ := hk1.cells
  obtain ⟨x0, x1, x2, x3⟩ := xcells hh
  have hlen := hnow.ln
  have HFI := Lib.hid (rfind_c (cap := nc) (hnow.below (Below.refl _ _).drew) s (by omega))
  have HB1 := Lib.hid hb1.drew
  have HNW := Lib.hid (hnow.below (Below.refl _ _).drew)
  obtain ⟨v, hv⟩ : ∃ v, v = A.may ⟨1, s, t, p⟩ := ⟨_, rfl⟩
  rw [← hv]
  have hmm : nn ≤ 1000000000 := by omega
  clear h hb1 hh hk1 hnow hsure hfz c2 c3 c4 c5 hlen
  go_enter Try.func85, Try.ntmps85
  go_wp2_with fail
  rw [← hX, ← hw]
  clear hX hw
  (try dsimp only [Act.put, List.setIfInBounds_toArray, List.set_cons_zero, List.set_cons_succ])
  have HS := Lib.hid (show World.cell? (World.drew w1) ⟨m, 1, none⟩ = some (.slice na nn nc) ∧ World.cell? (World.drew w1) ⟨X, 1, none⟩ = some (.string s) from ⟨c1, x1⟩)
  have HL1 := Lib.hid (fun W (hW : World.cell? W ⟨m, 1, none⟩ = some (.slice na nn nc) ∧ World.cell? W ⟨X, 1, none⟩ = some (.string s)) => run_cell_fl W ⟨m, 1, none⟩ _ _ _ hW.1)
  have HL2 := Lib.hid (fun W (hW : World.cell? W ⟨m, 1, none⟩ = some (.slice na nn nc) ∧ World.cell? W ⟨X, 1, none⟩ = some (.string s)) => run_cell_s W ⟨X, 1, none⟩ _ hW.2)
  refine anyH_begin (S := fun W => World.cell? W ⟨m, 1, none⟩ = some (.slice na nn nc) ∧ World.cell? W ⟨X, 1, none⟩ = some (.string s)) (by kernel_rfl) ?_
  refine anyH_pureG 0 (d := 6) (op := .move (.tmp 0)) (gd := none) (.pointer (some ⟨m, 0, none⟩)) (by rfl) (fun o ho => wanted_plain ho _) (by kernel_rfl) (by kernel_rfl) (by kernel_rfl) (fun _ _ _ h => h) (fun o ho W hW => by unfold execOp; simp only [ho]; go_simp) HS.out ?_
  simp only [Act.put, List.setIfInBounds_toArray, List.set_cons_zero, List.set_cons_succ]
  refine anyH_pureG 1 (d := 7) (op := .nilCheck (.tmp 6)) (gd := none) (.pointer (some ⟨m, 0, none⟩)) (by rfl) (fun o ho => wanted_plain ho _) (by kernel_rfl) (by kernel_rfl) (by kernel_rfl) (fun _ _ _ h => h) (fun o ho W hW => by unfold execOp; simp only [ho]; go_simp) HS.out ?_
  simp only [Act.put, List.setIfInBounds_toArray, List.set_cons_zero, List.set_cons_succ]
  refine anyH_pureG 2 (d := 8) (op := .fieldAddr 91 (.tmp 7) 1) (gd := none) (.pointer (some ⟨m, 1, none⟩)) (by rfl) (fun o ho => wanted_plain ho _) (by kernel_rfl) (by kernel_rfl) (by kernel_rfl) (fun _ _ _ h => h) (fun o ho W hW => by unfold execOp; simp only [ho]; go_simp) HS.out ?_
  simp only [Act.put, List.setIfInBounds_toArray, List.set_cons_zero, List.set_cons_succ]
  refine anyH_loadG 3 (d := 9) (ty := 88) (x := (.tmp 8)) (gd := none) (p := .pointer (some ⟨m, 1, none⟩)) (.slice na nn nc) (by rfl) (fun o ho => wanted_plain ho _) (by kernel_rfl) (by kernel_rfl) (by kernel_rfl) (fun _ _ _ h => h) (by rfl) HL1.out HS.out ?_
  simp only [Act.put, List.setIfInBounds_toArray, List.set_cons_zero, List.set_cons_succ]
  refine anyH_pureG 4 (d := 10) (op := .fieldAddr 94 (.tmp 3) 1) (gd := none) (.pointer (some ⟨X, 1, none⟩)) (by rfl) (fun o ho => wanted_plain ho _) (by kernel_rfl) (by kernel_rfl) (by kernel_rfl) (fun _ _ _ h => h) (fun o ho W hW => by unfold execOp; simp only [ho]; go_simp) HS.out ?_
  simp only [Act.put, List.setIfInBounds_toArray, List.set_cons_zero, List.set_cons_succ]
  refine anyH_loadG 5 (d := 11) (ty := 9) (x := (.tmp 10)) (gd := none) (p := .pointer (some ⟨X, 1, none⟩)) (.string s) (by rfl) (fun o ho => wanted_plain ho _) (by kernel_rfl) (by kernel_rfl) (by kernel_rfl) (fun _ _ _ h => h) (by rfl) HL2.out HS.out ?_
  simp only [Act.put, List.setIfInBounds_toArray, List.set_cons_zero, List.set_cons_succ]
  refine anyH_callG 6 (d := some 12) (f := 49) (xs := #[(.tmp 9), (.tmp 11)]) (ts := #[88, 9]) (gd := none) (vs := #[.slice na nn nc, .string s]) (by kernel_rfl) (by rfl) (fun o ho => wanted_plain ho _) (by go_simp) (by go_simp) (HFI.out) ?_
  rintro e9 w9 ⟨rfl, rfl⟩
  refine ⟨_, rfl, HS.out, fun _ => ?_⟩
  simp only [Act.put, List.setIfInBounds_toArray, List.set_cons_zero, List.set_cons_succ]
  refine anyH_pureG 7 (d := 5) (op := .assign (.tmp 12)) (gd := none) (.int .i64 (ixI (idxF A.now s))) (by rfl) (fun o ho => wanted_plain ho _) (by kernel_rfl) (by kernel_rfl) (by kernel_rfl) (fun _ _ _ h => h) (fun o ho W hW => by unfold execOp; simp only [ho]; go_simp) HS.out ?_
  simp only [Act.put, List.setIfInBounds_toArray, List.set_cons_zero, List.set_cons_succ]
  refine wpAnyH_done (by kernel_rfl) ?_ _
  clear HS HL1 HL2
  clear HFI
  obtain ⟨wq, hwq⟩ : ∃ wq, wq = World.drew w1 := ⟨_, rfl⟩
  rw [← hwq] at HB1 HNW ⊢
  obtain ⟨x0, x1, x2, x3⟩ : wq.cell? ⟨X, 0, none⟩ = some (.int .i64 1) ∧ wq.cell? ⟨X, 1, none⟩ = some (.string s) ∧ wq.cell? ⟨X, 2, none⟩ = some (.string t) ∧ wq.cell? ⟨X, 3, none⟩ = some (.slice pa pn pc) := by rw [hwq]; exact ⟨x0, x1, x2, x3⟩
  have c0 : wq.cell? ⟨m, 0, none⟩ = some (.int .i64 A.room) := by rw [hwq]; exact c0
  have c1 : wq.cell? ⟨m, 1, none⟩ = some (.slice na nn nc) := by rw [hwq]; exact c1
  clear hwq
  cases hl : lookF A.now s with
  | none =>
    rw [ixI_neg hl]
    obtain rfl : v = 6 := by rw [hv]; unfold Ad.may; rw [if_neg (show ¬ (1 : Nat) = 0 by decide)]; simp only [hl]; rfl
    clear hl hv
    go_wp2_with fail
    go_ret
    exact ⟨rfl, HB1.out⟩
  | some z =>
    obtain ⟨k, hk, hix⟩ := ixI_pos (l := A.now) (s := s) (by rw [hl]; rfl)
    rw [hix]
    have i0 : ¬ (k : Int) < 0 := by omega
    have hm0 : A.may ⟨1, s, t, p⟩ = (if 1048576 < p.length then 8 else if A.room - (usedF A.now : Int) < (p.length : Int) then 4 else 0) := by
      unfold Ad.may
      rw [if_neg (show ¬ (1 : Nat) = 0 by decide), if_neg (by rw [hl]; simp), if_pos rfl]
    by_cases hlo : 1048576 < pn
    · have i1 : (1048576 : Int) < (pn : Int) := by omega
      obtain rfl : v = 8 := by rw [hv, hm0, if_pos (by omega)]
      clear hl hv hix hk hm0 hlo
      go_wp2_with fail
      go_ret
      exact ⟨rfl, HB1.out⟩
    · have i1 : ¬ (1048576 : Int) < (pn : Int) := by omega
      have HUS := Lib.hid (rused_c (cap := nc) (HNW.out.below (Below.refl _ _).drew) hmm (by omega))
      have hsub : IntKind.i64.wrap (A.room - (usedF A.now : Int)) = A.room - (usedF A.now : Int) := by rw [IntKind.wrap_i64]; omega
      have HB2 := Lib.hid HB1.out.drew
      by_cases hfull : A.room - (usedF A.now : Int) < (pn : Int)
      · obtain rfl : v = 4 := by rw [hv, hm0, if_neg (by omega), if_pos (by omega)]
        have hfit : decide (A.room - (usedF A.now : Int) < (pn : Int)) = true := decide_eq_true hfull
        clear hl hv hix hk hm0 hlo hfull
        go_wp2_with fail
        (try dsimp only [Act.put, List.setIfInBounds_toArray, List.set_cons_zero, List.set_cons_succ])
        have HS := Lib.hid (show World.cell? (World.drew wq) ⟨m, 0, none⟩ = some (.int .i64 A.room) ∧ World.cell? (World.drew wq) ⟨m, 1, none⟩ = some (.slice na nn nc) ∧ World.cell? (World.drew wq) ⟨X, 3, none⟩ = some (.slice pa pn pc) from ⟨c0, c1, x3⟩)
        have HL1 := Lib.hid (fun W (hW : World.cell? W ⟨m, 0, none⟩ = some (.int .i64 A.room) ∧ World.cell? W ⟨m, 1, none⟩ = some (.slice na nn nc) ∧ World.cell? W ⟨X, 3, none⟩ = some (.slice pa pn pc)) => run_cell_fl W ⟨m, 1, none⟩ _ _ _ hW.2.1)
        have HL0 := Lib.hid (fun W (hW : World.cell? W ⟨m, 0, none⟩ = some (.int .i64 A.room) ∧ World.cell? W ⟨m, 1, none⟩ = some (.slice na nn nc) ∧ World.cell? W ⟨X, 3, none⟩ = some (.slice pa pn pc)) => run_cell_i W ⟨m, 0, none⟩ _ hW.1)
        have HL2 := Lib.hid (fun W (hW : World.cell? W ⟨m, 0, none⟩ = some (.int .i64 A.room) ∧ World.cell? W ⟨m, 1, none⟩ = some (.slice na nn nc) ∧ World.cell? W ⟨X, 3, none⟩ = some (.slice pa pn pc)) => run_cell_b W ⟨X, 3, none⟩ _ _ _ hW.2.2)
        refine anyH_begin (S := fun W => World.cell? W ⟨m, 0, none⟩ = some (.int .i64 A.room) ∧ World.cell? W ⟨m, 1, none⟩ = some (.slice na nn nc) ∧ World.cell? W ⟨X, 3, none⟩ = some (.slice pa pn pc)) (by kernel_rfl) ?_
        refine anyH_pureG 0 (d := 37) (op := .fieldAddr 94 (.tmp 3) 3) (gd := none) (.pointer (some ⟨X, 3, none⟩)) (by rfl) (fun o ho => wanted_plain ho _) (by kernel_rfl) (by kernel_rfl) (by kernel_rfl) (fun _ _ _ h => h) (fun o ho W hW => by unfold execOp; simp only [ho]; go_simp) HS.out ?_
        simp only [Act.put, List.setIfInBounds_toArray, List.set_cons_zero, List.set_cons_succ]
        refine anyH_loadG 1 (d := 38) (ty := 30) (x := (.tmp 37)) (gd := none) (p := .pointer (some ⟨X, 3, none⟩)) (.slice pa pn pc) (by rfl) (fun o ho => wanted_plain ho _) (by kernel_rfl) (by kernel_rfl) (by kernel_rfl) (fun _ _ _ h => h) (by rfl) HL2.out HS.out ?_
        simp only [Act.put, List.setIfInBounds_toArray, List.set_cons_zero, List.set_cons_succ]
        refine anyH_pureG 2 (d := 39) (op := .call { callee := .builtin .len, args := #[(.tmp 38)], argTypes := #[30] }) (gd := none) (.int .i64 (pn : Int)) (by rfl) (fun o ho => wanted_plain ho _) (by kernel_rfl) (by kernel_rfl) (by kernel_rfl) (fun _ _ _ h => h) (fun o ho W hW => by unfold execOp; simp only [ho]; go_simp) HS.out ?_
        simp only [Act.put, List.setIfInBounds_toArray, List.set_cons_zero, List.set_cons_succ]
        refine anyH_pureG 3 (d := 40) (op := .move (.tmp 0)) (gd := none) (.pointer (some ⟨m, 0, none⟩)) (by rfl) (fun o ho => wanted_plain ho _) (by kernel_rfl) (by kernel_rfl) (by kernel_rfl) (fun _ _ _ h => h) (fun o ho W hW => by unfold execOp; simp only [ho]; go_simp) HS.out ?_
        simp only [Act.put, List.setIfInBounds_toArray, List.set_cons_zero, List.set_cons_succ]
        refine anyH_pureG 4 (d := 41) (op := .nilCheck (.tmp 40)) (gd := none) (.pointer (some ⟨m, 0, none⟩)) (by rfl) (fun o ho => wanted_plain ho _) (by kernel_rfl) (by kernel_rfl) (by kernel_rfl) (fun _ _ _ h => h) (fun o ho W hW => by unfold execOp; simp only [ho]; go_simp) HS.out ?_
        simp only [Act.put, List.setIfInBounds_toArray, List.set_cons_zero, List.set_cons_succ]
        refine anyH_pureG 5 (d := 42) (op := .fieldAddr 91 (.tmp 41) 0) (gd := none) (.pointer (some ⟨m, 0, none⟩)) (by rfl) (fun o ho => wanted_plain ho _) (by kernel_rfl) (by kernel_rfl) (by kernel_rfl) (fun _ _ _ h => h) (fun o ho W hW => by unfold execOp; simp only [ho]; go_simp) HS.out ?_
        simp only [Act.put, List.setIfInBounds_toArray, List.set_cons_zero, List.set_cons_succ]
        refine anyH_loadG 6 (d := 43) (ty := 3) (x := (.tmp 42)) (gd := none) (p := .pointer (some ⟨m, 0, none⟩)) (.int .i64 A.room) (by rfl) (fun o ho => wanted_plain ho _) (by kernel_rfl) (by kernel_rfl) (by kernel_rfl) (fun _ _ _ h => h) (by rfl) HL0.out HS.out ?_
        simp only [Act.put, List.setIfInBounds_toArray, List.set_cons_zero, List.set_cons_succ]
        refine anyH_pureG 7 (d := 44) (op := .move (.tmp 0)) (gd := none) (.pointer (some ⟨m, 0, none⟩)) (by rfl) (fun o ho => wanted_plain ho _) (by kernel_rfl) (by kernel_rfl) (by kernel_rfl) (fun _ _ _ h => h) (fun o ho W hW => by unfold execOp; simp only [ho]; go_simp) HS.out ?_
        simp only [Act.put, List.setIfInBounds_toArray, List.set_cons_zero, List.set_cons_succ]
        refine anyH_pureG 8 (d := 45) (op := .nilCheck (.tmp 44)) (gd := none) (.pointer (some ⟨m, 0, none⟩)) (by rfl) (fun o ho => wanted_plain ho _) (by kernel_rfl) (by kernel_rfl) (by kernel_rfl) (fun _ _ _ h => h) (fun o ho W hW => by unfold execOp; simp only [ho]; go_simp) HS.out ?_
        simp only [Act.put, List.setIfInBounds_toArray, List.set_cons_zero, List.set_cons_succ]
        refine anyH_pureG 9 (d := 46) (op := .fieldAddr 91 (.tmp 45) 1) (gd := none) (.pointer (some ⟨m, 1, none⟩)) (by rfl) (fun o ho => wanted_plain ho _) (by kernel_rfl) (by kernel_rfl) (by kernel_rfl) (fun _ _ _ h => h) (fun o ho W hW => by unfold execOp; simp only [ho]; go_simp) HS.out ?_
        simp only [Act.put, List.setIfInBounds_toArray, List.set_cons_zero, List.set_cons_succ]
        refine anyH_loadG 10 (d := 47) (ty := 88) (x := (.tmp 46)) (gd := none) (p := .pointer (some ⟨m, 1, none⟩)) (.slice na nn nc) (by rfl) (fun o ho => wanted_plain ho _) (by kernel_rfl) (by kernel_rfl) (by kernel_rfl) (fun _ _ _ h => h) (by rfl) HL1.out HS.out ?_
        simp only [Act.put, List.setIfInBounds_toArray, List.set_cons_zero, List.set_cons_succ]
        refine anyH_callG 11 (d := some 48) (f := 52) (xs := #[(.tmp 47)]) (ts := #[88]) (gd := none) (vs := #[.slice na nn nc]) (by kernel_rfl) (by rfl) (fun o ho => wanted_plain ho _) (by go_simp) (by go_simp) (HUS.out) ?_
        rintro e9 w9 ⟨rfl, rfl⟩
        refine ⟨_, rfl, HS.out, fun _ => ?_⟩
        simp only [Act.put, List.setIfInBounds_toArray, List.set_cons_zero, List.set_cons_succ]
        refine anyH_pureG 12 (d := 49) (op := .binOp .sub 3 (.tmp 43) (.tmp 48) 3) (gd := none) (.int .i64 (A.room - (usedF A.now : Int))) (by rfl) (fun o ho => wanted_plain ho _) (by kernel_rfl) (by kernel_rfl) (by kernel_rfl) (fun _ _ _ h => h) (fun o ho W hW => by unfold execOp; simp only [ho]; go_simp; try exact hsub) HS.out ?_
        simp only [Act.put, List.setIfInBounds_toArray, List.set_cons_zero, List.set_cons_succ]
        refine anyH_pureG 13 (d := 50) (op := .binOp .gtr 3 (.tmp 39) (.tmp 49) 3) (gd := none) (.bool true) (by rfl) (fun o ho => wanted_plain ho _) (by kernel_rfl) (by kernel_rfl) (by kernel_rfl) (fun _ _ _ h => h) (fun o ho W hW => by unfold execOp; simp only [ho]; go_simp; try exact hfit) HS.out ?_
        simp only [Act.put, List.setIfInBounds_toArray, List.set_cons_zero, List.set_cons_succ]
        refine wpAnyH_done (by kernel_rfl) ?_ _
        clear HS HL1 HL2 HL0
        go_wp2_with fail
        go_ret
        exact ⟨rfl, HB2.out⟩
      · obtain rfl : v = 0 := by rw [hv, hm0, if_neg (by omega), if_neg (by omega)]
        have hfit : decide (A.room - (usedF A.now : Int) < (pn : Int)) = false := decide_eq_false hfull
        clear hl hv hix hk hm0 hlo hfull
        go_wp2_with fail
        (try dsimp only [Act.put, List.setIfInBounds_toArray, List.set_cons_zero, List.set_cons_succ])
        have HS := Lib.hid (show World.cell? (World.drew wq) ⟨m, 0, none⟩ = some (.int .i64 A.room) ∧ World.cell? (World.drew wq) ⟨m, 1, none⟩ = some (.slice na nn nc) ∧ World.cell? (World.drew wq) ⟨X, 3, none⟩ = some (.slice pa pn pc) from ⟨c0, c1, x3⟩)
        have HL1 := Lib.hid (fun W (hW : World.cell? W ⟨m, 0, none⟩ = some (.int .i64 A.room) ∧ World.cell? W ⟨m, 1, none⟩ = some (.slice na nn nc) ∧ World.cell? W ⟨X, 3, none⟩ = some (.slice pa pn pc)) => run_cell_fl W ⟨m, 1, none⟩ _ _ _ hW.2.1)
        have HL0 := Lib.hid (fun W (hW : World.cell? W ⟨m, 0, none⟩ = some (.int .i64 A.room) ∧ World.cell? W ⟨m, 1, none⟩ = some (.slice na nn nc) ∧ World.cell? W ⟨X, 3, none⟩ = some (.slice pa pn pc)) => run_cell_i W ⟨m, 0, none⟩ _ hW.1)
        have HL2 := Lib.hid (fun W (hW : World.cell? W ⟨m, 0, none⟩ = some (.int .i64 A.room) ∧ World.cell? W ⟨m, 1, none⟩ = some (.slice na nn nc) ∧ World.cell? W ⟨X, 3, none⟩ = some (.slice pa pn pc)) => run_cell_b W ⟨X, 3, none⟩ _ _ _ hW.2.2)
        refine anyH_begin (S := fun W => World.cell? W ⟨m, 0, none⟩ = some (.int .i64 A.room) ∧ World.cell? W ⟨m, 1, none⟩ = some (.slice na nn nc) ∧ World.cell? W ⟨X, 3, none⟩ = some (.slice pa pn pc)) (by kernel_rfl) ?_
        refine anyH_pureG 0 (d := 37) (op := .fieldAddr 94 (.tmp 3) 3) (gd := none) (.pointer (some ⟨X, 3, none⟩)) (by rfl) (fun o ho => wanted_plain ho _) (by kernel_rfl) (by kernel_rfl) (by kernel_rfl) (fun _ _ _ h => h) (fun o ho W hW => by unfold execOp; simp only [ho]; go_simp) HS.out ?_
        simp only [Act.put, List.setIfInBounds_toArray, List.set_cons_zero, List.set_cons_succ]
        refine anyH_loadG 1 (d := 38) (ty := 30) (x := (.tmp 37)) (gd := none) (p := .pointer (some ⟨X, 3, none⟩)) (.slice pa pn pc) (by rfl) (fun o ho => wanted_plain ho _) (by kernel_rfl) (by kernel_rfl) (by kernel_rfl) (fun _ _ _ h => h) (by rfl) HL2.out HS.out ?_
        simp only [Act.put, List.setIfInBounds_toArray, List.set_cons_zero, List.set_cons_succ]
        refine anyH_pureG 2 (d := 39) (op := .call { callee := .builtin .len, args := #[(.tmp 38)], argTypes := #[30] }) (gd := none) (.int .i64 (pn : Int)) (by rfl) (fun o ho => wanted_plain ho _) (by kernel_rfl) (by kernel_rfl) (by kernel_rfl) (fun _ _ _ h => h) (fun o ho W hW => by unfold execOp; simp only [ho]; go_simp) HS.out ?_
        simp only [Act.put, List.setIfInBounds_toArray, List.set_cons_zero, List.set_cons_succ]
        refine anyH_pureG 3 (d := 40) (op := .move (.tmp 0)) (gd := none) (.pointer (some ⟨m, 0, none⟩)) (by rfl) (fun o ho => wanted_plain ho _) (by kernel_rfl) (by kernel_rfl) (by kernel_rfl) (fun _ _ _ h => h) (fun o ho W hW => by unfold execOp; simp only [ho]; go_simp) HS.out ?_
        simp only [Act.put, List.setIfInBounds_toArray, List.set_cons_zero, List.set_cons_succ]
        refine anyH_pureG 4 (d := 41) (op := .nilCheck (.tmp 40)) (gd := none) (.pointer (some ⟨m, 0, none⟩)) (by rfl) (fun o ho => wanted_plain ho _) (by kernel_rfl) (by kernel_rfl) (by kernel_rfl) (fun _ _ _ h => h) (fun o ho W hW => by unfold execOp; simp only [ho]; go_simp) HS.out ?_
        simp only [Act.put, List.setIfInBounds_toArray, List.set_cons_zero, List.set_cons_succ]
        refine anyH_pureG 5 (d := 42) (op := .fieldAddr 91 (.tmp 41) 0) (gd := none) (.pointer (some ⟨m, 0, none⟩)) (by rfl) (fun o ho => wanted_plain ho _) (by kernel_rfl) (by kernel_rfl) (by kernel_rfl) (fun _ _ _ h => h) (fun o ho W hW => by unfold execOp; simp only [ho]; go_simp) HS.out ?_
        simp only [Act.put, List.setIfInBounds_toArray, List.set_cons_zero, List.set_cons_succ]
        refine anyH_loadG 6 (d := 43) (ty := 3) (x := (.tmp 42)) (gd := none) (p := .pointer (some ⟨m, 0, none⟩)) (.int .i64 A.room) (by rfl) (fun o ho => wanted_plain ho _) (by kernel_rfl) (by kernel_rfl) (by kernel_rfl) (fun _ _ _ h => h) (by rfl) HL0.out HS.out ?_
        simp only [Act.put, List.setIfInBounds_toArray, List.set_cons_zero, List.set_cons_succ]
        refine anyH_pureG 7 (d := 44) (op := .move (.tmp 0)) (gd := none) (.pointer (some ⟨m, 0, none⟩)) (by rfl) (fun o ho => wanted_plain ho _) (by kernel_rfl) (by kernel_rfl) (by kernel_rfl) (fun _ _ _ h => h) (fun o ho W hW => by unfold execOp; simp only [ho]; go_simp) HS.out ?_
        simp only [Act.put, List.setIfInBounds_toArray, List.set_cons_zero, List.set_cons_succ]
        refine anyH_pureG 8 (d := 45) (op := .nilCheck (.tmp 44)) (gd := none) (.pointer (some ⟨m, 0, none⟩)) (by rfl) (fun o ho => wanted_plain ho _) (by kernel_rfl) (by kernel_rfl) (by kernel_rfl) (fun _ _ _ h => h) (fun o ho W hW => by unfold execOp; simp only [ho]; go_simp) HS.out ?_
        simp only [Act.put, List.setIfInBounds_toArray, List.set_cons_zero, List.set_cons_succ]
        refine anyH_pureG 9 (d := 46) (op := .fieldAddr 91 (.tmp 45) 1) (gd := none) (.pointer (some ⟨m, 1, none⟩)) (by rfl) (fun o ho => wanted_plain ho _) (by kernel_rfl) (by kernel_rfl) (by kernel_rfl) (fun _ _ _ h => h) (fun o ho W hW => by unfold execOp; simp only [ho]; go_simp) HS.out ?_
        simp only [Act.put, List.setIfInBounds_toArray, List.set_cons_zero, List.set_cons_succ]
        refine anyH_loadG 10 (d := 47) (ty := 88) (x := (.tmp 46)) (gd := none) (p := .pointer (some ⟨m, 1, none⟩)) (.slice na nn nc) (by rfl) (fun o ho => wanted_plain ho _) (by kernel_rfl) (by kernel_rfl) (by kernel_rfl) (fun _ _ _ h => h) (by rfl) HL1.out HS.out ?_
        simp only [Act.put, List.setIfInBounds_toArray, List.set_cons_zero, List.set_cons_succ]
        refine anyH_callG 11 (d := some 48) (f := 52) (xs := #[(.tmp 47)]) (ts := #[88]) (gd := none) (vs := #[.slice na nn nc]) (by kernel_rfl) (by rfl) (fun o ho => wanted_plain ho _) (by go_simp) (by go_simp) (HUS.out) ?_
        rintro e9 w9 ⟨rfl, rfl⟩
        refine ⟨_, rfl, HS.out, fun _ => ?_⟩
        simp only [Act.put, List.setIfInBounds_toArray, List.set_cons_zero, List.set_cons_succ]
        refine anyH_pureG 12 (d := 49) (op := .binOp .sub 3 (.tmp 43) (.tmp 48) 3) (gd := none) (.int .i64 (A.room - (usedF A.now : Int))) (by rfl) (fun o ho => wanted_plain ho _) (by kernel_rfl) (by kernel_rfl) (by kernel_rfl) (fun _ _ _ h => h) (fun o ho W hW => by unfold execOp; simp only [ho]; go_simp; try exact hsub) HS.out ?_
        simp only [Act.put, List.setIfInBounds_toArray, List.set_cons_zero, List.set_cons_succ]
        refine anyH_pureG 13 (d := 50) (op := .binOp .gtr 3 (.tmp 39) (.tmp 49) 3) (gd := none) (.bool false) (by rfl) (fun o ho => wanted_plain ho _) (by kernel_rfl) (by kernel_rfl) (by kernel_rfl) (fun _ _ _ h => h) (fun o ho W hW => by unfold execOp; simp only [ho]; go_simp; try exact hfit) HS.out ?_
        simp only [Act.put, List.setIfInBounds_toArray, List.set_cons_zero, List.set_cons_succ]
        refine wpAnyH_done (by kernel_rfl) ?_ _
        clear HS HL1 HL2 HL0
        go_wp2_with fail
        go_ret
        exact ⟨rfl, HB2.out⟩
end Go.Proofs.Ytcjlbonflecbkaa
