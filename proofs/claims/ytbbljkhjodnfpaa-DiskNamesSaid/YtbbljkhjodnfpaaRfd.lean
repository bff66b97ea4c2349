/-
  The document's disk in memory: May of a Create; Step.
-/
import Derived.Test.YtbbljkhjodnfpaaRfc
namespace Go.Proofs.Ytbbljkhjodnfpaa
open Go.RowKit
set_option linter.unusedVariables false
theorem run_cell_fl (W : World) (a : Addr) (v : Option Addr) (l c : Nat) (hc : W.cell? a = some (.slice v l c)) : (Instr.loadAt 44 (.pointer (some a))).run Try.prog W = .ok (.slice v l c) W := by go_simp
theorem run_cell_cs (W : World) (a : Addr) (v : Option Addr) (l c : Nat) (hc : W.cell? a = some (.slice v l c)) : (Instr.loadAt 45 (.pointer (some a))).run Try.prog W = .ok (.slice v l c) W := by go_simp
theorem ixI_neg {l : Fls} {s : ByteArray} (h : lookF l s = none) : ixI (idxF l s) = -1 := by rw [idxF_none.2 h]; rfl
theorem ixI_pos {l : Fls} {s : ByteArray} (h : (lookF l s).isSome = true) : ∃ k : Nat, idxF l s = some k ∧ ixI (idxF l s) = (k : Int) := by
  cases e : idxF l s with
  | none => rw [idxF_none.1 e] at h; cases h
  | some k => exact ⟨k, rfl, rfl⟩
set_option maxRecDepth 100000 in
set_option maxHeartbeats 8000000 in
theorem rmay0_c {F : Nat → Prop} {B m : Nat} {lv : Value} {A : Ad} {w : World} (h : RDK F B m lv A w) (c : DCh) (hk : c.kind = 0) (pa : Option Addr) (pn pc : Nat) (hs : c.a.size ≤ maxLen) (hm : A.now.length ≤ 100000000) :
    Calls Try.prog 64 #[.pointer (some ⟨m, 0, none⟩), .agg #[.int .i64 (c.kind : Int), .string c.a, .string c.b, .slice pa pn pc]] w fun e w' => e = .returned (.int .i64 (A.may c)) ∧ Below w.heap.size w w' := by
  obtain ⟨X, hX⟩ : ∃ X, X = w.heap.size := ⟨_, rfl⟩
  obtain ⟨w1, hw⟩ : ∃ w1, w1 = w.alloc (.cells #[.int .i64 (c.kind : Int), .string c.a, .string c.b, .slice pa pn pc] 41) := ⟨_, rfl⟩
  have hb1 : Below w.heap.size w w1 := by rw [hw]; exact (Below.refl _ _).alloc (Nat.le_refl _) _
  have hh : w1.heap[X]? = some (.cells #[.int .i64 (c.kind : Int), .string c.a, .string c.b, .slice pa pn pc] 41 (0, 0)) := by rw [hw, hX]; exact heap_alloc_new w _
  have hk1 := h.below hb1
  obtain ⟨na, nn, nc, sa, sn, sc, ⟨c0, c1, c2, c3, c4, c5⟩, hfz, hnow, hsure⟩ := hk1.cells
  have x0 := (cell_of_row w1 X 0 _ _ _ hh).trans rfl
  have x1 := (cell_of_row w1 X 1 _ _ _ hh).trans rfl
  have x2 := (cell_of_row w1 X 2 _ _ _ hh).trans rfl
  have x3 := (cell_of_row w1 X 3 _ _ _ hh).trans rfl
  have hlen := hnow.ln
  have HFI := Lib.hid (rfind_c (cap := nc) (hnow.sta (w' := World.drew w1) ⟨Nat.le_refl _, fun _ _ _ => rfl⟩ (Ren.refl _ _)) c.a (by omega))
  have HNM := Lib.hid (fun W => risname_c c.a W hs)
  have HB1 := Lib.hid hb1.drew
  have hk0 : (c.kind : Int) = 0 := by rw [hk]; rfl
  have hmay : A.may c = (if isNm c.a = false then 1 else if (lookF A.now c.a).isSome then 7 else if 4096 ≤ A.now.length then 4 else 0) := by unfold Ad.may; rw [if_pos hk]
  rw [hlen.symm] at hmay
  obtain ⟨v, hv⟩ : ∃ v, v = A.may c := ⟨_, rfl⟩
  rw [← hv]
  rw [hmay] at hv
  have HV := Lib.hid hv
  simp only [hk0] at hw x0 x1 ⊢
  clear h hb1 hh hk1 hnow hsure hfz hmay hv c0 c2 c3 c4 c5 x2 x3
  go_enter Try.func64, Try.ntmps64
  go_wp2_with fail
  rw [← hX, ← hw]
  clear hX hw hk0
  (try dsimp only [Act.put, List.setIfInBounds_toArray, List.set_cons_zero, List.set_cons_succ])
  have HS := Lib.hid (show World.cell? (World.drew w1) ⟨m, 1, none⟩ = some (.slice na nn nc) ∧ World.cell? (World.drew w1) ⟨X, 1, none⟩ = some (.string c.a) from ⟨c1, x1⟩)
  have HL1 := Lib.hid (fun W (hW : World.cell? W ⟨m, 1, none⟩ = some (.slice na nn nc) ∧ World.cell? W ⟨X, 1, none⟩ = some (.string c.a)) => run_cell_fl W ⟨m, 1, none⟩ _ _ _ hW.1)
  have HL2 := Lib.hid (fun W (hW : World.cell? W ⟨m, 1, none⟩ = some (.slice na nn nc) ∧ World.cell? W ⟨X, 1, none⟩ = some (.string c.a)) => run_cell_s W ⟨X, 1, none⟩ _ hW.2)
  refine anyH_begin (S := fun W => World.cell? W ⟨m, 1, none⟩ = some (.slice na nn nc) ∧ World.cell? W ⟨X, 1, none⟩ = some (.string c.a)) (by kernel_rfl) ?_
  refine anyH_pureG 0 (d := 6) (op := .move (.tmp 0)) (gd := none) (.pointer (some ⟨m, 0, none⟩)) (by rfl) (fun o ho => wanted_plain ho _) (by kernel_rfl) (by kernel_rfl) (by kernel_rfl) (fun _ _ _ h => h) (fun o ho W hW => by unfold execOp; simp only [ho]; go_simp) HS.out ?_
  simp only [Act.put, List.setIfInBounds_toArray, List.set_cons_zero, List.set_cons_succ]
  refine anyH_pureG 1 (d := 7) (op := .nilCheck (.tmp 6)) (gd := none) (.pointer (some ⟨m, 0, none⟩)) (by rfl) (fun o ho => wanted_plain ho _) (by kernel_rfl) (by kernel_rfl) (by kernel_rfl) (fun _ _ _ h => h) (fun o ho W hW => by unfold execOp; simp only [ho]; go_simp) HS.out ?_
  simp only [Act.put, List.setIfInBounds_toArray, List.set_cons_zero, List.set_cons_succ]
  refine anyH_pureG 2 (d := 8) (op := .fieldAddr 47 (.tmp 7) 1) (gd := none) (.pointer (some ⟨m, 1, none⟩)) (by rfl) (fun o ho => wanted_plain ho _) (by kernel_rfl) (by kernel_rfl) (by kernel_rfl) (fun _ _ _ h => h) (fun o ho W hW => by unfold execOp; simp only [ho]; go_simp) HS.out ?_
  simp only [Act.put, List.setIfInBounds_toArray, List.set_cons_zero, List.set_cons_succ]
  refine anyH_loadG 3 (d := 9) (ty := 44) (x := (.tmp 8)) (gd := none) (p := .pointer (some ⟨m, 1, none⟩)) (.slice na nn nc) (by rfl) (fun o ho => wanted_plain ho _) (by kernel_rfl) (by kernel_rfl) (by kernel_rfl) (fun _ _ _ h => h) (by rfl) HL1.out HS.out ?_
  simp only [Act.put, List.setIfInBounds_toArray, List.set_cons_zero, List.set_cons_succ]
  refine anyH_pureG 4 (d := 10) (op := .fieldAddr 41 (.tmp 3) 1) (gd := none) (.pointer (some ⟨X, 1, none⟩)) (by rfl) (fun o ho => wanted_plain ho _) (by kernel_rfl) (by kernel_rfl) (by kernel_rfl) (fun _ _ _ h => h) (fun o ho W hW => by unfold execOp; simp only [ho]; go_simp) HS.out ?_
  simp only [Act.put, List.setIfInBounds_toArray, List.set_cons_zero, List.set_cons_succ]
  refine anyH_loadG 5 (d := 11) (ty := 9) (x := (.tmp 10)) (gd := none) (p := .pointer (some ⟨X, 1, none⟩)) (.string c.a) (by rfl) (fun o ho => wanted_plain ho _) (by kernel_rfl) (by kernel_rfl) (by kernel_rfl) (fun _ _ _ h => h) (by rfl) HL2.out HS.out ?_
  simp only [Act.put, List.setIfInBounds_toArray, List.set_cons_zero, List.set_cons_succ]
  refine anyH_callG 6 (d := some 12) (f := 54) (xs := #[(.tmp 9), (.tmp 11)]) (ts := #[44, 9]) (gd := none) (vs := #[.slice na nn nc, .string c.a]) (by kernel_rfl) (by rfl) (fun o ho => wanted_plain ho _) (by go_simp) (by go_simp) (HFI.out) ?_
  rintro e9 w9 ⟨rfl, rfl⟩
  refine ⟨_, rfl, HS.out, fun _ => ?_⟩
  simp only [Act.put, List.setIfInBounds_toArray, List.set_cons_zero, List.set_cons_succ]
  refine anyH_pureG 7 (d := 5) (op := .assign (.tmp 12)) (gd := none) (.int .i64 (ixI (idxF A.now c.a))) (by rfl) (fun o ho => wanted_plain ho _) (by kernel_rfl) (by kernel_rfl) (by kernel_rfl) (fun _ _ _ h => h) (fun o ho W hW => by unfold execOp; simp only [ho]; go_simp) HS.out ?_
  simp only [Act.put, List.setIfInBounds_toArray, List.set_cons_zero, List.set_cons_succ]
  refine wpAnyH_done (by kernel_rfl) ?_ _
  clear HS HL1 HL2
  clear HFI
  obtain ⟨wq, hwq⟩ : ∃ wq, wq = World.drew w1 := ⟨_, rfl⟩
  rw [← hwq] at HB1 ⊢
  have x0 : wq.cell? ⟨X, 0, none⟩ = some (.int .i64 0) := by rw [hwq]; exact x0
  have x1 : wq.cell? ⟨X, 1, none⟩ = some (.string c.a) := by rw [hwq]; exact x1
  have c1 : wq.cell? ⟨m, 1, none⟩ = some (.slice na nn nc) := by rw [hwq]; exact c1
  clear hwq
  rcases (isNm_cases c.a).symm with hn | hn
  · rw [hn] at HNM
    obtain rfl : v = 1 := by rw [HV.out, if_pos hn]
    go_wp2_with fail
    refine (HNM.out _).mono ?_
    rintro e2 w2 ⟨rfl, rfl⟩
    go_wp2_with fail
    go_ret
    exact ⟨rfl, HB1.out⟩
  · rw [hn] at HNM
    have hv := HV.out
    rw [if_neg (by rw [hn]; decide)] at hv
    clear HV
    cases hl : (lookF A.now c.a).isSome with
    | true =>
      obtain ⟨k, _, hix⟩ := ixI_pos hl
      rw [hix]
      obtain rfl : v = 7 := by rw [hv, if_pos hl]
      clear hix hl hv
      go_wp2_with fail
      refine (HNM.out _).mono ?_
      rintro e2 w2 ⟨rfl, rfl⟩
      go_wp2_with fail
      go_ret
      exact ⟨rfl, HB1.out⟩
    | false =>
      have hl2 : lookF A.now c.a = none := by
        cases e : lookF A.now c.a with
        | none => rfl
        | some z => rw [e] at hl; cases hl
      rw [ixI_neg hl2]
      rw [if_neg (by rw [hl]; decide)] at hv
      clear hl hl2
      by_cases hz : 4096 ≤ nn
      · have hz1 : (4096 : Int) ≤ (nn : Int) := by omega
        obtain rfl : v = 4 := by rw [hv, if_pos hz]
        clear hz hv
        go_wp2_with fail
        refine (HNM.out _).mono ?_
        rintro e2 w2 ⟨rfl, rfl⟩
        go_wp2_with fail
        go_ret
        exact ⟨rfl, HB1.out⟩
      · have hz1 : ¬ (4096 : Int) ≤ (nn : Int) := by omega
        obtain rfl : v = 0 := by rw [hv, if_neg hz]
        clear hz hv
        go_wp2_with fail
        refine (HNM.out _).mono ?_
        rintro e2 w2 ⟨rfl, rfl⟩
        go_wp2_with fail
        go_ret
        exact ⟨rfl, HB1.out⟩
end Go.Proofs.Ytbbljkhjodnfpaa
