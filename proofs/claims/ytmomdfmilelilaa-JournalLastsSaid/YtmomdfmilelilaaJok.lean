/-
  The document's Same and Begins over rows of slices: some answer.
-/
import Derived.Test.YtmomdfmilelilaaJpk
namespace Go.Proofs.Ytmomdfmilelilaa
open Go.RowKit
set_option linter.unusedVariables false
def RetBo (w : World) (e : Ending) (w' : World) : Prop := ∃ b : Bool, e = .returned (.bool b) ∧ ∃ q, w' = w.drewN q
set_option maxRecDepth 100000 in
set_option maxHeartbeats 2000000 in
theorem vsameE_c (a1 a2 : Option Addr) (n c1 c2 : Nat) (ps qs : List (List Nat)) (w : World) (h1 : RowRd w a1 n ps) (h2 : RowRd w a2 n qs) (hn : n ≤ 4611686018427387904) :
    Calls Try.prog 18 #[.slice a1 n c1, .slice a2 n c2] w (RetBo w) := by
  have H1 := Lib.hid h1
  have H2 := Lib.hid h2
  clear h1 h2
  go_enter Try.func18, Try.ntmps18
  go_wp2_with fail
  go_loopw [5] (fun i wr => ∃ k q : Nat, k ≤ n ∧ i = .int .i64 k ∧ wr = w.drewN q) (fun i _ => n - (intOf i).toNat)
  case atStart => exact ⟨0, 0, Nat.zero_le _, rfl, rfl⟩
  case round =>
    obtain ⟨k, q, hk, rfl, hW⟩ := hrel
    have HW := Lib.hid hW
    by_cases hkn : k < n
    · obtain ⟨b1, o1, rfl, hc1⟩ := H1.out.2.resolve_left (by omega)
      obtain ⟨b2, o2, rfl, hc2⟩ := H2.out.2.resolve_left (by omega)
      obtain ⟨p, hp⟩ : ∃ p, ps[k]? = some p := ⟨_, List.getElem?_eq_getElem (by rw [H1.out.1]; exact hkn)⟩
      obtain ⟨x1, m1, d1, e1, r1, g1⟩ := hc1 k p hp
      obtain ⟨p2, hp2⟩ : ∃ p2, qs[k]? = some p2 := ⟨_, List.getElem?_eq_getElem (by rw [H2.out.1]; exact hkn)⟩
      obtain ⟨x2, m2, d2, e2, r2, g2⟩ := hc2 k p2 hp2
      obtain ⟨t, ht⟩ : ∃ t, decide (p = p2) = t := ⟨_, rfl⟩
      have HSM := Lib.hid (show ∀ W, Drw w W → Calls Try.prog 29 #[.slice x1 m1 d1, .slice x2 m2 d2] W (RetD (.bool t) W) from fun W hq => by
        obtain ⟨q, rfl⟩ := hq
        have h := same_c x1 x2 m1 d1 m2 d2 p p2 (w.drewN q) r1.drewN r2.drewN g1
        rw [ht] at h
        exact h)
      have HL1 := Lib.hid (show ∀ W, Drw w W → (Instr.loadAt 32 (.pointer (some ⟨b1, o1 + k, none⟩))).run Try.prog W = .ok (.slice x1 m1 d1) W from fun W hq => run_cell_sl W b1 (o1 + k) x1 m1 d1 (by obtain ⟨q, rfl⟩ := hq; exact e1))
      have HL2 := Lib.hid (show ∀ W, Drw w W → (Instr.loadAt 32 (.pointer (some ⟨b2, o2 + k, none⟩))).run Try.prog W = .ok (.slice x2 m2 d2) W from fun W hq => run_cell_sl W b2 (o2 + k) x2 m2 d2 (by obtain ⟨q, rfl⟩ := hq; exact e2))
      have HS := Lib.hid (show Drw w wr.drew from ⟨q + 1, by rw [hW]; rfl⟩)
      have i0 : (0 : Int) ≤ (k : Int) := by omega
      have i1 : (k : Int) < (n : Int) := by omega
      clear hc1 hc2 hp hp2 r1 r2 e1 e2 hW HW ht
      cases t with
      | true =>
        go_upto_region 6 with fail
        (try dsimp only [Act.put, List.setIfInBounds_toArray, List.set_cons_zero, List.set_cons_succ])
        refine anyH_begin (S := Drw w) (by kernel_rfl) ?_
        -- region
        refine anyH_pureG 0 (d := 17) (op := .move (.tmp 0)) (gd := none) (.slice (some ⟨b1, o1, none⟩) n c1) (by rfl) (fun o ho => wanted_plain ho _) (by kernel_rfl) (by kernel_rfl) (by kernel_rfl) (fun _ _ _ h => h) (fun o ho W hW => by unfold execOp; simp only [ho]; go_simp) HS.out ?_
        simp only [Act.put, List.setIfInBounds_toArray, List.set_cons_zero, List.set_cons_succ]
        refine anyH_pureG 1 (d := 18) (op := .move (.tmp 5)) (gd := none) (.int .i64 (k : Int)) (by rfl) (fun o ho => wanted_plain ho _) (by kernel_rfl) (by kernel_rfl) (by kernel_rfl) (fun _ _ _ h => h) (fun o ho W hW => by unfold execOp; simp only [ho]; go_simp) HS.out ?_
        simp only [Act.put, List.setIfInBounds_toArray, List.set_cons_zero, List.set_cons_succ]
        refine anyH_pureG 2 (d := 19) (op := .indexAddr 29 (.tmp 17) (.tmp 18)) (gd := none) (.pointer (some ⟨b1, o1 + k, none⟩)) (by rfl) (fun o ho => wanted_plain ho _) (by kernel_rfl) (by kernel_rfl) (by kernel_rfl) (fun _ _ _ h => h) (fun o ho W hW => by unfold execOp; simp only [ho]; go_simp) HS.out ?_
        simp only [Act.put, List.setIfInBounds_toArray, List.set_cons_zero, List.set_cons_succ]
        refine anyH_loadG 3 (d := 20) (ty := 32) (x := (.tmp 19)) (gd := none) (p := .pointer (some ⟨b1, o1 + k, none⟩)) (.slice x1 m1 d1) (by rfl) (fun o ho => wanted_plain ho _) (by kernel_rfl) (by kernel_rfl) (by kernel_rfl) (fun _ _ _ h => h) (by rfl) HL1.out HS.out ?_
        simp only [Act.put, List.setIfInBounds_toArray, List.set_cons_zero, List.set_cons_succ]
        refine anyH_pureG 4 (d := 21) (op := .move (.tmp 1)) (gd := none) (.slice (some ⟨b2, o2, none⟩) n c2) (by rfl) (fun o ho => wanted_plain ho _) (by kernel_rfl) (by kernel_rfl) (by kernel_rfl) (fun _ _ _ h => h) (fun o ho W hW => by unfold execOp; simp only [ho]; go_simp) HS.out ?_
        simp only [Act.put, List.setIfInBounds_toArray, List.set_cons_zero, List.set_cons_succ]
        refine anyH_pureG 5 (d := 22) (op := .move (.tmp 5)) (gd := none) (.int .i64 (k : Int)) (by rfl) (fun o ho => wanted_plain ho _) (by kernel_rfl) (by kernel_rfl) (by kernel_rfl) (fun _ _ _ h => h) (fun o ho W hW => by unfold execOp; simp only [ho]; go_simp) HS.out ?_
        simp only [Act.put, List.setIfInBounds_toArray, List.set_cons_zero, List.set_cons_succ]
        refine anyH_pureG 6 (d := 23) (op := .indexAddr 29 (.tmp 21) (.tmp 22)) (gd := none) (.pointer (some ⟨b2, o2 + k, none⟩)) (by rfl) (fun o ho => wanted_plain ho _) (by kernel_rfl) (by kernel_rfl) (by kernel_rfl) (fun _ _ _ h => h) (fun o ho W hW => by unfold execOp; simp only [ho]; go_simp) HS.out ?_
        simp only [Act.put, List.setIfInBounds_toArray, List.set_cons_zero, List.set_cons_succ]
        refine anyH_loadG 7 (d := 24) (ty := 32) (x := (.tmp 23)) (gd := none) (p := .pointer (some ⟨b2, o2 + k, none⟩)) (.slice x2 m2 d2) (by rfl) (fun o ho => wanted_plain ho _) (by kernel_rfl) (by kernel_rfl) (by kernel_rfl) (fun _ _ _ h => h) (by rfl) HL2.out HS.out ?_
        simp only [Act.put, List.setIfInBounds_toArray, List.set_cons_zero, List.set_cons_succ]
        refine anyH_callG 8 (d := some 25) (f := 29) (xs := #[(.tmp 20), (.tmp 24)]) (ts := #[32, 32]) (gd := none) (vs := #[.slice x1 m1 d1, .slice x2 m2 d2]) (by kernel_rfl) (by rfl) (fun o ho => wanted_plain ho _) (by go_simp) (by go_simp) (HSM.out _ HS.out) ?_
        rintro e W1 ⟨rfl, q2, hW1⟩
        have HS1 := Lib.hid (show Drw w W1 from by obtain ⟨q, hq⟩ := HS.out; exact ⟨q + q2, by rw [hW1, hq]; first | rfl | exact drewN_add _ _ _⟩)
        clear hW1
        refine ⟨_, rfl, HS1.out, fun _ => ?_⟩
        simp only [Act.put, List.setIfInBounds_toArray, List.set_cons_zero, List.set_cons_succ]
        refine anyH_pureG 9 (d := 26) (op := .unOp .not 4 (.tmp 25)) (gd := none) (.bool false) (by rfl) (fun o ho => wanted_plain ho _) (by kernel_rfl) (by kernel_rfl) (by kernel_rfl) (fun _ _ _ h => h) (fun o ho W hW => by unfold execOp; simp only [ho]; go_simp) HS1.out ?_
        simp only [Act.put, List.setIfInBounds_toArray, List.set_cons_zero, List.set_cons_succ]
        -- done
        refine wpAnyH_done (by kernel_rfl) ?_ _
        obtain ⟨q3, hq3⟩ := HS1.out
        have HQ3 := Lib.hid hq3
        clear hq3 HS1 HS HSM HL1 HL2
        go_wp2_with fail
        go_roundw
        case rel => exact ⟨k + 1, q3, by omega, by go_num, HQ3.out⟩
        case measure => simp [intOf]; omega
      | false =>
        go_upto_region 6 with fail
        (try dsimp only [Act.put, List.setIfInBounds_toArray, List.set_cons_zero, List.set_cons_succ])
        refine anyH_begin (S := Drw w) (by kernel_rfl) ?_
        -- region
        refine anyH_pureG 0 (d := 17) (op := .move (.tmp 0)) (gd := none) (.slice (some ⟨b1, o1, none⟩) n c1) (by rfl) (fun o ho => wanted_plain ho _) (by kernel_rfl) (by kernel_rfl) (by kernel_rfl) (fun _ _ _ h => h) (fun o ho W hW => by unfold execOp; simp only [ho]; go_simp) HS.out ?_
        simp only [Act.put, List.setIfInBounds_toArray, List.set_cons_zero, List.set_cons_succ]
        refine anyH_pureG 1 (d := 18) (op := .move (.tmp 5)) (gd := none) (.int .i64 (k : Int)) (by rfl) (fun o ho => wanted_plain ho _) (by kernel_rfl) (by kernel_rfl) (by kernel_rfl) (fun _ _ _ h => h) (fun o ho W hW => by unfold execOp; simp only [ho]; go_simp) HS.out ?_
        simp only [Act.put, List.setIfInBounds_toArray, List.set_cons_zero, List.set_cons_succ]
        refine anyH_pureG 2 (d := 19) (op := .indexAddr 29 (.tmp 17) (.tmp 18)) (gd := none) (.pointer (some ⟨b1, o1 + k, none⟩)) (by rfl) (fun o ho => wanted_plain ho _) (by kernel_rfl) (by kernel_rfl) (by kernel_rfl) (fun _ _ _ h => h) (fun o ho W hW => by unfold execOp; simp only [ho]; go_simp) HS.out ?_
        simp only [Act.put, List.setIfInBounds_toArray, List.set_cons_zero, List.set_cons_succ]
        refine anyH_loadG 3 (d := 20) (ty := 32) (x := (.tmp 19)) (gd := none) (p := .pointer (some ⟨b1, o1 + k, none⟩)) (.slice x1 m1 d1) (by rfl) (fun o ho => wanted_plain ho _) (by kernel_rfl) (by kernel_rfl) (by kernel_rfl) (fun _ _ _ h => h) (by rfl) HL1.out HS.out ?_
        simp only [Act.put, List.setIfInBounds_toArray, List.set_cons_zero, List.set_cons_succ]
        refine anyH_pureG 4 (d := 21) (op := .move (.tmp 1)) (gd := none) (.slice (some ⟨b2, o2, none⟩) n c2) (by rfl) (fun o ho => wanted_plain ho _) (by kernel_rfl) (by kernel_rfl) (by kernel_rfl) (fun _ _ _ h => h) (fun o ho W hW => by unfold execOp; simp only [ho]; go_simp) HS.out ?_
        simp only [Act.put, List.setIfInBounds_toArray, List.set_cons_zero, List.set_cons_succ]
        refine anyH_pureG 5 (d := 22) (op := .move (.tmp 5)) (gd := none) (.int .i64 (k : Int)) (by rfl) (fun o ho => wanted_plain ho _) (by kernel_rfl) (by kernel_rfl) (by kernel_rfl) (fun _ _ _ h => h) (fun o ho W hW => by unfold execOp; simp only [ho]; go_simp) HS.out ?_
        simp only [Act.put, List.setIfInBounds_toArray, List.set_cons_zero, List.set_cons_succ]
        refine anyH_pureG 6 (d := 23) (op := .indexAddr 29 (.tmp 21) (.tmp 22)) (gd := none) (.pointer (some ⟨b2, o2 + k, none⟩)) (by rfl) (fun o ho => wanted_plain ho _) (by kernel_rfl) (by kernel_rfl) (by kernel_rfl) (fun _ _ _ h => h) (fun o ho W hW => by unfold execOp; simp only [ho]; go_simp) HS.out ?_
        simp only [Act.put, List.setIfInBounds_toArray, List.set_cons_zero, List.set_cons_succ]
        refine anyH_loadG 7 (d := 24) (ty := 32) (x := (.tmp 23)) (gd := none) (p := .pointer (some ⟨b2, o2 + k, none⟩)) (.slice x2 m2 d2) (by rfl) (fun o ho => wanted_plain ho _) (by kernel_rfl) (by kernel_rfl) (by kernel_rfl) (fun _ _ _ h => h) (by rfl) HL2.out HS.out ?_
        simp only [Act.put, List.setIfInBounds_toArray, List.set_cons_zero, List.set_cons_succ]
        refine anyH_callG 8 (d := some 25) (f := 29) (xs := #[(.tmp 20), (.tmp 24)]) (ts := #[32, 32]) (gd := none) (vs := #[.slice x1 m1 d1, .slice x2 m2 d2]) (by kernel_rfl) (by rfl) (fun o ho => wanted_plain ho _) (by go_simp) (by go_simp) (HSM.out _ HS.out) ?_
        rintro e W1 ⟨rfl, q2, hW1⟩
        have HS1 := Lib.hid (show Drw w W1 from by obtain ⟨q, hq⟩ := HS.out; exact ⟨q + q2, by rw [hW1, hq]; first | rfl | exact drewN_add _ _ _⟩)
        clear hW1
        refine ⟨_, rfl, HS1.out, fun _ => ?_⟩
        simp only [Act.put, List.setIfInBounds_toArray, List.set_cons_zero, List.set_cons_succ]
        refine anyH_pureG 9 (d := 26) (op := .unOp .not 4 (.tmp 25)) (gd := none) (.bool true) (by rfl) (fun o ho => wanted_plain ho _) (by kernel_rfl) (by kernel_rfl) (by kernel_rfl) (fun _ _ _ h => h) (fun o ho W hW => by unfold execOp; simp only [ho]; go_simp) HS1.out ?_
        simp only [Act.put, List.setIfInBounds_toArray, List.set_cons_zero, List.set_cons_succ]
        -- done
        refine wpAnyH_done (by kernel_rfl) ?_ _
        obtain ⟨q3, hq3⟩ := HS1.out
        have HQ3 := Lib.hid hq3
        clear hq3 HS1 HS HSM HL1 HL2
        go_wp2_with fail
        go_ret
        exact ⟨false, rfl, q3, HQ3.out⟩
    · clear hW
      go_wp2_with fail
      go_ret
      exact ⟨true, rfl, q, HW.out⟩
set_option maxRecDepth 100000 in
set_option maxHeartbeats 2000000 in
theorem vsameB_c (a1 a2 : Option Addr) (n c1 m c2 : Nat) (ps qs : List (List Nat)) (w : World) (h1 : RowRd w a1 n ps) (h2 : RowRd w a2 m qs) (hn : n ≤ 4611686018427387904) (hm : m ≤ 4611686018427387904) :
    Calls Try.prog 18 #[.slice a1 n c1, .slice a2 m c2] w (RetBo w) := by
  by_cases h : n = m
  · subst h
    exact vsameE_c a1 a2 n c1 c2 ps qs w h1 h2 hn
  · have hne : ((n : Int) != (m : Int)) = true := by simp; omega
    clear h1 h2
    go_enter Try.func18, Try.ntmps18
    go_wp2_with fail
    go_ret
    exact ⟨false, rfl, 0, rfl⟩
set_option maxRecDepth 100000 in
set_option maxHeartbeats 1000000 in
theorem beginsB_c (a1 a2 : Option Addr) (n c1 m c2 : Nat) (ps qs : List (List Nat)) (w : World) (h1 : RowRd w a1 n ps) (h2 : RowRd w a2 m qs) (hmc : m ≤ c2) (hn : n ≤ 4611686018427387904) (hm : m ≤ 4611686018427387904) :
    Calls Try.prog 17 #[.slice a1 n c1, .slice a2 m c2] w (RetBo w) := by
  by_cases hle : n ≤ m
  · have HS := Lib.hid (vsameE_c a1 a2 n c1 c2 ps (qs.take n) w h1 (h2.take n hle) hn)
    have kH := fun W => run_vheadAt W a2 m c2 n (by omega)
    have i0 : (n : Int) ≤ (m : Int) := by omega
    clear h1 h2
    go_enter Try.func17, Try.ntmps17
    go_wp2_with fail
    refine HS.out.mono ?_
    rintro e w1 ⟨b, rfl, q, rfl⟩
    go_wp2_with fail
    go_ret
    exact ⟨b, rfl, q, rfl⟩
  · have i0 : ¬ (n : Int) ≤ (m : Int) := by omega
    clear h1 h2
    go_enter Try.func17, Try.ntmps17
    go_wp2_with fail
    go_ret
    exact ⟨false, rfl, 0, rfl⟩
end Go.Proofs.Ytmomdfmilelilaa
