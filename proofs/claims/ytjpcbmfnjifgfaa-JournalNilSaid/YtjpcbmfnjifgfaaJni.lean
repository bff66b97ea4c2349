/-
  The walk over the statement of a nil journal, a nil disk, records that are too long: runs of calls (Evd) in the middle of a walk.
-/
import Derived.Test.YtjpcbmfnjifgfaaJfm
import Derived.Test.YtjpcbmfnjifgfaaJna
namespace Go.Proofs.Ytjpcbmfnjifgfaa
open Go.Proofs.Ytjpcbmfnjifgfaa.Ev
open Go.RowKit
set_option linter.unusedVariables false
theorem run_cell_dp (W : World) (g j : Nat) (a : Option Addr) (hc : W.cell? ⟨g, j, none⟩ = some (.pointer a)) : (Instr.loadAt 24 (.pointer (some ⟨g, j, none⟩))).run Try.prog W = .ok (.pointer a) W := by go_simp
theorem run_cell_st (W : World) (g j : Nat) (v : ByteArray) (hc : W.cell? ⟨g, j, none⟩ = some (.string v)) : (Instr.loadAt 9 (.pointer (some ⟨g, j, none⟩))).run Try.prog W = .ok (.string v) W := by go_simp
theorem make_own {w0 : World} {B g n : Nat} (h : w0.ownsRow B 5 1 (.slice (some ⟨g, 0, none⟩) n n) n (madeCells #[Value.int IntKind.u8 0] n).toList) : ∃ zs, zs.length = n ∧ (∀ z ∈ zs, z < 256) ∧ Own w0 B (.slice (some ⟨g, 0, none⟩) n n) zs := by
  refine ⟨List.replicate n 0, by simp, fun z hz => by rw [List.eq_of_mem_replicate hz]; omega, ?_⟩
  unfold Own
  rw [List.length_replicate, ← made_zero]
  exact h
def JC (pj pd : Nat) (W : World) : Prop := W.cell? ⟨pj, 0, none⟩ = some (.pointer (some ⟨pd, 0, none⟩)) ∧ W.cell? ⟨pj, 1, none⟩ = some (.string ⟨#[106]⟩)
set_option maxRecDepth 100000 in
set_option maxHeartbeats 4000000 in
/-- Append of a record that fits, on a disk on which there is no room -/
theorem jappend_full (pj pd g o n c : Nat) (zs : List Nat) (w : World) (hrd : Rd w (some ⟨g, o, none⟩) n zs) (hn : n ≤ 1048568)
    (hc : JC pj pd w) (hpj : pj < w.heap.size) (Q : World → Prop)
    (hd : ∀ (W : World) (a : Option Addr) (L cp : Nat), Below w.heap.size w W → L = 8 + n → Calls Try.prog 25 #[.pointer (some ⟨pd, 0, none⟩), .string ⟨#[106]⟩, .slice a L cp] W fun e w' => e = .returned (.int .i64 4) ∧ JC pj pd w' ∧ Q w') :
    Calls Try.prog 42 #[.pointer (some ⟨pj, 0, none⟩), .slice (some ⟨g, o, none⟩) n c] w fun e w' => e = .returned (.int .i64 4) ∧ Q w' := by
  have HFR := Lib.hid ((frame_c (some ⟨g, o, none⟩) n c zs w hrd (by simp) (by omega)).mono (RetB.form (Frm.frame_byte zs hrd.2.1)))
  have HFN := Lib.hid (show (Frm.frameL zs).length = 8 + n from by rw [Frm.frame_len, hrd.1])
  have HD0 := Lib.hid hd
  have HC := Lib.hid hc
  have HPJ := Lib.hid hpj
  have i0 : (n : Int) ≤ 1048568 := by omega
  clear hrd hd hc hpj
  go_enter Try.func42, Try.ntmps42
  go_wp2_with fail
  have hfit : Calls Try.prog 71 #[.slice (some ⟨g, o, none⟩) n c] w fun e w' => e = .returned (.bool true) ∧ w = w' := by
    go_enter Try.func71, Try.ntmps71
    go_wp2_with fail
    go_ret
    exact ⟨rfl, rfl⟩
  refine hfit.mono ?_
  rintro e1 w1 ⟨rfl, hw1⟩
  subst hw1
  clear hfit
  go_wp2_with fail
  refine HFR.out.mono ?_
  rintro e2 w2 ⟨a2, L2, c2, rfl, hl2, hlc2, hcm2, hn2, hr2, ho2, hb2⟩
  have hL2 : L2 = 8 + n := by rw [← hl2, HFN.out]
  have HS := Lib.hid (show JC pj pd w2.drew from ⟨(hb2.cell (p := ⟨pj, 0, none⟩) HPJ.out).trans HC.out.1, (hb2.cell (p := ⟨pj, 1, none⟩) HPJ.out).trans HC.out.2⟩)
  have HD := Lib.hid (HD0.out w2.drew a2 L2 c2 hb2.drew hL2)
  have HL0 := Lib.hid (show ∀ W, JC pj pd W → (Instr.loadAt 24 (.pointer (some ⟨pj, 0, none⟩))).run Try.prog W = .ok (.pointer (some ⟨pd, 0, none⟩)) W from fun W hW => run_cell_dp W pj 0 _ hW.1)
  have HL1 := Lib.hid (show ∀ W, JC pj pd W → (Instr.loadAt 9 (.pointer (some ⟨pj, 1, none⟩))).run Try.prog W = .ok (.string ⟨#[106]⟩) W from fun W hW => run_cell_st W pj 1 _ hW.2)
  clear hl2 hlc2 hcm2 hn2 hr2 ho2 hb2 hL2 HFR HFN HD0
  go_upto_region 6 with fail
  (try dsimp only [Act.put, List.setIfInBounds_toArray, List.set_cons_zero, List.set_cons_succ])
  refine anyH_begin (S := JC pj pd) (by kernel_rfl) ?_
  refine anyH_pureG 0 (d := 16) (op := .move (.tmp 0)) (gd := none) (.pointer (some ⟨pj, 0, none⟩)) (by rfl) (fun o ho => wanted_plain ho _) (by kernel_rfl) (by kernel_rfl) (by kernel_rfl) (fun _ _ _ h => h) (fun o ho W hW => by unfold execOp; simp only [ho]; go_simp) HS.out ?_
  simp only [Act.put, List.setIfInBounds_toArray, List.set_cons_zero, List.set_cons_succ]
  refine anyH_pureG 1 (d := 17) (op := .nilCheck (.tmp 16)) (gd := none) (.pointer (some ⟨pj, 0, none⟩)) (by rfl) (fun o ho => wanted_plain ho _) (by kernel_rfl) (by kernel_rfl) (by kernel_rfl) (fun _ _ _ h => h) (fun o ho W hW => by unfold execOp; simp only [ho]; go_simp) HS.out ?_
  simp only [Act.put, List.setIfInBounds_toArray, List.set_cons_zero, List.set_cons_succ]
  refine anyH_pureG 2 (d := 18) (op := .fieldAddr 116 (.tmp 17) 0) (gd := none) (.pointer (some ⟨pj, 0, none⟩)) (by rfl) (fun o ho => wanted_plain ho _) (by kernel_rfl) (by kernel_rfl) (by kernel_rfl) (fun _ _ _ h => h) (fun o ho W hW => by unfold execOp; simp only [ho]; go_simp) HS.out ?_
  simp only [Act.put, List.setIfInBounds_toArray, List.set_cons_zero, List.set_cons_succ]
  refine anyH_loadG 3 (d := 19) (ty := 24) (x := (.tmp 18)) (gd := none) (p := .pointer (some ⟨pj, 0, none⟩)) (.pointer (some ⟨pd, 0, none⟩)) (by rfl) (fun o ho => wanted_plain ho _) (by kernel_rfl) (by kernel_rfl) (by kernel_rfl) (fun _ _ _ h => h) (by rfl) HL0.out HS.out ?_
  simp only [Act.put, List.setIfInBounds_toArray, List.set_cons_zero, List.set_cons_succ]
  refine anyH_pureG 4 (d := 20) (op := .move (.tmp 0)) (gd := none) (.pointer (some ⟨pj, 0, none⟩)) (by rfl) (fun o ho => wanted_plain ho _) (by kernel_rfl) (by kernel_rfl) (by kernel_rfl) (fun _ _ _ h => h) (fun o ho W hW => by unfold execOp; simp only [ho]; go_simp) HS.out ?_
  simp only [Act.put, List.setIfInBounds_toArray, List.set_cons_zero, List.set_cons_succ]
  refine anyH_pureG 5 (d := 21) (op := .nilCheck (.tmp 20)) (gd := none) (.pointer (some ⟨pj, 0, none⟩)) (by rfl) (fun o ho => wanted_plain ho _) (by kernel_rfl) (by kernel_rfl) (by kernel_rfl) (fun _ _ _ h => h) (fun o ho W hW => by unfold execOp; simp only [ho]; go_simp) HS.out ?_
  simp only [Act.put, List.setIfInBounds_toArray, List.set_cons_zero, List.set_cons_succ]
  refine anyH_pureG 6 (d := 22) (op := .fieldAddr 116 (.tmp 21) 1) (gd := none) (.pointer (some ⟨pj, 1, none⟩)) (by rfl) (fun o ho => wanted_plain ho _) (by kernel_rfl) (by kernel_rfl) (by kernel_rfl) (fun _ _ _ h => h) (fun o ho W hW => by unfold execOp; simp only [ho]; go_simp) HS.out ?_
  simp only [Act.put, List.setIfInBounds_toArray, List.set_cons_zero, List.set_cons_succ]
  refine anyH_loadG 7 (d := 23) (ty := 9) (x := (.tmp 22)) (gd := none) (p := .pointer (some ⟨pj, 1, none⟩)) (.string ⟨#[106]⟩) (by rfl) (fun o ho => wanted_plain ho _) (by kernel_rfl) (by kernel_rfl) (by kernel_rfl) (fun _ _ _ h => h) (by rfl) HL1.out HS.out ?_
  simp only [Act.put, List.setIfInBounds_toArray, List.set_cons_zero, List.set_cons_succ]
  refine anyH_pureG 8 (d := 24) (op := .move (.tmp 5)) (gd := none) (.slice a2 L2 c2) (by rfl) (fun o ho => wanted_plain ho _) (by kernel_rfl) (by kernel_rfl) (by kernel_rfl) (fun _ _ _ h => h) (fun o ho W hW => by unfold execOp; simp only [ho]; go_simp) HS.out ?_
  simp only [Act.put, List.setIfInBounds_toArray, List.set_cons_zero, List.set_cons_succ]
  refine anyH_callG 9 (d := some 25) (f := 25) (xs := #[(.tmp 19), (.tmp 23), (.tmp 24)]) (ts := #[24, 9, 30]) (gd := none) (vs := #[.pointer (some ⟨pd, 0, none⟩), .string ⟨#[106]⟩, .slice a2 L2 c2]) (by kernel_rfl) (by rfl) (fun o ho => wanted_plain ho _) (by go_simp) (by go_simp) (HD.out) ?_
  rintro e W1 ⟨rfl, hQ1⟩
  have HQ := Lib.hid hQ1
  clear hQ1
  refine ⟨_, rfl, HQ.out.1, fun _ => ?_⟩
  simp only [Act.put, List.setIfInBounds_toArray, List.set_cons_zero, List.set_cons_succ]
  refine anyH_pureG 10 (d := 6) (op := .assign (.tmp 25)) (gd := none) (.int .i64 4) (by rfl) (fun o ho => wanted_plain ho _) (by kernel_rfl) (by kernel_rfl) (by kernel_rfl) (fun _ _ _ h => h) (fun o ho W hW => by unfold execOp; simp only [ho]; go_simp) HQ.out.1 ?_
  simp only [Act.put, List.setIfInBounds_toArray, List.set_cons_zero, List.set_cons_succ]
  refine wpAnyH_done (by kernel_rfl) ?_ _
  clear HD HS HL0 HL1
  go_wp2_with fail
  go_ret
  exact ⟨rfl, HQ.out.2⟩
end Go.Proofs.Ytjpcbmfnjifgfaa
