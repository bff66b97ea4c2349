/-
  The walk over ChainSteps.
-/
import Derived.Test.YtealeefkeikcbabDoorAwc
namespace Go.Proofs.YtealeefkeikcbabDoor
open Go.RowKit
set_option linter.unusedVariables false
theorem eqA (W : World) {a : List Nat} (ha : D32 a) : (Op.equalIn 10000 25 (.agg (cellsOf a).toArray) (.agg (cellsOf a).toArray)).run Tryd.prog W = .ok true W := by
  simpa using eq_dig 25 32 Tryd.underlying25 W a a ha.1 ha.1 ha.2 ha.2
theorem eqAA (W : World) {a b : List Nat} (ha : D32 a) (hb : D32 b) : (Op.equalIn 10000 25 (.agg (cellsOf a).toArray) (.agg (cellsOf b).toArray)).run Tryd.prog W = .ok (decide (a = b)) W := eq_dig 25 32 Tryd.underlying25 W a b ha.1 hb.1 ha.2 hb.2
theorem loadR (W : World) (g : Nat) (x : List Nat) (hx : D32 x) (h : Brow W g 22 x) : (Instr.loadAt 22 (.pointer (some ⟨g, 0, none⟩))).run Tryd.prog W = .ok (.agg (cellsOf x).toArray) W :=
  run_loadAt_mid W g 0 22 (cellsOf x) _ h.range Tryd.underlying22 rfl (by rw [cellsOf_length, hx.1]; exact info_a32)
theorem loadA (W : World) (g : Nat) (x : List Nat) (hx : D32 x) (h : Brow W g 25 x) : (Instr.loadAt 25 (.pointer (some ⟨g, 0, none⟩))).run Tryd.prog W = .ok (.agg (cellsOf x).toArray) W :=
  run_loadAt_mid W g 0 25 (cellsOf x) _ h.range Tryd.underlying25 rfl (by rw [cellsOf_length, hx.1]; exact info_dig)
theorem B1.drew {w W : World} {t : TypeId} {x : List Nat} (h : B1 w t x W) : B1 w t x W.drew := ⟨h.1.drew, h.2.drew⟩
set_option maxRecDepth 100000 in
set_option maxHeartbeats 2000000 in
theorem steps_c (x : List Nat) (key c s : Nat) (w : World) (hx : D32 x) (hk : key < 4294967296) (hc : c < 256) (hs : s < 256) (ht : Tab w) :
    Calls Tryd.prog 3 #[.agg (cellsOf x).toArray, .int .u32 (key : Int), .int .u8 (c : Int), .int .u8 (s : Int)] w fun e w' => e = .returned (.bool true) ∧ Below w.heap.size w w' := by
  have HX := Lib.hid hx
  have HT := Lib.hid ht
  have hpos := ht.pos
  clear hx ht
  go_enter Tryd.func3, Tryd.ntmps3
  go_upto_region 1 with fail
  refine gen_code (F := B1 w 22 x) (B1.new w _ _) ?_
  intro wA h
  have HS := Lib.hid h.drew
  clear h
  have HT' := Lib.hid (show ∀ W, B1 w 22 x W → Tab W from fun W hW => HT.out.below hW.2 hpos)
  obtain ⟨P, hP⟩ : ∃ P, P = Ch.secS x key c := ⟨_, rfl⟩
  obtain ⟨Q, hQ⟩ : ∃ Q, Q = Ch.stepS key c s x := ⟨_, rfl⟩
  have HPD := Lib.hid (show D32 P from by rw [hP]; exact Ch.d32_sec _ _ _)
  have HQD := Lib.hid (show D32 Q from by rw [hQ]; exact Ch.d32_step _ _ _ _)
  have HAW := Lib.hid (show ∀ W, B1 w 22 x W → Calls Tryd.prog 14 #[] W (fun e w' => e = .returned (.bool true) ∧ Below W.heap.size W w') from fun W hW => awake4_c W (HT'.out W hW))
  have HP1 := Lib.hid (show ∀ W, B1 w 22 x W → Calls Tryd.prog 15 #[.agg (cellsOf x).toArray, .int .u32 (key : Int), .int .u8 (c : Int)] W (DigRet P W) from fun W hW => by rw [hP]; exact secret_c x key c W HX.out hk hc (HT'.out W hW))
  have HP2 := Lib.hid (show ∀ W, Calls Tryd.prog 16 #[.agg (cellsOf x).toArray, .int .u32 (key : Int), .int .u8 (c : Int)] W (DigRet P W) from fun W => by rw [hP]; exact rsecret_c x key c W HX.out hk hc)
  have HQ1 := Lib.hid (show ∀ W, B1 w 22 x W → Calls Tryd.prog 17 #[.agg #[.int .u32 (key : Int), .int .u8 (c : Int), .int .u8 (s : Int)], .agg (cellsOf x).toArray] W (DigRet Q W) from fun W hW => by rw [hQ]; exact step_c key c s x W HX.out hk hc hs (HT'.out W hW))
  have HQ2 := Lib.hid (show ∀ W, Calls Tryd.prog 18 #[.int .u32 (key : Int), .int .u8 (c : Int), .int .u8 (s : Int), .agg (cellsOf x).toArray] W (DigRet Q W) from fun W => by rw [hQ]; exact rstep_c key c s x W HX.out hk hc hs)
  have HLD := Lib.hid (fun W (hW : B1 w 22 x W) => loadR W w.heap.size x HX.out hW.1)
  have HEP := Lib.hid (fun W => eqA W HPD.out)
  have HEQ := Lib.hid (fun W => eqA W HQD.out)
  have HGT := Lib.hid (show Tryd.prog.eqGuardType Tryd.prog.depth 25 = false by kernel_rfl)
  clear hP hQ
  refine anyH_begin (S := B1 w 22 x) (by kernel_rfl) ?_
  refine anyH_callG 0 (d := some 9) (f := 14) (xs := #[]) (ts := #[]) (gd := none) (vs := #[]) (by kernel_rfl) (by rfl) (fun o ho => wanted_plain ho _) (by go_simp) (by go_simp) (HAW.out _ HS.out) ?_
  rintro e91 w91 ⟨rfl, hb91⟩
  refine ⟨_, rfl, HS.out.below hb91, fun hS91 => ?_⟩
  have HS := Lib.hid hS91
  clear hS91 hb91
  simp only [Act.put, List.setIfInBounds_toArray, List.set_cons_zero, List.set_cons_succ]
  refine anyH_pureG 1 (d := 10) (op := .move (.tmp 9)) (gd := none) (.bool true) (by rfl) (fun o ho => wanted_plain ho _) (by kernel_rfl) (by kernel_rfl) (by kernel_rfl) (fun _ _ _ h => h) (fun o ho W hW => by unfold execOp; simp only [ho]; go_simp) HS.out ?_
  simp only [Act.put, List.setIfInBounds_toArray, List.set_cons_zero, List.set_cons_succ]
  refine anyH_loadG 2 (d := 11) (ty := 22) (x := (.tmp 4)) (gd := some (1, true)) (p := .pointer (some ⟨w.heap.size, 0, none⟩)) (.agg (cellsOf x).toArray) (by rfl) (fun o ho => by simp only [Region.wanted, ho]; rfl) (by kernel_rfl) (by kernel_rfl) (by kernel_rfl) (fun _ _ _ h => h) (by rfl) HLD.out HS.out ?_
  simp only [Act.put, List.setIfInBounds_toArray, List.set_cons_zero, List.set_cons_succ]
  refine anyH_pureG 3 (d := 12) (op := .move (.tmp 1)) (gd := some (1, true)) (.int .u32 (key : Int)) (by rfl) (fun o ho => by simp only [Region.wanted, ho]; rfl) (by kernel_rfl) (by kernel_rfl) (by kernel_rfl) (fun _ _ _ h => h) (fun o ho W hW => by unfold execOp; simp only [ho]; go_simp) HS.out ?_
  simp only [Act.put, List.setIfInBounds_toArray, List.set_cons_zero, List.set_cons_succ]
  refine anyH_pureG 4 (d := 13) (op := .move (.tmp 2)) (gd := some (1, true)) (.int .u8 (c : Int)) (by rfl) (fun o ho => by simp only [Region.wanted, ho]; rfl) (by kernel_rfl) (by kernel_rfl) (by kernel_rfl) (fun _ _ _ h => h) (fun o ho W hW => by unfold execOp; simp only [ho]; go_simp) HS.out ?_
  simp only [Act.put, List.setIfInBounds_toArray, List.set_cons_zero, List.set_cons_succ]
  refine anyH_loadG 6 (d := 15) (ty := 22) (x := (.tmp 4)) (gd := some (1, true)) (p := .pointer (some ⟨w.heap.size, 0, none⟩)) (.agg (cellsOf x).toArray) (by rfl) (fun o ho => by simp only [Region.wanted, ho]; rfl) (by kernel_rfl) (by kernel_rfl) (by kernel_rfl) (fun _ _ _ h => h) (by rfl) HLD.out HS.out ?_
  simp only [Act.put, List.setIfInBounds_toArray, List.set_cons_zero, List.set_cons_succ]
  refine anyH_pureG 7 (d := 16) (op := .move (.tmp 1)) (gd := some (1, true)) (.int .u32 (key : Int)) (by rfl) (fun o ho => by simp only [Region.wanted, ho]; rfl) (by kernel_rfl) (by kernel_rfl) (by kernel_rfl) (fun _ _ _ h => h) (fun o ho W hW => by unfold execOp; simp only [ho]; go_simp) HS.out ?_
  simp only [Act.put, List.setIfInBounds_toArray, List.set_cons_zero, List.set_cons_succ]
  refine anyH_pureG 8 (d := 17) (op := .move (.tmp 2)) (gd := some (1, true)) (.int .u8 (c : Int)) (by rfl) (fun o ho => by simp only [Region.wanted, ho]; rfl) (by kernel_rfl) (by kernel_rfl) (by kernel_rfl) (fun _ _ _ h => h) (fun o ho W hW => by unfold execOp; simp only [ho]; go_simp) HS.out ?_
  simp only [Act.put, List.setIfInBounds_toArray, List.set_cons_zero, List.set_cons_succ]
  refine anyH_callG 5 (d := some 14) (f := 15) (xs := #[(.tmp 11), (.tmp 12), (.tmp 13)]) (ts := #[25, 23, 5]) (gd := some (1, true)) (vs := #[.agg (cellsOf x).toArray, .int .u32 (key : Int), .int .u8 (c : Int)]) (by kernel_rfl) (by rfl) (fun o ho => by simp only [Region.wanted, ho]; rfl) (by go_simp) (by go_simp) (HP1.out _ HS.out) ?_
  rintro e92 w92 ⟨rfl, hb92⟩
  refine ⟨_, rfl, HS.out.below hb92, fun hS92 => ?_⟩
  have HS := Lib.hid hS92
  clear hS92 hb92
  simp only [Act.put, List.setIfInBounds_toArray, List.set_cons_zero, List.set_cons_succ]
  refine anyH_callG 9 (d := some 18) (f := 16) (xs := #[(.tmp 15), (.tmp 16), (.tmp 17)]) (ts := #[22, 23, 5]) (gd := some (1, true)) (vs := #[.agg (cellsOf x).toArray, .int .u32 (key : Int), .int .u8 (c : Int)]) (by kernel_rfl) (by rfl) (fun o ho => by simp only [Region.wanted, ho]; rfl) (by go_simp) (by go_simp) (HP2.out _) ?_
  rintro e93 w93 ⟨rfl, hb93⟩
  refine ⟨_, rfl, HS.out.below hb93, fun hS93 => ?_⟩
  have HS := Lib.hid hS93
  clear hS93 hb93
  simp only [Act.put, List.setIfInBounds_toArray, List.set_cons_zero, List.set_cons_succ]
  refine anyH_eqG 10 (d := 19) (t := 25) (t' := 25) (x := (.tmp 14)) (y := (.tmp 18)) (gd := some (1, true)) ((cellsOf P).toArray) ((cellsOf P).toArray) true (by rfl) (fun o ho => by simp only [Region.wanted, ho]; rfl) (by kernel_rfl) (by kernel_rfl) (by kernel_rfl) (fun _ _ _ h => h) (by rfl) (by rfl) HGT.out (fun W => HEP.out W) HS.out ?_
  simp only [Act.put, List.setIfInBounds_toArray, List.set_cons_zero, List.set_cons_succ]
  refine anyH_pureG 11 (d := 20) (op := .pick (.tmp 10) (.tmp 19) (.const (.bool false))) (gd := none) (.bool true) (by rfl) (fun o ho => wanted_plain ho _) (by kernel_rfl) (by kernel_rfl) (by kernel_rfl) (fun _ _ _ h => h) (fun o ho W hW => by unfold execOp; simp only [ho]; go_simp) HS.out ?_
  simp only [Act.put, List.setIfInBounds_toArray, List.set_cons_zero, List.set_cons_succ]
  refine anyH_pureG 12 (d := 21) (op := .move (.tmp 20)) (gd := none) (.bool true) (by rfl) (fun o ho => wanted_plain ho _) (by kernel_rfl) (by kernel_rfl) (by kernel_rfl) (fun _ _ _ h => h) (fun o ho W hW => by unfold execOp; simp only [ho]; go_simp) HS.out ?_
  simp only [Act.put, List.setIfInBounds_toArray, List.set_cons_zero, List.set_cons_succ]
  refine anyH_pureG 13 (d := 22) (op := .move (.tmp 1)) (gd := some (12, true)) (.int .u32 (key : Int)) (by rfl) (fun o ho => by simp only [Region.wanted, ho]; rfl) (by kernel_rfl) (by kernel_rfl) (by kernel_rfl) (fun _ _ _ h => h) (fun o ho W hW => by unfold execOp; simp only [ho]; go_simp) HS.out ?_
  simp only [Act.put, List.setIfInBounds_toArray, List.set_cons_zero, List.set_cons_succ]
  refine anyH_pureG 14 (d := 23) (op := .move (.tmp 2)) (gd := some (12, true)) (.int .u8 (c : Int)) (by rfl) (fun o ho => by simp only [Region.wanted, ho]; rfl) (by kernel_rfl) (by kernel_rfl) (by kernel_rfl) (fun _ _ _ h => h) (fun o ho W hW => by unfold execOp; simp only [ho]; go_simp) HS.out ?_
  simp only [Act.put, List.setIfInBounds_toArray, List.set_cons_zero, List.set_cons_succ]
  refine anyH_pureG 15 (d := 24) (op := .move (.tmp 3)) (gd := some (12, true)) (.int .u8 (s : Int)) (by rfl) (fun o ho => by simp only [Region.wanted, ho]; rfl) (by kernel_rfl) (by kernel_rfl) (by kernel_rfl) (fun _ _ _ h => h) (fun o ho W hW => by unfold execOp; simp only [ho]; go_simp) HS.out ?_
  simp only [Act.put, List.setIfInBounds_toArray, List.set_cons_zero, List.set_cons_succ]
  refine anyH_pureG 16 (d := 25) (op := .build 30 #[(0, (.tmp 22)), (1, (.tmp 23)), (2, (.tmp 24))]) (gd := some (12, true)) (.agg #[.int .u32 (key : Int), .int .u8 (c : Int), .int .u8 (s : Int)]) (by rfl) (fun o ho => by simp only [Region.wanted, ho]; rfl) (by kernel_rfl) (by kernel_rfl) (by kernel_rfl) (fun _ _ _ h => h) (fun o ho W hW => by unfold execOp; simp only [ho]; go_simp) HS.out ?_
  simp only [Act.put, List.setIfInBounds_toArray, List.set_cons_zero, List.set_cons_succ]
  refine anyH_loadG 17 (d := 26) (ty := 22) (x := (.tmp 4)) (gd := some (12, true)) (p := .pointer (some ⟨w.heap.size, 0, none⟩)) (.agg (cellsOf x).toArray) (by rfl) (fun o ho => by simp only [Region.wanted, ho]; rfl) (by kernel_rfl) (by kernel_rfl) (by kernel_rfl) (fun _ _ _ h => h) (by rfl) HLD.out HS.out ?_
  simp only [Act.put, List.setIfInBounds_toArray, List.set_cons_zero, List.set_cons_succ]
  refine anyH_pureG 19 (d := 28) (op := .move (.tmp 1)) (gd := some (12, true)) (.int .u32 (key : Int)) (by rfl) (fun o ho => by simp only [Region.wanted, ho]; rfl) (by kernel_rfl) (by kernel_rfl) (by kernel_rfl) (fun _ _ _ h => h) (fun o ho W hW => by unfold execOp; simp only [ho]; go_simp) HS.out ?_
  simp only [Act.put, List.setIfInBounds_toArray, List.set_cons_zero, List.set_cons_succ]
  refine anyH_pureG 20 (d := 29) (op := .move (.tmp 2)) (gd := some (12, true)) (.int .u8 (c : Int)) (by rfl) (fun o ho => by simp only [Region.wanted, ho]; rfl) (by kernel_rfl) (by kernel_rfl) (by kernel_rfl) (fun _ _ _ h => h) (fun o ho W hW => by unfold execOp; simp only [ho]; go_simp) HS.out ?_
  simp only [Act.put, List.setIfInBounds_toArray, List.set_cons_zero, List.set_cons_succ]
  refine anyH_pureG 21 (d := 30) (op := .move (.tmp 3)) (gd := some (12, true)) (.int .u8 (s : Int)) (by rfl) (fun o ho => by simp only [Region.wanted, ho]; rfl) (by kernel_rfl) (by kernel_rfl) (by kernel_rfl) (fun _ _ _ h => h) (fun o ho W hW => by unfold execOp; simp only [ho]; go_simp) HS.out ?_
  simp only [Act.put, List.setIfInBounds_toArray, List.set_cons_zero, List.set_cons_succ]
  refine anyH_loadG 22 (d := 31) (ty := 22) (x := (.tmp 4)) (gd := some (12, true)) (p := .pointer (some ⟨w.heap.size, 0, none⟩)) (.agg (cellsOf x).toArray) (by rfl) (fun o ho => by simp only [Region.wanted, ho]; rfl) (by kernel_rfl) (by kernel_rfl) (by kernel_rfl) (fun _ _ _ h => h) (by rfl) HLD.out HS.out ?_
  simp only [Act.put, List.setIfInBounds_toArray, List.set_cons_zero, List.set_cons_succ]
  refine anyH_callG 18 (d := some 27) (f := 17) (xs := #[(.tmp 25), (.tmp 26)]) (ts := #[30, 25]) (gd := some (12, true)) (vs := #[.agg #[.int .u32 (key : Int), .int .u8 (c : Int), .int .u8 (s : Int)], .agg (cellsOf x).toArray]) (by kernel_rfl) (by rfl) (fun o ho => by simp only [Region.wanted, ho]; rfl) (by go_simp) (by go_simp) (HQ1.out _ HS.out) ?_
  rintro e94 w94 ⟨rfl, hb94⟩
  refine ⟨_, rfl, HS.out.below hb94, fun hS94 => ?_⟩
  have HS := Lib.hid hS94
  clear hS94 hb94
  simp only [Act.put, List.setIfInBounds_toArray, List.set_cons_zero, List.set_cons_succ]
  refine anyH_callG 23 (d := some 32) (f := 18) (xs := #[(.tmp 28), (.tmp 29), (.tmp 30), (.tmp 31)]) (ts := #[23, 5, 5, 22]) (gd := some (12, true)) (vs := #[.int .u32 (key : Int), .int .u8 (c : Int), .int .u8 (s : Int), .agg (cellsOf x).toArray]) (by kernel_rfl) (by rfl) (fun o ho => by simp only [Region.wanted, ho]; rfl) (by go_simp) (by go_simp) (HQ2.out _) ?_
  rintro e95 w95 ⟨rfl, hb95⟩
  refine ⟨_, rfl, HS.out.below hb95, fun hS95 => ?_⟩
  have HS := Lib.hid hS95
  clear hS95 hb95
  simp only [Act.put, List.setIfInBounds_toArray, List.set_cons_zero, List.set_cons_succ]
  refine anyH_eqG 24 (d := 33) (t := 25) (t' := 25) (x := (.tmp 27)) (y := (.tmp 32)) (gd := some (12, true)) ((cellsOf Q).toArray) ((cellsOf Q).toArray) true (by rfl) (fun o ho => by simp only [Region.wanted, ho]; rfl) (by kernel_rfl) (by kernel_rfl) (by kernel_rfl) (fun _ _ _ h => h) (by rfl) (by rfl) HGT.out (fun W => HEQ.out W) HS.out ?_
  simp only [Act.put, List.setIfInBounds_toArray, List.set_cons_zero, List.set_cons_succ]
  refine anyH_pureG 25 (d := 34) (op := .pick (.tmp 21) (.tmp 33) (.const (.bool false))) (gd := none) (.bool true) (by rfl) (fun o ho => wanted_plain ho _) (by kernel_rfl) (by kernel_rfl) (by kernel_rfl) (fun _ _ _ h => h) (fun o ho W hW => by unfold execOp; simp only [ho]; go_simp) HS.out ?_
  simp only [Act.put, List.setIfInBounds_toArray, List.set_cons_zero, List.set_cons_succ]
  refine anyH_pureG 26 (d := 8) (op := .assign (.tmp 34)) (gd := none) (.bool true) (by rfl) (fun o ho => wanted_plain ho _) (by kernel_rfl) (by kernel_rfl) (by kernel_rfl) (fun _ _ _ h => h) (fun o ho W hW => by unfold execOp; simp only [ho]; go_simp) HS.out ?_
  simp only [Act.put, List.setIfInBounds_toArray, List.set_cons_zero, List.set_cons_succ]
  refine wpAnyH_done (by kernel_rfl) ?_ _
  go_wp2
  go_ret
  exact ⟨rfl, HS.out.2⟩
theorem csteps_c (x : List Nat) (key c s : Int) (w : World) (hx : D32 x) (hk : (Lit.int .u32 key).wf = true) (hc : (Lit.int .u8 c).wf = true) (hs : (Lit.int .u8 s).wf = true) (ht : Tab w) :
    Calls Tryd.prog 3 #[.agg (cellsOf x).toArray, .int .u32 key, .int .u8 c, .int .u8 s] w fun e w' => e = .returned (.bool true) ∧ Below w.heap.size w w' := by
  have h1 : 0 ≤ key ∧ key ≤ 4294967295 := by simpa [Lit.wf, IntKind.min, IntKind.max, IntKind.signed, IntKind.bits] using hk
  have h2 : 0 ≤ c ∧ c ≤ 255 := by simpa [Lit.wf, IntKind.min, IntKind.max, IntKind.signed, IntKind.bits] using hc
  have h3 : 0 ≤ s ∧ s ≤ 255 := by simpa [Lit.wf, IntKind.min, IntKind.max, IntKind.signed, IntKind.bits] using hs
  obtain ⟨k', rfl⟩ : ∃ k : Nat, key = (k : Int) := ⟨key.toNat, by omega⟩
  obtain ⟨c', rfl⟩ : ∃ k : Nat, c = (k : Int) := ⟨c.toNat, by omega⟩
  obtain ⟨s', rfl⟩ : ∃ k : Nat, s = (k : Int) := ⟨s.toNat, by omega⟩
  exact steps_c x k' c' s' w hx (by omega) (by omega) (by omega) ht
end Go.Proofs.YtealeefkeikcbabDoor
