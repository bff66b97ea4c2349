/-
  The walk over the document's Grow, where the first lists end on the right; and all of it.
-/
import Derived.Test.YtoknjhpdbigbhaaDoorGrl
namespace Go.Proofs.YtoknjhpdbigbhaaDoor
open Go.RowKit
set_option linter.unusedVariables false
theorem rgrow_r_eq {n k m : Nat} {whole : Bool} {old : List Nat} {way : Ds} (h2 : 2 ≤ n) (hm : m ≠ n) (hk : Mk.half n = k) (hik : ¬ m ≤ k) : growS old m n whole way = match growS old (m - k) (n - k) false way with
      | some (x, y, s :: r) => some (nodeS s x, nodeS s y, r)
      | _ => none := by
  subst hk
  exact Mk.grow_right _ _ _ _ _ _ h2 hm hik
set_option maxRecDepth 100000 in
set_option maxHeartbeats 8000000 in
theorem rgrow_r (B n k m : Nat) (whole : Bool) (ih : GIH n) (old : List Nat) (a : Option Addr) (l cap : Nat) (way : Ds) (w : World) (h1 : 1 ≤ m) (hm : m < n) (hn : n ≤ 9223372036854775807) (hk : Mk.half n = k) (hik : ¬ m ≤ k) (ho : D32 old) (hr : DR w a l way) (hlc : l ≤ cap) (hcm : cap ≤ 9223372036854775807) (hab : ∀ b, blkOf a = some b → b < B) (hB : B ≤ w.heap.size) :
    Calls Tryd.prog 36 #[.agg (cellsOf old).toArray, .int .i64 (m : Int), .int .i64 (n : Int), .bool whole, .slice a l cap] w (GrowRet B old m n whole way w) := by
  have hk0 : 0 < k := by rw [← hk]; exact Mk.half_pos n
  have hkn : k < n := by rw [← hk]; exact Mk.half_lt n (by omega)
  have HH := Lib.hid (fun W => rhalf_c n W (by omega) (by omega))
  rw [hk] at HH
  have q0 : ¬ (m : Int) = (n : Int) := by omega
  have q0' : ¬ m = n := by omega
  have q2 : ¬ (m : Int) ≤ (k : Int) := by omega
  have HEQ := Lib.hid (rgrow_r_eq (old := old) (whole := whole) (way := way) (by omega) (by omega) hk hik)
  have HIN := Lib.hid (show ∀ W, Below w.heap.size w W → Calls Tryd.prog 36 #[.agg (cellsOf old).toArray, .int .i64 ((m - k : Nat) : Int), .int .i64 ((n - k : Nat) : Int), .bool false, .slice a l cap] W (GrowRet B old (m - k) (n - k) false way W) from fun W hW => ih B (n - k) (by omega) old (m - k) false a l cap way W (by omega) (by omega) ho (hr.below hW) hlc hcm hab (Nat.le_trans hB hW.size))
  have HAB := Lib.hid hab
  have HI := Lib.hid (info32 dtR ho)
  have hz : D32 zs32 := ⟨zs32_len, by decide⟩
  have HIZ := Lib.hid (info32 dtR hz)
  clear ih hr hab hk ho
  go_enter Tryd.func36, Tryd.ntmps36
  go_upto_region 1 with fail
  refine gen_code (F := G2 w old noC) (G2.new w old _ (by kernel_rfl)) ?_
  intro wA hc
  have HCA := Lib.hid hc
  have HGA := Lib.hid (show w.heap.size + 1 < wA.heap.size from hc.2.1.lt)
  clear hc
  go_upto_region 9 with (first | (go_at_call 30; refine (HH.out _).mono ?_; rintro e wb ⟨rfl, rfl⟩) | (refine wpList_buildTo (by rfl) 70 _ (by rfl) (some 37) (by rfl) noC (by simp only [List.map_toArray, List.map_nil]; exact built_none) ?_) | (refine wpList_storeB wA.heap.size noC noC (.tmp 12) (.tmp 37) (by exact rfl) (by exact rfl) (by exact rfl) (by exact rfl) (by exact heap_newB _ _ (by kernel_rfl)) info_no (by rfl) noC_one ?_))
  obtain ⟨g, hg⟩ : ∃ g, g = wA.heap.size := ⟨_, rfl⟩
  refine gen_code (F := G3 w old noC g noC) (by rw [hg]; exact G3.lay HCA.out _ (by kernel_rfl)) ?_
  rw [← hg]
  rw [← hg] at HGA
  intro wC hc
  have HC := Lib.hid hc.1
  have HC3 := Lib.hid hc
  have hg1 : w.heap.size + 1 < g := HGA.out
  clear hc HCA HGA hg
  have s1 : (n : Int) - (k : Int) = ((n - k : Nat) : Int) := by omega
  have s2 : (m : Int) - (k : Int) = ((m - k : Nat) : Int) := by omega
  go_wp2_with (first | (refine wpList_load_row (by rfl) 31 _ (by rfl) w.heap.size (by rfl) _ (cellsOf old).toArray (0, 0) _ HC.out.1 Tryd.underlying31 (by rfl) HI.out ?_))
  refine (HIN.out _ HC.out.2.2).mono ?_
  rintro e w1 ⟨hb1, ⟨hu, rfl⟩ | ⟨x, y, rest, ra, rl, rc, hu, hx, hy, hrr, hrc, hrcm, hrb, rfl⟩⟩
  · have HC1 := Lib.hid (HC3.out.below hb1)
    have HU := Lib.hid (show growS old m n whole way = none from by rw [HEQ.out, hu])
    have HCI := Lib.hid info_no
    have HCO := Lib.hid noC_one
    clear hb1 hu HEQ HC HC3
    go_upto_region 12 with (first | (refine wpList_storeB g noC noC (.tmp 12) (.tmp 55) (by exact rfl) (by exact rfl) (by exact rfl) (by exact rfl) HC1.out.2 HCI.out (by exact rfl) HCO.out ?_))
    refine gen_code (F := G3 w old noC g noC) (HC1.out.put hg1 _) ?_
    intro w2 hc
    have HC2 := Lib.hid hc
    have hok := BR.okc (x := zs32) (y := zs32) (v := .slice none 0 0) (b := false) hc.2 hz hz
    clear hc HC1
    go_wp2_with (first | (refine wpList_buildTo (by rfl) 70 _ (by rfl) (some 65) (by rfl) noC (by simp only [List.map_toArray, List.map_nil]; exact built_none) ?_) | (refine wpList_storeB (w.heap.size + 1) noC noC (.tmp 10) (.tmp 65) (by exact rfl) (by exact rfl) (by exact rfl) (by exact rfl) HC2.out.1.2.1 info_no (by rfl) noC_one ?_))
    refine bodyPost_ret (results_cell_row (by rfl) _ _ (w.heap.size + 1) _ noC (0, 0) _ (by rfl) (HC2.out.1.setRow noC).2.1 Tryd.underlying70 (by rfl) info_no) ?_ ?_
    · rfl
    · exact ⟨(HC2.out.1.setRow _).2.2, .inl ⟨HU.out, rfl⟩⟩
  have HC1 := Lib.hid (HC3.out.below hb1)
  have HX := Lib.hid hx
  have HY := Lib.hid hy
  have HRB := Lib.hid hrb
  have HCI := Lib.hid (info_bothC hx hy (.slice ra rl rc) true)
  have HCS := Lib.hid (show noC.size = (bothC x y (.slice ra rl rc) true).size from by rw [bothC_size hx hy, noC_size])
  have HCO := Lib.hid (bothC_one x y ra rl rc true)
  cases rest with
  | nil =>
    obtain rfl : rl = 0 := by rw [← hrr.1]; rfl
    have HU := Lib.hid (show growS old m n whole way = none from by rw [HEQ.out, hu])
    clear hb1 hu HEQ HC HC3 hx hy hrr hrb
    go_upto_region 12 with (first | (refine wpList_storeB g (bothC x y (.slice ra 0 rc) true) noC (.tmp 12) (.tmp 55) (by exact rfl) (by exact rfl) (by exact rfl) (by exact rfl) HC1.out.2 HCI.out HCS.out HCO.out ?_))
    refine gen_code (F := G3 w old noC g (bothC x y (.slice ra 0 rc) true)) (HC1.out.put hg1 _) ?_
    intro w2 hc
    have HC2 := Lib.hid hc
    have hok := hc.2.okc HX.out HY.out
    have hrs := hc.2.restc HX.out HY.out
    clear hc HC1
    go_wp2_with (first | (refine wpList_buildTo (by rfl) 70 _ (by rfl) (some 65) (by rfl) noC (by simp only [List.map_toArray, List.map_nil]; exact built_none) ?_) | (refine wpList_storeB (w.heap.size + 1) noC noC (.tmp 10) (.tmp 65) (by exact rfl) (by exact rfl) (by exact rfl) (by exact rfl) HC2.out.1.2.1 info_no (by rfl) noC_one ?_))
    refine bodyPost_ret (results_cell_row (by rfl) _ _ (w.heap.size + 1) _ noC (0, 0) _ (by rfl) (HC2.out.1.setRow noC).2.1 Tryd.underlying70 (by rfl) info_no) ?_ ?_
    · rfl
    · exact ⟨(HC2.out.1.setRow _).2.2, .inl ⟨HU.out, rfl⟩⟩
  | cons s r =>
    have hrl : 0 < rl := by rw [← hrr.1]; simp
    have HU := Lib.hid (show growS old m n whole way = some (nodeS s x, nodeS s y, r) from by rw [HEQ.out, hu])
    have HSD := Lib.hid (show D32 s from hrr.2.1 s (by simp))
    obtain ⟨rb, ro, rfl, _, _⟩ := hrr.at 0 hrl
    have HRR := Lib.hid hrr
    have HSI := Lib.hid (info32 dtR HSD.out)
    have HSZ := Lib.hid (zsize HSD.out)
    clear hb1 hu HEQ HC HC3 hx hy hrr hrb
    go_upto_region 12 with (first | (refine wpList_storeB g (bothC x y (.slice (some ⟨rb, ro, none⟩) rl rc) true) noC (.tmp 12) (.tmp 55) (by exact rfl) (by exact rfl) (by exact rfl) (by exact rfl) HC1.out.2 HCI.out HCS.out HCO.out ?_))
    obtain ⟨CX, hCX⟩ : ∃ CX, CX = (bothC x y (.slice (some ⟨rb, ro, none⟩) rl rc) true) := ⟨_, rfl⟩
    have hBR : ∀ W, BR W g CX → BR W g (bothC x y (.slice (some ⟨rb, ro, none⟩) rl rc) true) := fun W h => by rw [← hCX]; exact h
    refine gen_code (F := fun W => G3 w old noC g CX W ∧ DR W (some ⟨rb, ro, none⟩) rl (s :: r)) ⟨by rw [← hCX]; exact HC1.out.put hg1 _, HRR.out.onlyB HRB.out (by omega) ((Only.refl g _).setRow _)⟩ ?_
    rintro w2 ⟨hc, hd⟩
    have HBRX := Lib.hid hBR
    clear hBR hCX
    have HC2 := Lib.hid hc
    have HD2 := Lib.hid hd
    have hok := (HBRX.out _ hc.2).okc HX.out HY.out
    have hrs := (HBRX.out _ hc.2).restc HX.out HY.out
    have q5 : ¬ rl = 0 := by omega
    have kI : ∀ W, (Instr.indexAt 22 (.slice (some ⟨rb, ro, none⟩) rl rc) (.int .i64 0)).run Tryd.prog W = .ok (.pointer (some ⟨rb, ro, none⟩)) W := fun W => by have := run_dindex dtR W rb ro rl rc 0 hrl; simpa using this
    have HLS := Lib.hid (run_dload dtR w2 rb ro s HSD.out (by
      obtain ⟨b', o', h1, _, h3⟩ := hd.at 0 hrl
      simp only [Option.some.injEq, Addr.mk.injEq, and_true] at h1
      obtain ⟨rfl, rfl⟩ := h1
      simpa using h3))
    clear hc hd HC1 HRR
    go_upto_region 15 with (first | (refine wpList_loadg 31 _ (by rfl) (by rfl) (.pointer (some ⟨rb, ro, none⟩)) (by rfl) (.agg (cellsOf s).toArray) HLS.out ?_) | (refine wpList_store_row (by rfl) 31 _ _ (by rfl) w2.heap.size (cellsOf s).toArray (by rfl) (by rfl) 31 (cellsOf zs32).toArray (by exact heap_new _ _) HSI.out HSZ.out (cellsOf_all _) ?_))
    have K3 := Lib.hid (fun (O : Obj) (hO : O = .cells (cellsOf zs32).toArray 31 (0, 0)) => show G3 w old noC g CX ((w2.alloc O).setRow w2.heap.size (cellsOf s).toArray) ∧ Brow ((w2.alloc O).setRow w2.heap.size (cellsOf s).toArray) w2.heap.size 31 s ∧ DR ((w2.alloc O).setRow w2.heap.size (cellsOf s).toArray) (some ⟨rb, ro, none⟩) rl (s :: r) from by
      subst hO
      have hb : Below w2.heap.size w2 ((w2.alloc (.cells (cellsOf zs32).toArray 31 (0, 0))).setRow w2.heap.size (cellsOf s).toArray) := ((Below.refl _ _).alloc (Nat.le_refl _) _).setRow (Nat.le_refl _) _
      exact ⟨HC2.out.below hb, (Brow.new w2 31 zs32).setRow, HD2.out.below hb⟩)
    obtain ⟨g13, hg13⟩ : ∃ g13, g13 = w2.heap.size := ⟨_, rfl⟩
    have hgg : g < g13 := by rw [hg13]; exact HC2.out.2.lt
    rw [← hg13] at K3 ⊢
    refine gen_code (F := fun W => G3 w old noC g CX W ∧ Brow W g13 31 s ∧ DR W (some ⟨rb, ro, none⟩) rl (s :: r)) (by rw [hg13]; rw [hg13] at K3; exact K3.out _ rfl) ?_
    rintro w3 ⟨hc, hs, hd⟩
    have HC := Lib.hid hc.1.drew
    have HC0 := noC_size
    have HS := Lib.hid (show GX w old g CX g13 s (some ⟨rb, ro, none⟩) rl (s :: r) w3.drew from ⟨⟨noC, noC_size, hc.1.drew⟩, hc.2.drew, hs.drew, hd⟩)
    clear hc hs hd K3 HC2 HD2 hg13 hok hrs kI HLS
    go_upto_region 17 with fail
    (try dsimp only [Act.put, List.setIfInBounds_toArray, List.set_cons_zero, List.set_cons_succ])
    have HL0 := Lib.hid (fun W (hW : GX w old g CX g13 s (some ⟨rb, ro, none⟩) rl (s :: r) W) => (HBRX.out W hW.2.1).lfirst HX.out)
    have HL1 := Lib.hid (fun W (hW : GX w old g CX g13 s (some ⟨rb, ro, none⟩) rl (s :: r) W) => (HBRX.out W hW.2.1).lsecond HX.out HY.out)
    have HL2 := Lib.hid (fun W (hW : GX w old g CX g13 s (some ⟨rb, ro, none⟩) rl (s :: r) W) => (HBRX.out W hW.2.1).lrest HX.out HY.out)
    have HLS := Lib.hid (fun W (hW : GX w old g CX g13 s (some ⟨rb, ro, none⟩) rl (s :: r) W) => run_dload dtR W g13 0 s HSD.out hW.2.2.1.range)
    obtain ⟨N, hN⟩ : ∃ N, N = nodeS s y := ⟨_, rfl⟩
    obtain ⟨M, hM⟩ : ∃ M, M = nodeS s x := ⟨_, rfl⟩
    rw [← hN, ← hM] at HU
    have HN := Lib.hid (show D32 N from by rw [hN]; exact d32_sum _)
    have HM := Lib.hid (show D32 M from by rw [hM]; exact d32_sum _)
    have HNODE := Lib.hid (fun W => rnode_c s y W HSD.out HY.out)
    have HMODE := Lib.hid (fun W => rnode_c s x W HSD.out HX.out)
    unfold nodeS at hN hM
    rw [show nodeS s y = N from by rw [hN]; rfl] at HNODE
    rw [show nodeS s x = M from by rw [hM]; rfl] at HMODE
    clear hN hM
    have HBI := Lib.hid (info_bothC HM.out HN.out (.slice (sld (some ⟨rb, ro, none⟩) rc 1) (rl - 1) (rc - 1)) true)
    refine anyH_begin (S := GX w old g CX g13 s (some ⟨rb, ro, none⟩) rl (s :: r)) (by kernel_rfl) ?_
    refine anyH_loadG 0 (d := 83) (ty := 31) (x := (.tmp 13)) (gd := none) (p := .pointer (some ⟨g13, 0, none⟩)) (.agg (cellsOf s).toArray) (by rfl) (fun o ho => wanted_plain ho _) (by kernel_rfl) (by kernel_rfl) (by kernel_rfl) (fun _ _ _ h => h) (by rfl) HLS.out HS.out ?_
    simp only [Act.put, List.setIfInBounds_toArray, List.set_cons_zero, List.set_cons_succ]
    refine anyH_pureG 1 (d := 84) (op := .fieldAddr 70 (.tmp 12) 0) (gd := none) (.pointer (some ⟨g, 0, none⟩)) (by rfl) (fun o ho => wanted_plain ho _) (by kernel_rfl) (by kernel_rfl) (by kernel_rfl) (fun _ _ _ h => h) (fun o ho W hW => by unfold execOp; simp only [ho]; go_simp) HS.out ?_
    simp only [Act.put, List.setIfInBounds_toArray, List.set_cons_zero, List.set_cons_succ]
    refine anyH_loadG 2 (d := 85) (ty := 31) (x := (.tmp 84)) (gd := none) (p := .pointer (some ⟨g, 0, none⟩)) (.agg (cellsOf x).toArray) (by rfl) (fun o ho => wanted_plain ho _) (by kernel_rfl) (by kernel_rfl) (by kernel_rfl) (fun _ _ _ h => h) (by rfl) HL0.out HS.out ?_
    simp only [Act.put, List.setIfInBounds_toArray, List.set_cons_zero, List.set_cons_succ]
    refine anyH_loadG 4 (d := 87) (ty := 31) (x := (.tmp 13)) (gd := none) (p := .pointer (some ⟨g13, 0, none⟩)) (.agg (cellsOf s).toArray) (by rfl) (fun o ho => wanted_plain ho _) (by kernel_rfl) (by kernel_rfl) (by kernel_rfl) (fun _ _ _ h => h) (by rfl) HLS.out HS.out ?_
    simp only [Act.put, List.setIfInBounds_toArray, List.set_cons_zero, List.set_cons_succ]
    refine anyH_pureG 5 (d := 88) (op := .fieldAddr 70 (.tmp 12) 1) (gd := none) (.pointer (some ⟨g, 32, none⟩)) (by rfl) (fun o ho => wanted_plain ho _) (by kernel_rfl) (by kernel_rfl) (by kernel_rfl) (fun _ _ _ h => h) (fun o ho W hW => by unfold execOp; simp only [ho]; go_simp) HS.out ?_
    simp only [Act.put, List.setIfInBounds_toArray, List.set_cons_zero, List.set_cons_succ]
    refine anyH_loadG 6 (d := 89) (ty := 31) (x := (.tmp 88)) (gd := none) (p := .pointer (some ⟨g, 32, none⟩)) (.agg (cellsOf y).toArray) (by rfl) (fun o ho => wanted_plain ho _) (by kernel_rfl) (by kernel_rfl) (by kernel_rfl) (fun _ _ _ h => h) (by rfl) HL1.out HS.out ?_
    simp only [Act.put, List.setIfInBounds_toArray, List.set_cons_zero, List.set_cons_succ]
    refine anyH_pureG 8 (d := 91) (op := .fieldAddr 70 (.tmp 12) 2) (gd := none) (.pointer (some ⟨g, 64, none⟩)) (by rfl) (fun o ho => wanted_plain ho _) (by kernel_rfl) (by kernel_rfl) (by kernel_rfl) (fun _ _ _ h => h) (fun o ho W hW => by unfold execOp; simp only [ho]; go_simp) HS.out ?_
    simp only [Act.put, List.setIfInBounds_toArray, List.set_cons_zero, List.set_cons_succ]
    refine anyH_loadG 9 (d := 92) (ty := 22) (x := (.tmp 91)) (gd := none) (p := .pointer (some ⟨g, 64, none⟩)) (.slice (some ⟨rb, ro, none⟩) rl rc) (by rfl) (fun o ho => wanted_plain ho _) (by kernel_rfl) (by kernel_rfl) (by kernel_rfl) (fun _ _ _ h => h) (by rfl) HL2.out HS.out ?_
    simp only [Act.put, List.setIfInBounds_toArray, List.set_cons_zero, List.set_cons_succ]
    refine anyH_dcut dtR 10 (d := 93) (x := .tmp 92) (y := .const (.int .i64 1)) (some ⟨rb, ro, none⟩) rl rc 1 (by omega) (by rfl) (by kernel_rfl) (by kernel_rfl) (by kernel_rfl) (fun _ _ _ h => h) (by rfl) (by rfl) HS.out ?_
    simp only [Act.put, List.setIfInBounds_toArray, List.set_cons_zero, List.set_cons_succ]
    refine anyH_callG 3 (d := some 86) (f := 20) (xs := #[(.tmp 83), (.tmp 85)]) (ts := #[31, 31]) (gd := none) (vs := #[.agg (cellsOf s).toArray, .agg (cellsOf x).toArray]) (by kernel_rfl) (by rfl) (fun o ho => wanted_plain ho _) (by go_simp) (by go_simp) (HMODE.out _) ?_
    rintro e91 w91 ⟨rfl, hb91⟩
    refine ⟨_, rfl, HS.out.step hb91, fun hS91 => ?_⟩
    have HS := Lib.hid hS91
    have HC := Lib.hid (HC.out.below hb91)
    clear hS91 hb91
    simp only [Act.put, List.setIfInBounds_toArray, List.set_cons_zero, List.set_cons_succ]
    refine anyH_callG 7 (d := some 90) (f := 20) (xs := #[(.tmp 87), (.tmp 89)]) (ts := #[31, 31]) (gd := none) (vs := #[.agg (cellsOf s).toArray, .agg (cellsOf y).toArray]) (by kernel_rfl) (by rfl) (fun o ho => wanted_plain ho _) (by go_simp) (by go_simp) (HNODE.out _) ?_
    rintro e92 w92 ⟨rfl, hb92⟩
    refine ⟨_, rfl, HS.out.step hb92, fun hS92 => ?_⟩
    have HS := Lib.hid hS92
    have HC := Lib.hid (HC.out.below hb92)
    clear hS92 hb92
    simp only [Act.put, List.setIfInBounds_toArray, List.set_cons_zero, List.set_cons_succ]
    refine anyH_pureG 11 (d := 94) (op := .build 70 #[(0, (.tmp 86)), (1, (.tmp 90)), (2, (.tmp 93)), (3, (.const (.bool true)))]) (gd := none) (.agg (bothC M N (.slice (sld (some ⟨rb, ro, none⟩) rc 1) (rl - 1) (rc - 1)) true)) (by rfl) (fun o ho => wanted_plain ho _) (by kernel_rfl) (by kernel_rfl) (by kernel_rfl) (fun _ _ _ h => h) (fun o ho W hW => exec_both HM.out HN.out _ _ _ _ (p := (.tmp 86)) (q := (.tmp 90)) (r := (.tmp 93)) _ (by rfl) (by rfl) (by rfl) o ho W) HS.out ?_
    simp only [Act.put, List.setIfInBounds_toArray, List.set_cons_zero, List.set_cons_succ]
    refine anyH_op 12 (d := none) (op := .store 70 (.tmp 10) (.tmp 94)) (by kernel_rfl) (by rfl) ?_
    intro o1 hod hoo
    refine wp_store_mid 70 (.tmp 10) (.tmp 94) hoo (w.heap.size + 1) 0 (bothC M N (.slice (sld (some ⟨rb, ro, none⟩) rc 1) (rl - 1) (rc - 1)) true) (by exact rfl) (by exact rfl) (HC.out.2.1.there _ (by rw [bothC_size HM.out HN.out, HC0])) HBI.out (bothC_one _ _ _ _ _ _) ?_
    rw [hod]
    have HO := Lib.hid (Only.setCells (bothC M N (.slice (sld (some ⟨rb, ro, none⟩) rc 1) (rl - 1) (rc - 1)) true).toList 0 (Only.refl (w.heap.size + 1) w92))
    have HC2 := Lib.hid (HC.out.set (bothC M N (.slice (sld (some ⟨rb, ro, none⟩) rc 1) (rl - 1) (rc - 1)) true) (by rw [bothC_size HM.out HN.out, HC0]))
    have HR3 := Lib.hid (HS.out.2.2.2.onlyB HRB.out (by omega) HO.out)
    have HS2 := Lib.hid (show GX w old g CX g13 s (some ⟨rb, ro, none⟩) rl (s :: r) _ from ⟨⟨(bothC M N (.slice (sld (some ⟨rb, ro, none⟩) rc 1) (rl - 1) (rc - 1)) true), bothC_size HM.out HN.out _ _, HC2.out⟩, HS.out.2.1.only HO.out (by omega), HS.out.2.2.1.only HO.out (by omega), HR3.out⟩)
    refine ⟨HS2.out, ?_⟩
    clear HS HO hod hoo HC
    simp only [Act.put]
    refine wpAnyH_done (by kernel_rfl) ?_ _
    refine gen_exit (F := fun W => G2 w old (bothC M N (.slice (sld (some ⟨rb, ro, none⟩) rc 1) (rl - 1) (rc - 1)) true) W ∧ DR W (some ⟨rb, ro, none⟩) rl (s :: r)) ⟨HC2.out, HR3.out⟩ ?_
    rintro wF ⟨hcf, hrf⟩
    have HF := Lib.hid hcf
    have HRF := Lib.hid (show DR wF (sld (some ⟨rb, ro, none⟩) rc 1) (rl - 1) r from hrf.drop rc 1 (by omega) hrc)
    clear hcf hrf HC2 HS2 HR3
    go_wp2
    refine bodyPost_ret (results_cell_row (by rfl) _ _ (w.heap.size + 1) _ (bothC M N (.slice (sld (some ⟨rb, ro, none⟩) rc 1) (rl - 1) (rc - 1)) true) (0, 0) _ (by rfl) HF.out.2.1 Tryd.underlying70 (by rfl) HBI.out) ?_ ?_
    · rfl
    · exact ⟨HF.out.2.2, .inr ⟨_, _, r, _, _, _, HU.out, HM.out, HN.out, HRF.out, by omega, by omega, fun b hb => HRB.out b (by rw [sld_blk] at hb; exact hb), rfl⟩⟩
theorem rgrow_c : ∀ (n : Nat), n ≤ 9223372036854775807 → GIH (n + 1) := by
  intro n
  induction n using Nat.strongRecOn with
  | ind n ih =>
    intro hn B q hq old m whole a l cap way w h1 hm ho hr hlc hcm hab hB
    by_cases hqn : q < n
    · exact ih (q) hqn (by omega) B q (by omega) old m whole a l cap way w h1 hm ho hr hlc hcm hab hB
    obtain rfl : q = n := by omega
    by_cases he : m = q
    · subst he
      cases whole with
      | true => exact rgrow_whole B m old a l cap way w ho hr hlc hcm hab hB
      | false =>
        cases way with
        | nil =>
          obtain rfl : l = 0 := by rw [← hr.1]; rfl
          exact rgrow_none B m old a cap w
        | cons x rest => exact rgrow_one B m old a l cap x rest w hr hlc hcm hab hB
    · have ih' : GIH q := by
        intro B p hp old m whole a l cap way w h1 hm
        exact ih p hp (by omega) B p (by omega) old m whole a l cap way w h1 hm
      by_cases hik : m ≤ Mk.half q
      · exact rgrow_l B q _ m whole ih' old a l cap way w h1 (by omega) hn rfl hik ho hr hlc hcm hab hB
      · exact rgrow_r B q _ m whole ih' old a l cap way w h1 (by omega) hn rfl hik ho hr hlc hcm hab hB
end Go.Proofs.YtoknjhpdbigbhaaDoor
