/-
  The walk over MerkleApart.
-/
import Derived.Test.YtdcninfbpmhojaaDoorFdr
import Derived.Test.YtdcninfbpmhojaaDoorMpr
import Derived.Test.YtdcninfbpmhojaaDoorMck
namespace Go.Proofs.YtdcninfbpmhojaaDoor
open Go.RowKit
set_option linter.unusedVariables false
def AP (w : World) (leaf : List Nat) (B : Nat) (a1 : Option Addr) (n1 : Nat) (es : Ds) (a2 : Option Addr) (n2 : Nat) (ws : Ds) (W : World) : Prop := Brow W w.heap.size 22 leaf ∧ DR W a1 n1 es ∧ DR W a2 n2 ws ∧ Below w.heap.size w W ∧ B ≤ W.heap.size
theorem AP.step {w W W' : World} {leaf : List Nat} {B : Nat} {a1 : Option Addr} {n1 : Nat} {es : Ds} {a2 : Option Addr} {n2 : Nat} {ws : Ds} (h : AP w leaf B a1 n1 es a2 n2 ws W) (hb : Below W.heap.size W W') : AP w leaf B a1 n1 es a2 n2 ws W' := ⟨h.1.below hb h.1.lt, h.2.1.below hb, h.2.2.1.below hb, h.2.2.2.1.trans (hb.mono h.2.2.2.1.size), Nat.le_trans h.2.2.2.2 hb.size⟩
theorem AP.drew {w W : World} {leaf : List Nat} {B : Nat} {a1 : Option Addr} {n1 : Nat} {es : Ds} {a2 : Option Addr} {n2 : Nat} {ws : Ds} (h : AP w leaf B a1 n1 es a2 n2 ws W) : AP w leaf B a1 n1 es a2 n2 ws W.drew := ⟨h.1.drew, h.2.1, h.2.2.1, h.2.2.2.1.drew, h.2.2.2.2⟩
set_option maxRecDepth 100000 in
set_option maxHeartbeats 8000000 in
theorem apart_in (i : Int) (M : Nat) (leaf : List Nat) (la : Option Addr) (ln lc : Nat) (ls : Ds) (wa : Option Addr) (wl wc : Nat) (wz : Ds) (w : World) (hM : IntKind.u64.wrap i = (M : Int)) (hf : D32 leaf) (rl : DigsIn w la ln lc ls) (rw_ : DigsIn w wa wl wc wz) (ht : Tab w) :
    Calls Tryd.prog 6 #[.slice la ln lc, .int .i64 i, .agg (cellsOf leaf).toArray, .slice wa wl wc] w fun e w' => e = .returned (.bool true) ∧ Below w.heap.size w w' := by
  obtain ⟨hl, hlnil, hllc, hlcm⟩ := rl
  obtain ⟨hw, hwnil, hwlc, hwcm⟩ := rw_
  have HT := Lib.hid ht
  have hpos := ht.pos
  have HLF := Lib.hid hf
  obtain ⟨q1, hq1⟩ : ∃ q : Nat, q = min ln 70 := ⟨_, rfl⟩
  obtain ⟨q2, hq2⟩ : ∃ q : Nat, q = min wl 70 := ⟨_, rfl⟩
  have HC1 := Lib.hid (show ∀ W, Below w.heap.size w W → Calls Tryd.prog 9 #[.slice la ln lc, .int .i64 70] W (RetDs 22 (ls.take q1) W) from fun W hW => cut_c ln q1 70 ls la lc W (hl.below hW) hllc hlnil (by omega) (by omega))
  have HC2 := Lib.hid (show ∀ W, Below w.heap.size w W → Calls Tryd.prog 9 #[.slice wa wl wc, .int .i64 70] W (RetDs 22 (wz.take q2) W) from fun W hW => cut_c wl q2 70 wz wa wc W (hw.below hW) hwlc hwnil (by omega) (by omega))
  obtain ⟨es, hes⟩ : ∃ es, es = ls.take q1 := ⟨_, rfl⟩
  obtain ⟨ws, hws⟩ : ∃ ws, ws = wz.take q2 := ⟨_, rfl⟩
  rw [← hes] at HC1
  rw [← hws] at HC2
  have HES := Lib.hid (show ∀ d ∈ es, D32 d from by rw [hes]; exact d32_take hl.2.1 q1)
  have HWS := Lib.hid (show ∀ d ∈ ws, D32 d from by rw [hws]; exact d32_take hw.2.1 q2)
  have hel : es.length = q1 := by rw [hes, List.length_take, hl.1]; omega
  have hwl2 : ws.length = q2 := by rw [hws, List.length_take, hw.1]; omega
  have hq170 : q1 ≤ 70 := by omega
  have hq270 : q2 ≤ 70 := by omega
  clear hl hlnil hw hwnil ht hq1 hq2 hes hws hf
  go_enter Tryd.func6, Tryd.ntmps6
  go_upto_region 1 with fail
  refine gen_code (F := fun W => Brow W w.heap.size 22 leaf ∧ Below w.heap.size w W) ⟨heap_new _ _, (Below.refl _ _).alloc (Nat.le_refl _) _⟩ ?_
  rintro wA ⟨hb, hbw⟩
  have HB := Lib.hid hb
  have HBW := Lib.hid hbw
  clear hb hbw
  go_wp2_with fail
  refine (HC1.out _ HBW.out).mono ?_
  rintro e w1 ⟨v1, rfl, hov1, hb1⟩
  obtain ⟨a1, n1, c1, rfl, hnn1, hc1, hc1m, _, hr1⟩ := hov1.form HES.out
  have HB1 := Lib.hid (HB.out.below hb1 HB.out.lt)
  have HBW1 := Lib.hid (HBW.out.trans (hb1.mono HBW.out.size))
  have HR1 := Lib.hid hr1
  clear hov1 hb1 hr1 HB HBW HC1
  go_wp2_with fail
  refine (HC2.out _ HBW1.out).mono ?_
  rintro e w2 ⟨v2, rfl, hov2, hb2⟩
  obtain ⟨a2, n2, c2, rfl, hnn2, hc2, hc2m, _, hr2⟩ := hov2.form HWS.out
  have hab := hov2.blk
  obtain ⟨B, hB⟩ : ∃ B, B = w2.heap.size := ⟨_, rfl⟩
  rw [← hB] at hab
  have HAB := Lib.hid hab
  have hn170 : n1 ≤ 70 := by omega
  have hn270 : n2 ≤ 70 := by omega
  have HS := Lib.hid (show AP w leaf B a1 n1 es a2 n2 ws w2 from ⟨HB1.out.below hb2 HB1.out.lt, HR1.out.below hb2, hr2, HBW1.out.trans (hb2.mono HBW1.out.size), by rw [hB]; exact Nat.le_refl _⟩)
  clear hov2 hb2 hr2 HB1 HBW1 HR1 HC2 hab hB hel hwl2 hnn2 hnn1
  by_cases hn0 : n1 = 0
  · subst hn0
    go_wp2_with (first | (go_at_call 14; refine (awake3_c _ (HT.out.below HS.out.2.2.2.1 hpos)).mono ?_; rintro e wb ⟨rfl, hbb⟩; have HS := Lib.hid (HS.out.step hbb); clear hbb))
    go_ret
    exact ⟨rfl, HS.out.2.2.2.1⟩
  · have q0 : ¬ (n1 : Int) = 0 := by omega
    obtain ⟨k, hk⟩ : ∃ k, k = M % n1 := ⟨_, rfl⟩
    have hkn : k < n1 := by rw [hk]; exact Nat.mod_lt _ (by omega)
    have s2 : IntKind.u64.wrap (n1 : Int) = (n1 : Int) := by rw [IntKind.wrap_u64]; omega
    have s3 : (M : Int).tmod (n1 : Int) = (k : Int) := by rw [Int.tmod_eq_emod_of_nonneg (by omega), hk]; rfl
    obtain ⟨lb, lo, rfl, _, _⟩ := HS.out.2.1.at 0 (by omega)
    clear hk
    go_upto_region 5 with (first | (go_at_call 14; refine (awake3_c _ (HT.out.below HS.out.2.2.2.1 hpos)).mono ?_; rintro e wb ⟨rfl, hbb⟩; have HS := Lib.hid (HS.out.step hbb); clear hbb))
    (try dsimp only [Act.put, List.setIfInBounds_toArray, List.set_cons_zero, List.set_cons_succ])
    obtain ⟨X, hX⟩ : ∃ X, X = rootS es := ⟨_, rfl⟩
    obtain ⟨x, hx⟩ : ∃ x, x = es.getD k [] := ⟨_, rfl⟩
    have hl1 : es.length = n1 := HS.out.2.1.1
    have HXD := Lib.hid (show D32 X from by rw [hX]; exact d32_root _ HES.out)
    have Hxd := Lib.hid (show D32 x from by rw [hx]; exact D32.get HES.out k (by omega))
    have HRT := Lib.hid (show ∀ W, DR W (some ⟨lb, lo, none⟩) n1 es → Calls Tryd.prog 19 #[.slice (some ⟨lb, lo, none⟩) n1 c1] W (DigRet X W) from fun W hW => by rw [hX]; exact rroot_c n1 es _ c1 W hW hc1 hc1m)
    have HTO := Lib.hid (fun W (hW : DR W a2 n2 ws) => to_c n2 ws a2 c2 W hW (by omega))
    obtain ⟨V, hV⟩ : ∃ V, V = decide (topS n1 k leaf ws = some X) := ⟨_, rfl⟩
    have HVV := Lib.hid hV
    have HCK := Lib.hid (show ∀ W fa fn fc, Below w.heap.size w W → DR W fa fn ws → fn ≤ fc → fc ≤ 9223372036854775807 → Calls Tryd.prog 27 #[.agg (cellsOf X).toArray, .int .i64 (n1 : Int), .int .i64 (k : Int), .agg (cellsOf leaf).toArray, .slice fa fn fc] W (fun e w' => e = .returned (.bool V) ∧ Below W.heap.size W w') from fun W fa fn fc h1 h2 h3 h4 => by rw [hV]; exact check_yes n1 k X leaf fa fn fc ws W (by omega) hkn HXD.out HLF.out h2 h3 h4 (HT.out.below h1 hpos))
    have HLL := Lib.hid (fun W (hW : AP w leaf B (some ⟨lb, lo, none⟩) n1 es a2 n2 ws W) => run_dload dtR W w.heap.size 0 leaf HLF.out hW.1.range)
    have HLX := Lib.hid (fun W (hW : AP w leaf B (some ⟨lb, lo, none⟩) n1 es a2 n2 ws W) => run_dload dtR W lb (lo + k * 32) x Hxd.out (by
      obtain ⟨b', o', h1, _, h3⟩ := hW.2.1.at k hkn
      simp only [Option.some.injEq, Addr.mk.injEq, and_true] at h1
      obtain ⟨rfl, rfl⟩ := h1
      rw [hx]
      exact h3))
    have HPA := Lib.hid (show ∀ W, AP w leaf B (some ⟨lb, lo, none⟩) n1 es a2 n2 ws W → Calls Tryd.prog 28 #[.slice (some ⟨lb, lo, none⟩) n1 c1, .int .i64 (k : Int)] W (RetDs 22 (pathS es k) W) from fun W hW => rpath_c n1 es k _ c1 W (by omega) hW.2.1 hkn hc1 hc1m (HT.out.below hW.2.2.2.1 hpos))
    have HPD := Lib.hid (show ∀ d ∈ pathS es k, D32 d from d32_path n1 es k hl1 HES.out)
    have HSM := Lib.hid (show leaf = x → V = false → ∀ W fa fn fc, DR W a2 n2 ws → DR W fa fn (pathS es k) → Calls Tryd.prog 20 #[.slice a2 n2 c2, .slice fa fn fc] W (fun e w' => e = .returned (.bool false) ∧ Below W.heap.size W w') from fun hlx hVf W fa fn fc h1 h2 => by
      have h := dsame_c n2 fn (by omega) a2 fa c2 fc ws (pathS es k) W h1 h2
      have hne : ws ≠ pathS es k := by
        intro he
        have := top_pathS es k (by omega)
        rw [hl1, ← hx, ← hlx, ← he, ← hX] at this
        rw [hV, decide_eq_true this] at hVf
        cases hVf
      rw [decide_eq_false hne] at h
      exact h)
    have HFI := Lib.hid (show leaf ≠ x → V = true → ∀ W, AP w leaf B (some ⟨lb, lo, none⟩) n1 es a2 n2 ws W → Calls Tryd.prog 29 #[.slice (some ⟨lb, lo, none⟩) n1 c1, .int .i64 (k : Int), .agg (cellsOf leaf).toArray, .slice a2 n2 c2] W (RetTrue W) from fun hlx hVt W hW => finds_c n1 (by omega) B n1 (by omega) es k leaf ws _ c1 a2 n2 c2 W hkn HLF.out hW.2.1 hc1 hc1m hW.2.2.1 hc2 hc2m HAB.out hW.2.2.2.2 (by rw [hV] at hVt; rw [← hX]; exact of_decide_eq_true hVt) (by rw [← hx]; exact hlx))
    have HGT := Lib.hid (show Tryd.prog.eqGuardType Tryd.prog.depth 22 = false by kernel_rfl)
    have HEQ := Lib.hid (fun W => eqDD dtR W HLF.out Hxd.out)
    have HS := Lib.hid HS.out.drew
    clear hV hX hx
    refine anyH_begin (S := AP w leaf B (some ⟨lb, lo, none⟩) n1 es a2 n2 ws) (by kernel_rfl) ?_
    refine anyH_pureG 0 (d := 28) (op := .move (.tmp 0)) (gd := none) (.slice (some ⟨lb, lo, none⟩) n1 c1) (by rfl) (fun o ho => wanted_plain ho _) (by kernel_rfl) (by kernel_rfl) (by kernel_rfl) (fun _ _ _ h => h) (fun o ho W hW => by unfold execOp; simp only [ho]; go_simp) HS.out ?_
    simp only [Act.put, List.setIfInBounds_toArray, List.set_cons_zero, List.set_cons_succ]
    refine anyH_pureG 2 (d := 30) (op := .move (.tmp 0)) (gd := none) (.slice (some ⟨lb, lo, none⟩) n1 c1) (by rfl) (fun o ho => wanted_plain ho _) (by kernel_rfl) (by kernel_rfl) (by kernel_rfl) (fun _ _ _ h => h) (fun o ho W hW => by unfold execOp; simp only [ho]; go_simp) HS.out ?_
    simp only [Act.put, List.setIfInBounds_toArray, List.set_cons_zero, List.set_cons_succ]
    refine anyH_pureG 3 (d := 31) (op := .call { callee := .builtin .len, args := #[(.tmp 30)], argTypes := #[24] }) (gd := none) (.int .i64 (n1 : Int)) (by rfl) (fun o ho => wanted_plain ho _) (by kernel_rfl) (by kernel_rfl) (by kernel_rfl) (fun _ _ _ h => h) (fun o ho W hW => by unfold execOp; simp only [ho]; go_simp) HS.out ?_
    simp only [Act.put, List.setIfInBounds_toArray, List.set_cons_zero, List.set_cons_succ]
    refine anyH_pureG 4 (d := 32) (op := .move (.tmp 1)) (gd := none) (.int .i64 (k : Int)) (by rfl) (fun o ho => wanted_plain ho _) (by kernel_rfl) (by kernel_rfl) (by kernel_rfl) (fun _ _ _ h => h) (fun o ho W hW => by unfold execOp; simp only [ho]; go_simp) HS.out ?_
    simp only [Act.put, List.setIfInBounds_toArray, List.set_cons_zero, List.set_cons_succ]
    refine anyH_loadG 5 (d := 33) (ty := 22) (x := (.tmp 6)) (gd := none) (p := .pointer (some ⟨w.heap.size, 0, none⟩)) (.agg (cellsOf leaf).toArray) (by rfl) (fun o ho => wanted_plain ho _) (by kernel_rfl) (by kernel_rfl) (by kernel_rfl) (fun _ _ _ h => h) (by rfl) HLL.out HS.out ?_
    simp only [Act.put, List.setIfInBounds_toArray, List.set_cons_zero, List.set_cons_succ]
    refine anyH_pureG 6 (d := 34) (op := .move (.tmp 3)) (gd := none) (.slice a2 n2 c2) (by rfl) (fun o ho => wanted_plain ho _) (by kernel_rfl) (by kernel_rfl) (by kernel_rfl) (fun _ _ _ h => h) (fun o ho W hW => by unfold execOp; simp only [ho]; go_simp) HS.out ?_
    simp only [Act.put, List.setIfInBounds_toArray, List.set_cons_zero, List.set_cons_succ]
    refine anyH_callG 1 (d := some 29) (f := 19) (xs := #[(.tmp 28)]) (ts := #[24]) (gd := none) (vs := #[.slice (some ⟨lb, lo, none⟩) n1 c1]) (by kernel_rfl) (by rfl) (fun o ho => wanted_plain ho _) (by go_simp) (by go_simp) (HRT.out _ HS.out.2.1) ?_
    rintro e71 w71 ⟨rfl, hb71⟩
    refine ⟨_, rfl, HS.out.step hb71, fun hS71 => ?_⟩
    have HS := Lib.hid hS71
    clear hS71 hb71
    simp only [Act.put, List.setIfInBounds_toArray, List.set_cons_zero, List.set_cons_succ]
    refine anyH_callG 7 (d := some 35) (f := 12) (xs := #[(.tmp 34)]) (ts := #[24]) (gd := none) (vs := #[.slice a2 n2 c2]) (by kernel_rfl) (by rfl) (fun o ho => wanted_plain ho _) (by go_simp) (by go_simp) (HTO.out _ HS.out.2.2.1) ?_
    rintro e72 w72 ⟨v72, rfl, hov72, hb72⟩
    obtain ⟨fa, fn, fc, rfl, hfn, hfc, hfm, _, hr72⟩ := hov72.form HWS.out
    refine ⟨_, rfl, HS.out.step hb72, fun hS72 => ?_⟩
    have HS := Lib.hid hS72
    have HF := Lib.hid hr72
    clear hov72 hr72 hS72 hb72
    simp only [Act.put, List.setIfInBounds_toArray, List.set_cons_zero, List.set_cons_succ]
    refine anyH_callG 8 (d := some 36) (f := 27) (xs := #[(.tmp 29), (.tmp 31), (.tmp 32), (.tmp 33), (.tmp 35)]) (ts := #[30, 3, 3, 30, 31]) (gd := none) (vs := #[.agg (cellsOf X).toArray, .int .i64 (n1 : Int), .int .i64 (k : Int), .agg (cellsOf leaf).toArray, .slice fa fn fc]) (by kernel_rfl) (by rfl) (fun o ho => wanted_plain ho _) (by go_simp) (by go_simp) (HCK.out _ fa fn fc HS.out.2.2.2.1 HF.out hfc hfm) ?_
    rintro e73 w73 ⟨rfl, hb73⟩
    refine ⟨_, rfl, HS.out.step hb73, fun hS73 => ?_⟩
    have HS := Lib.hid hS73
    clear hS73 hb73
    simp only [Act.put, List.setIfInBounds_toArray, List.set_cons_zero, List.set_cons_succ]
    refine anyH_pureG 9 (d := 37) (op := .unOp .not 4 (.tmp 36)) (gd := none) (.bool (!V)) (by rfl) (fun o ho => wanted_plain ho _) (by kernel_rfl) (by kernel_rfl) (by kernel_rfl) (fun _ _ _ h => h) (fun o ho W hW => by unfold execOp; simp only [ho]; go_simp) HS.out ?_
    simp only [Act.put, List.setIfInBounds_toArray, List.set_cons_zero, List.set_cons_succ]
    refine wpAnyH_done (by kernel_rfl) ?_ _
    clear HRT HTO HCK HF
    cases V with
    | false =>
      have HSM := Lib.hid (fun h => HSM.out h rfl)
      clear HFI HVV
      go_upto_region 6 with fail
      (try dsimp only [Act.put, List.setIfInBounds_toArray, List.set_cons_zero, List.set_cons_succ])
      have HS := Lib.hid HS.out.drew
      by_cases hlx : leaf = x
      · rw [decide_eq_true hlx] at HEQ
        have HSM := Lib.hid (HSM.out hlx)
        clear hlx
        refine anyH_begin (S := AP w leaf B (some ⟨lb, lo, none⟩) n1 es a2 n2 ws) (by kernel_rfl) ?_
        refine anyH_loadG 0 (d := 38) (ty := 22) (x := (.tmp 6)) (gd := none) (p := .pointer (some ⟨w.heap.size, 0, none⟩)) (.agg (cellsOf leaf).toArray) (by rfl) (fun o ho => wanted_plain ho _) (by kernel_rfl) (by kernel_rfl) (by kernel_rfl) (fun _ _ _ h => h) (by rfl) HLL.out HS.out ?_
        simp only [Act.put, List.setIfInBounds_toArray, List.set_cons_zero, List.set_cons_succ]
        refine anyH_pureG 1 (d := 39) (op := .move (.tmp 0)) (gd := none) (.slice (some ⟨lb, lo, none⟩) n1 c1) (by rfl) (fun o ho => wanted_plain ho _) (by kernel_rfl) (by kernel_rfl) (by kernel_rfl) (fun _ _ _ h => h) (fun o ho W hW => by unfold execOp; simp only [ho]; go_simp) HS.out ?_
        simp only [Act.put, List.setIfInBounds_toArray, List.set_cons_zero, List.set_cons_succ]
        refine anyH_pureG 2 (d := 40) (op := .move (.tmp 1)) (gd := none) (.int .i64 (k : Int)) (by rfl) (fun o ho => wanted_plain ho _) (by kernel_rfl) (by kernel_rfl) (by kernel_rfl) (fun _ _ _ h => h) (fun o ho W hW => by unfold execOp; simp only [ho]; go_simp) HS.out ?_
        simp only [Act.put, List.setIfInBounds_toArray, List.set_cons_zero, List.set_cons_succ]
        refine anyH_dindex dtR 3 (d := 41) (x := .tmp 39) (y := .tmp 40) lb lo n1 c1 k hkn (by rfl) (by kernel_rfl) (by kernel_rfl) (by kernel_rfl) (fun _ _ _ h => h) (by rfl) (by rfl) HS.out ?_
        simp only [Act.put, List.setIfInBounds_toArray, List.set_cons_zero, List.set_cons_succ]
        refine anyH_loadG 4 (d := 42) (ty := 22) (x := (.tmp 41)) (gd := none) (p := .pointer (some ⟨lb, lo + k * 32, none⟩)) (.agg (cellsOf x).toArray) (by rfl) (fun o ho => wanted_plain ho _) (by kernel_rfl) (by kernel_rfl) (by kernel_rfl) (fun _ _ _ h => h) (by rfl) HLX.out HS.out ?_
        simp only [Act.put, List.setIfInBounds_toArray, List.set_cons_zero, List.set_cons_succ]
        refine anyH_neqG 5 (d := 43) (t := 22) (t' := 22) (x := (.tmp 38)) (y := (.tmp 42)) (gd := none) ((cellsOf leaf).toArray) ((cellsOf x).toArray) true (by rfl) (fun o ho => wanted_plain ho _) (by kernel_rfl) (by kernel_rfl) (by kernel_rfl) (fun _ _ _ h => h) (by rfl) (by rfl) HGT.out HEQ.out HS.out ?_
        simp only [Act.put, List.setIfInBounds_toArray, List.set_cons_zero, List.set_cons_succ]
        refine anyH_pureG 6 (d := 44) (op := .move (.tmp 43)) (gd := none) (.bool false) (by rfl) (fun o ho => wanted_plain ho _) (by kernel_rfl) (by kernel_rfl) (by kernel_rfl) (fun _ _ _ h => h) (fun o ho W hW => by unfold execOp; simp only [ho]; go_simp) HS.out ?_
        simp only [Act.put, List.setIfInBounds_toArray, List.set_cons_zero, List.set_cons_succ]
        refine anyH_pureG 7 (d := 45) (op := .move (.tmp 3)) (gd := some (6, false)) (.slice a2 n2 c2) (by rfl) (fun o ho => by simp only [Region.wanted, ho]; rfl) (by kernel_rfl) (by kernel_rfl) (by kernel_rfl) (fun _ _ _ h => h) (fun o ho W hW => by unfold execOp; simp only [ho]; go_simp) HS.out ?_
        simp only [Act.put, List.setIfInBounds_toArray, List.set_cons_zero, List.set_cons_succ]
        refine anyH_pureG 8 (d := 46) (op := .move (.tmp 0)) (gd := some (6, false)) (.slice (some ⟨lb, lo, none⟩) n1 c1) (by rfl) (fun o ho => by simp only [Region.wanted, ho]; rfl) (by kernel_rfl) (by kernel_rfl) (by kernel_rfl) (fun _ _ _ h => h) (fun o ho W hW => by unfold execOp; simp only [ho]; go_simp) HS.out ?_
        simp only [Act.put, List.setIfInBounds_toArray, List.set_cons_zero, List.set_cons_succ]
        refine anyH_pureG 9 (d := 47) (op := .move (.tmp 1)) (gd := some (6, false)) (.int .i64 (k : Int)) (by rfl) (fun o ho => by simp only [Region.wanted, ho]; rfl) (by kernel_rfl) (by kernel_rfl) (by kernel_rfl) (fun _ _ _ h => h) (fun o ho W hW => by unfold execOp; simp only [ho]; go_simp) HS.out ?_
        simp only [Act.put, List.setIfInBounds_toArray, List.set_cons_zero, List.set_cons_succ]
        refine anyH_callG 10 (d := some 48) (f := 28) (xs := #[(.tmp 46), (.tmp 47)]) (ts := #[24, 3]) (gd := some (6, false)) (vs := #[.slice (some ⟨lb, lo, none⟩) n1 c1, .int .i64 (k : Int)]) (by kernel_rfl) (by rfl) (fun o ho => by simp only [Region.wanted, ho]; rfl) (by go_simp) (by go_simp) (HPA.out _ HS.out) ?_
        rintro e81 w81 ⟨v81, rfl, hov81, hb81⟩
        obtain ⟨fa, fn, fc, rfl, hfn, hfc, hfm, _, hr81⟩ := hov81.form HPD.out
        refine ⟨_, rfl, HS.out.step hb81, fun hS81 => ?_⟩
        have HS := Lib.hid hS81
        have HF := Lib.hid hr81
        clear hov81 hr81 hS81 hb81
        simp only [Act.put, List.setIfInBounds_toArray, List.set_cons_zero, List.set_cons_succ]
        refine anyH_callG 11 (d := some 49) (f := 20) (xs := #[(.tmp 45), (.tmp 48)]) (ts := #[24, 24]) (gd := some (6, false)) (vs := #[.slice a2 n2 c2, .slice fa fn fc]) (by kernel_rfl) (by rfl) (fun o ho => by simp only [Region.wanted, ho]; rfl) (by go_simp) (by go_simp) (HSM.out _ fa fn fc HS.out.2.2.1 HF.out) ?_
        rintro e82 w82 ⟨rfl, hb82⟩
        refine ⟨_, rfl, HS.out.step hb82, fun hS82 => ?_⟩
        have HS := Lib.hid hS82
        clear hS82 hb82
        simp only [Act.put, List.setIfInBounds_toArray, List.set_cons_zero, List.set_cons_succ]
        refine anyH_pureG 12 (d := 50) (op := .unOp .not 4 (.tmp 49)) (gd := some (6, false)) (.bool true) (by rfl) (fun o ho => by simp only [Region.wanted, ho]; rfl) (by kernel_rfl) (by kernel_rfl) (by kernel_rfl) (fun _ _ _ h => h) (fun o ho W hW => by unfold execOp; simp only [ho]; go_simp) HS.out ?_
        simp only [Act.put, List.setIfInBounds_toArray, List.set_cons_zero, List.set_cons_succ]
        refine anyH_pureG 13 (d := 51) (op := .pick (.tmp 44) (.const (.bool true)) (.tmp 50)) (gd := none) (.bool true) (by rfl) (fun o ho => wanted_plain ho _) (by kernel_rfl) (by kernel_rfl) (by kernel_rfl) (fun _ _ _ h => h) (fun o ho W hW => by unfold execOp; simp only [ho]; go_simp) HS.out ?_
        simp only [Act.put, List.setIfInBounds_toArray, List.set_cons_zero, List.set_cons_succ]
        refine anyH_pureG 14 (d := 8) (op := .assign (.tmp 51)) (gd := none) (.bool true) (by rfl) (fun o ho => wanted_plain ho _) (by kernel_rfl) (by kernel_rfl) (by kernel_rfl) (fun _ _ _ h => h) (fun o ho W hW => by unfold execOp; simp only [ho]; go_simp) HS.out ?_
        simp only [Act.put, List.setIfInBounds_toArray, List.set_cons_zero, List.set_cons_succ]
        refine wpAnyH_done (by kernel_rfl) ?_ _
        go_wp2
        go_ret
        exact ⟨rfl, HS.out.2.2.2.1⟩
      · rw [decide_eq_false hlx] at HEQ
        clear hlx
        refine anyH_begin (S := AP w leaf B (some ⟨lb, lo, none⟩) n1 es a2 n2 ws) (by kernel_rfl) ?_
        refine anyH_loadG 0 (d := 38) (ty := 22) (x := (.tmp 6)) (gd := none) (p := .pointer (some ⟨w.heap.size, 0, none⟩)) (.agg (cellsOf leaf).toArray) (by rfl) (fun o ho => wanted_plain ho _) (by kernel_rfl) (by kernel_rfl) (by kernel_rfl) (fun _ _ _ h => h) (by rfl) HLL.out HS.out ?_
        simp only [Act.put, List.setIfInBounds_toArray, List.set_cons_zero, List.set_cons_succ]
        refine anyH_pureG 1 (d := 39) (op := .move (.tmp 0)) (gd := none) (.slice (some ⟨lb, lo, none⟩) n1 c1) (by rfl) (fun o ho => wanted_plain ho _) (by kernel_rfl) (by kernel_rfl) (by kernel_rfl) (fun _ _ _ h => h) (fun o ho W hW => by unfold execOp; simp only [ho]; go_simp) HS.out ?_
        simp only [Act.put, List.setIfInBounds_toArray, List.set_cons_zero, List.set_cons_succ]
        refine anyH_pureG 2 (d := 40) (op := .move (.tmp 1)) (gd := none) (.int .i64 (k : Int)) (by rfl) (fun o ho => wanted_plain ho _) (by kernel_rfl) (by kernel_rfl) (by kernel_rfl) (fun _ _ _ h => h) (fun o ho W hW => by unfold execOp; simp only [ho]; go_simp) HS.out ?_
        simp only [Act.put, List.setIfInBounds_toArray, List.set_cons_zero, List.set_cons_succ]
        refine anyH_dindex dtR 3 (d := 41) (x := .tmp 39) (y := .tmp 40) lb lo n1 c1 k hkn (by rfl) (by kernel_rfl) (by kernel_rfl) (by kernel_rfl) (fun _ _ _ h => h) (by rfl) (by rfl) HS.out ?_
        simp only [Act.put, List.setIfInBounds_toArray, List.set_cons_zero, List.set_cons_succ]
        refine anyH_loadG 4 (d := 42) (ty := 22) (x := (.tmp 41)) (gd := none) (p := .pointer (some ⟨lb, lo + k * 32, none⟩)) (.agg (cellsOf x).toArray) (by rfl) (fun o ho => wanted_plain ho _) (by kernel_rfl) (by kernel_rfl) (by kernel_rfl) (fun _ _ _ h => h) (by rfl) HLX.out HS.out ?_
        simp only [Act.put, List.setIfInBounds_toArray, List.set_cons_zero, List.set_cons_succ]
        refine anyH_neqG 5 (d := 43) (t := 22) (t' := 22) (x := (.tmp 38)) (y := (.tmp 42)) (gd := none) ((cellsOf leaf).toArray) ((cellsOf x).toArray) false (by rfl) (fun o ho => wanted_plain ho _) (by kernel_rfl) (by kernel_rfl) (by kernel_rfl) (fun _ _ _ h => h) (by rfl) (by rfl) HGT.out HEQ.out HS.out ?_
        simp only [Act.put, List.setIfInBounds_toArray, List.set_cons_zero, List.set_cons_succ]
        refine anyH_pureG 6 (d := 44) (op := .move (.tmp 43)) (gd := none) (.bool true) (by rfl) (fun o ho => wanted_plain ho _) (by kernel_rfl) (by kernel_rfl) (by kernel_rfl) (fun _ _ _ h => h) (fun o ho W hW => by unfold execOp; simp only [ho]; go_simp) HS.out ?_
        simp only [Act.put, List.setIfInBounds_toArray, List.set_cons_zero, List.set_cons_succ]
        refine anyH_skip 7 (d := 45) (op := .move (.tmp 3)) (gd := some (6, false)) (by rfl) (fun o ho => by simp only [Region.wanted, ho]; rfl) (by kernel_rfl) (by kernel_rfl) (by kernel_rfl) (fun _ _ _ h => h) HS.out ?_
        simp only [Act.put, List.setIfInBounds_toArray, List.set_cons_zero, List.set_cons_succ]
        refine anyH_skip 8 (d := 46) (op := .move (.tmp 0)) (gd := some (6, false)) (by rfl) (fun o ho => by simp only [Region.wanted, ho]; rfl) (by kernel_rfl) (by kernel_rfl) (by kernel_rfl) (fun _ _ _ h => h) HS.out ?_
        simp only [Act.put, List.setIfInBounds_toArray, List.set_cons_zero, List.set_cons_succ]
        refine anyH_skip 9 (d := 47) (op := .move (.tmp 1)) (gd := some (6, false)) (by rfl) (fun o ho => by simp only [Region.wanted, ho]; rfl) (by kernel_rfl) (by kernel_rfl) (by kernel_rfl) (fun _ _ _ h => h) HS.out ?_
        simp only [Act.put, List.setIfInBounds_toArray, List.set_cons_zero, List.set_cons_succ]
        refine anyH_skip 10 (d := 48) (op := .call { callee := .value (.func 28), args := #[(.tmp 46), (.tmp 47)], argTypes := #[24, 3] }) (gd := some (6, false)) (by rfl) (fun o ho => by simp only [Region.wanted, ho]; rfl) (by kernel_rfl) (by kernel_rfl) (by kernel_rfl) (fun _ _ _ h => h) HS.out ?_
        simp only [Act.put, List.setIfInBounds_toArray, List.set_cons_zero, List.set_cons_succ]
        refine anyH_skip 11 (d := 49) (op := .call { callee := .value (.func 20), args := #[(.tmp 45), (.tmp 48)], argTypes := #[24, 24] }) (gd := some (6, false)) (by rfl) (fun o ho => by simp only [Region.wanted, ho]; rfl) (by kernel_rfl) (by kernel_rfl) (by kernel_rfl) (fun _ _ _ h => h) HS.out ?_
        simp only [Act.put, List.setIfInBounds_toArray, List.set_cons_zero, List.set_cons_succ]
        refine anyH_skip 12 (d := 50) (op := .unOp .not 4 (.tmp 49)) (gd := some (6, false)) (by rfl) (fun o ho => by simp only [Region.wanted, ho]; rfl) (by kernel_rfl) (by kernel_rfl) (by kernel_rfl) (fun _ _ _ h => h) HS.out ?_
        simp only [Act.put, List.setIfInBounds_toArray, List.set_cons_zero, List.set_cons_succ]
        refine anyH_pureG 13 (d := 51) (op := .pick (.tmp 44) (.const (.bool true)) (.tmp 50)) (gd := none) (.bool true) (by rfl) (fun o ho => wanted_plain ho _) (by kernel_rfl) (by kernel_rfl) (by kernel_rfl) (fun _ _ _ h => h) (fun o ho W hW => by unfold execOp; simp only [ho]; go_simp) HS.out ?_
        simp only [Act.put, List.setIfInBounds_toArray, List.set_cons_zero, List.set_cons_succ]
        refine anyH_pureG 14 (d := 8) (op := .assign (.tmp 51)) (gd := none) (.bool true) (by rfl) (fun o ho => wanted_plain ho _) (by kernel_rfl) (by kernel_rfl) (by kernel_rfl) (fun _ _ _ h => h) (fun o ho W hW => by unfold execOp; simp only [ho]; go_simp) HS.out ?_
        simp only [Act.put, List.setIfInBounds_toArray, List.set_cons_zero, List.set_cons_succ]
        refine wpAnyH_done (by kernel_rfl) ?_ _
        go_wp2
        go_ret
        exact ⟨rfl, HS.out.2.2.2.1⟩
    | true =>
      have HFI := Lib.hid (fun h => HFI.out h rfl)
      clear HSM HVV
      go_upto_region 7 with fail
      (try dsimp only [Act.put, List.setIfInBounds_toArray, List.set_cons_zero, List.set_cons_succ])
      have HS := Lib.hid HS.out.drew
      by_cases hlx : leaf = x
      · rw [decide_eq_true hlx] at HEQ
        clear hlx
        refine anyH_begin (S := AP w leaf B (some ⟨lb, lo, none⟩) n1 es a2 n2 ws) (by kernel_rfl) ?_
        refine anyH_loadG 0 (d := 52) (ty := 22) (x := (.tmp 6)) (gd := none) (p := .pointer (some ⟨w.heap.size, 0, none⟩)) (.agg (cellsOf leaf).toArray) (by rfl) (fun o ho => wanted_plain ho _) (by kernel_rfl) (by kernel_rfl) (by kernel_rfl) (fun _ _ _ h => h) (by rfl) HLL.out HS.out ?_
        simp only [Act.put, List.setIfInBounds_toArray, List.set_cons_zero, List.set_cons_succ]
        refine anyH_pureG 1 (d := 53) (op := .move (.tmp 0)) (gd := none) (.slice (some ⟨lb, lo, none⟩) n1 c1) (by rfl) (fun o ho => wanted_plain ho _) (by kernel_rfl) (by kernel_rfl) (by kernel_rfl) (fun _ _ _ h => h) (fun o ho W hW => by unfold execOp; simp only [ho]; go_simp) HS.out ?_
        simp only [Act.put, List.setIfInBounds_toArray, List.set_cons_zero, List.set_cons_succ]
        refine anyH_pureG 2 (d := 54) (op := .move (.tmp 1)) (gd := none) (.int .i64 (k : Int)) (by rfl) (fun o ho => wanted_plain ho _) (by kernel_rfl) (by kernel_rfl) (by kernel_rfl) (fun _ _ _ h => h) (fun o ho W hW => by unfold execOp; simp only [ho]; go_simp) HS.out ?_
        simp only [Act.put, List.setIfInBounds_toArray, List.set_cons_zero, List.set_cons_succ]
        refine anyH_dindex dtR 3 (d := 55) (x := .tmp 53) (y := .tmp 54) lb lo n1 c1 k hkn (by rfl) (by kernel_rfl) (by kernel_rfl) (by kernel_rfl) (fun _ _ _ h => h) (by rfl) (by rfl) HS.out ?_
        simp only [Act.put, List.setIfInBounds_toArray, List.set_cons_zero, List.set_cons_succ]
        refine anyH_loadG 4 (d := 56) (ty := 22) (x := (.tmp 55)) (gd := none) (p := .pointer (some ⟨lb, lo + k * 32, none⟩)) (.agg (cellsOf x).toArray) (by rfl) (fun o ho => wanted_plain ho _) (by kernel_rfl) (by kernel_rfl) (by kernel_rfl) (fun _ _ _ h => h) (by rfl) HLX.out HS.out ?_
        simp only [Act.put, List.setIfInBounds_toArray, List.set_cons_zero, List.set_cons_succ]
        refine anyH_eqG 5 (d := 57) (t := 22) (t' := 22) (x := (.tmp 52)) (y := (.tmp 56)) (gd := none) ((cellsOf leaf).toArray) ((cellsOf x).toArray) true (by rfl) (fun o ho => wanted_plain ho _) (by kernel_rfl) (by kernel_rfl) (by kernel_rfl) (fun _ _ _ h => h) (by rfl) (by rfl) HGT.out HEQ.out HS.out ?_
        simp only [Act.put, List.setIfInBounds_toArray, List.set_cons_zero, List.set_cons_succ]
        refine anyH_pureG 6 (d := 58) (op := .move (.tmp 57)) (gd := none) (.bool true) (by rfl) (fun o ho => wanted_plain ho _) (by kernel_rfl) (by kernel_rfl) (by kernel_rfl) (fun _ _ _ h => h) (fun o ho W hW => by unfold execOp; simp only [ho]; go_simp) HS.out ?_
        simp only [Act.put, List.setIfInBounds_toArray, List.set_cons_zero, List.set_cons_succ]
        refine anyH_skip 7 (d := 59) (op := .move (.tmp 0)) (gd := some (6, false)) (by rfl) (fun o ho => by simp only [Region.wanted, ho]; rfl) (by kernel_rfl) (by kernel_rfl) (by kernel_rfl) (fun _ _ _ h => h) HS.out ?_
        simp only [Act.put, List.setIfInBounds_toArray, List.set_cons_zero, List.set_cons_succ]
        refine anyH_skip 8 (d := 60) (op := .move (.tmp 1)) (gd := some (6, false)) (by rfl) (fun o ho => by simp only [Region.wanted, ho]; rfl) (by kernel_rfl) (by kernel_rfl) (by kernel_rfl) (fun _ _ _ h => h) HS.out ?_
        simp only [Act.put, List.setIfInBounds_toArray, List.set_cons_zero, List.set_cons_succ]
        refine anyH_skip 9 (d := 61) (op := .load 22 (.tmp 6)) (gd := some (6, false)) (by rfl) (fun o ho => by simp only [Region.wanted, ho]; rfl) (by kernel_rfl) (by kernel_rfl) (by kernel_rfl) (fun _ _ _ h => h) HS.out ?_
        simp only [Act.put, List.setIfInBounds_toArray, List.set_cons_zero, List.set_cons_succ]
        refine anyH_skip 10 (d := 62) (op := .move (.tmp 3)) (gd := some (6, false)) (by rfl) (fun o ho => by simp only [Region.wanted, ho]; rfl) (by kernel_rfl) (by kernel_rfl) (by kernel_rfl) (fun _ _ _ h => h) HS.out ?_
        simp only [Act.put, List.setIfInBounds_toArray, List.set_cons_zero, List.set_cons_succ]
        refine anyH_skip 11 (d := 63) (op := .call { callee := .value (.func 29), args := #[(.tmp 59), (.tmp 60), (.tmp 61), (.tmp 62)], argTypes := #[24, 3, 22, 24] }) (gd := some (6, false)) (by rfl) (fun o ho => by simp only [Region.wanted, ho]; rfl) (by kernel_rfl) (by kernel_rfl) (by kernel_rfl) (fun _ _ _ h => h) HS.out ?_
        simp only [Act.put, List.setIfInBounds_toArray, List.set_cons_zero, List.set_cons_succ]
        refine anyH_pureG 12 (d := 64) (op := .pick (.tmp 58) (.const (.bool true)) (.tmp 63)) (gd := none) (.bool true) (by rfl) (fun o ho => wanted_plain ho _) (by kernel_rfl) (by kernel_rfl) (by kernel_rfl) (fun _ _ _ h => h) (fun o ho W hW => by unfold execOp; simp only [ho]; go_simp) HS.out ?_
        simp only [Act.put, List.setIfInBounds_toArray, List.set_cons_zero, List.set_cons_succ]
        refine anyH_pureG 13 (d := 8) (op := .assign (.tmp 64)) (gd := none) (.bool true) (by rfl) (fun o ho => wanted_plain ho _) (by kernel_rfl) (by kernel_rfl) (by kernel_rfl) (fun _ _ _ h => h) (fun o ho W hW => by unfold execOp; simp only [ho]; go_simp) HS.out ?_
        simp only [Act.put, List.setIfInBounds_toArray, List.set_cons_zero, List.set_cons_succ]
        refine wpAnyH_done (by kernel_rfl) ?_ _
        go_wp2
        go_ret
        exact ⟨rfl, HS.out.2.2.2.1⟩
      · rw [decide_eq_false hlx] at HEQ
        have HFI := Lib.hid (HFI.out hlx)
        clear hlx
        refine anyH_begin (S := AP w leaf B (some ⟨lb, lo, none⟩) n1 es a2 n2 ws) (by kernel_rfl) ?_
        refine anyH_loadG 0 (d := 52) (ty := 22) (x := (.tmp 6)) (gd := none) (p := .pointer (some ⟨w.heap.size, 0, none⟩)) (.agg (cellsOf leaf).toArray) (by rfl) (fun o ho => wanted_plain ho _) (by kernel_rfl) (by kernel_rfl) (by kernel_rfl) (fun _ _ _ h => h) (by rfl) HLL.out HS.out ?_
        simp only [Act.put, List.setIfInBounds_toArray, List.set_cons_zero, List.set_cons_succ]
        refine anyH_pureG 1 (d := 53) (op := .move (.tmp 0)) (gd := none) (.slice (some ⟨lb, lo, none⟩) n1 c1) (by rfl) (fun o ho => wanted_plain ho _) (by kernel_rfl) (by kernel_rfl) (by kernel_rfl) (fun _ _ _ h => h) (fun o ho W hW => by unfold execOp; simp only [ho]; go_simp) HS.out ?_
        simp only [Act.put, List.setIfInBounds_toArray, List.set_cons_zero, List.set_cons_succ]
        refine anyH_pureG 2 (d := 54) (op := .move (.tmp 1)) (gd := none) (.int .i64 (k : Int)) (by rfl) (fun o ho => wanted_plain ho _) (by kernel_rfl) (by kernel_rfl) (by kernel_rfl) (fun _ _ _ h => h) (fun o ho W hW => by unfold execOp; simp only [ho]; go_simp) HS.out ?_
        simp only [Act.put, List.setIfInBounds_toArray, List.set_cons_zero, List.set_cons_succ]
        refine anyH_dindex dtR 3 (d := 55) (x := .tmp 53) (y := .tmp 54) lb lo n1 c1 k hkn (by rfl) (by kernel_rfl) (by kernel_rfl) (by kernel_rfl) (fun _ _ _ h => h) (by rfl) (by rfl) HS.out ?_
        simp only [Act.put, List.setIfInBounds_toArray, List.set_cons_zero, List.set_cons_succ]
        refine anyH_loadG 4 (d := 56) (ty := 22) (x := (.tmp 55)) (gd := none) (p := .pointer (some ⟨lb, lo + k * 32, none⟩)) (.agg (cellsOf x).toArray) (by rfl) (fun o ho => wanted_plain ho _) (by kernel_rfl) (by kernel_rfl) (by kernel_rfl) (fun _ _ _ h => h) (by rfl) HLX.out HS.out ?_
        simp only [Act.put, List.setIfInBounds_toArray, List.set_cons_zero, List.set_cons_succ]
        refine anyH_eqG 5 (d := 57) (t := 22) (t' := 22) (x := (.tmp 52)) (y := (.tmp 56)) (gd := none) ((cellsOf leaf).toArray) ((cellsOf x).toArray) false (by rfl) (fun o ho => wanted_plain ho _) (by kernel_rfl) (by kernel_rfl) (by kernel_rfl) (fun _ _ _ h => h) (by rfl) (by rfl) HGT.out HEQ.out HS.out ?_
        simp only [Act.put, List.setIfInBounds_toArray, List.set_cons_zero, List.set_cons_succ]
        refine anyH_pureG 6 (d := 58) (op := .move (.tmp 57)) (gd := none) (.bool false) (by rfl) (fun o ho => wanted_plain ho _) (by kernel_rfl) (by kernel_rfl) (by kernel_rfl) (fun _ _ _ h => h) (fun o ho W hW => by unfold execOp; simp only [ho]; go_simp) HS.out ?_
        simp only [Act.put, List.setIfInBounds_toArray, List.set_cons_zero, List.set_cons_succ]
        refine anyH_pureG 7 (d := 59) (op := .move (.tmp 0)) (gd := some (6, false)) (.slice (some ⟨lb, lo, none⟩) n1 c1) (by rfl) (fun o ho => by simp only [Region.wanted, ho]; rfl) (by kernel_rfl) (by kernel_rfl) (by kernel_rfl) (fun _ _ _ h => h) (fun o ho W hW => by unfold execOp; simp only [ho]; go_simp) HS.out ?_
        simp only [Act.put, List.setIfInBounds_toArray, List.set_cons_zero, List.set_cons_succ]
        refine anyH_pureG 8 (d := 60) (op := .move (.tmp 1)) (gd := some (6, false)) (.int .i64 (k : Int)) (by rfl) (fun o ho => by simp only [Region.wanted, ho]; rfl) (by kernel_rfl) (by kernel_rfl) (by kernel_rfl) (fun _ _ _ h => h) (fun o ho W hW => by unfold execOp; simp only [ho]; go_simp) HS.out ?_
        simp only [Act.put, List.setIfInBounds_toArray, List.set_cons_zero, List.set_cons_succ]
        refine anyH_loadG 9 (d := 61) (ty := 22) (x := (.tmp 6)) (gd := some (6, false)) (p := .pointer (some ⟨w.heap.size, 0, none⟩)) (.agg (cellsOf leaf).toArray) (by rfl) (fun o ho => by simp only [Region.wanted, ho]; rfl) (by kernel_rfl) (by kernel_rfl) (by kernel_rfl) (fun _ _ _ h => h) (by rfl) HLL.out HS.out ?_
        simp only [Act.put, List.setIfInBounds_toArray, List.set_cons_zero, List.set_cons_succ]
        refine anyH_pureG 10 (d := 62) (op := .move (.tmp 3)) (gd := some (6, false)) (.slice a2 n2 c2) (by rfl) (fun o ho => by simp only [Region.wanted, ho]; rfl) (by kernel_rfl) (by kernel_rfl) (by kernel_rfl) (fun _ _ _ h => h) (fun o ho W hW => by unfold execOp; simp only [ho]; go_simp) HS.out ?_
        simp only [Act.put, List.setIfInBounds_toArray, List.set_cons_zero, List.set_cons_succ]
        refine anyH_callG 11 (d := some 63) (f := 29) (xs := #[(.tmp 59), (.tmp 60), (.tmp 61), (.tmp 62)]) (ts := #[24, 3, 22, 24]) (gd := some (6, false)) (vs := #[.slice (some ⟨lb, lo, none⟩) n1 c1, .int .i64 (k : Int), .agg (cellsOf leaf).toArray, .slice a2 n2 c2]) (by kernel_rfl) (by rfl) (fun o ho => by simp only [Region.wanted, ho]; rfl) (by go_simp) (by go_simp) (HFI.out _ HS.out) ?_
        rintro e83 w83 ⟨rfl, hb83⟩
        refine ⟨_, rfl, HS.out.step hb83, fun hS83 => ?_⟩
        have HS := Lib.hid hS83
        clear hS83 hb83
        simp only [Act.put, List.setIfInBounds_toArray, List.set_cons_zero, List.set_cons_succ]
        refine anyH_pureG 12 (d := 64) (op := .pick (.tmp 58) (.const (.bool true)) (.tmp 63)) (gd := none) (.bool true) (by rfl) (fun o ho => wanted_plain ho _) (by kernel_rfl) (by kernel_rfl) (by kernel_rfl) (fun _ _ _ h => h) (fun o ho W hW => by unfold execOp; simp only [ho]; go_simp) HS.out ?_
        simp only [Act.put, List.setIfInBounds_toArray, List.set_cons_zero, List.set_cons_succ]
        refine anyH_pureG 13 (d := 8) (op := .assign (.tmp 64)) (gd := none) (.bool true) (by rfl) (fun o ho => wanted_plain ho _) (by kernel_rfl) (by kernel_rfl) (by kernel_rfl) (fun _ _ _ h => h) (fun o ho W hW => by unfold execOp; simp only [ho]; go_simp) HS.out ?_
        simp only [Act.put, List.setIfInBounds_toArray, List.set_cons_zero, List.set_cons_succ]
        refine wpAnyH_done (by kernel_rfl) ?_ _
        go_wp2
        go_ret
        exact ⟨rfl, HS.out.2.2.2.1⟩
theorem mapart_c (la : Option Addr) (ln lc : Nat) (ls : Ds) (i : Int) (leaf : List Nat) (wa : Option Addr) (wl wc : Nat) (wz : Ds) (w : World) (rl : DigsIn w la ln lc ls) (hi : (Lit.int .i64 i).wf = true) (hf : D32 leaf) (rw_ : DigsIn w wa wl wc wz) (ht : Tab w) :
    Calls Tryd.prog 6 #[.slice la ln lc, .int .i64 i, .agg (cellsOf leaf).toArray, .slice wa wl wc] w fun e w' => e = .returned (.bool true) ∧ Below w.heap.size w w' := by
  refine apart_in i (IntKind.u64.wrap i).toNat leaf la ln lc ls wa wl wc wz w ?_ hf rl rw_ ht
  have : 0 ≤ IntKind.u64.wrap i := by rw [IntKind.wrap_u64]; omega
  omega
end Go.Proofs.YtdcninfbpmhojaaDoor
