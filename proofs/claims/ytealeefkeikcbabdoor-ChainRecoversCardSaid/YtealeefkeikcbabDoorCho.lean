/-
  The walk over ChainRecovers.
-/
import Derived.Test.YtealeefkeikcbabDoorChn
import Derived.Test.YtealeefkeikcbabDoorFrd
namespace Go.Proofs.YtealeefkeikcbabDoor
open Go.RowKit
set_option linter.unusedVariables false
/-- a sum of a list, its sixth byte raised -/
def rs (l : Ds) (n k : Nat) : List Nat := (l.getD (k % n) []).set 5 (((l.getD (k % n) []).getD 5 0 + k / n) % 256)
theorem d32_rs (l : Ds) (n k : Nat) (h : ∀ d ∈ l, D32 d) (hl : l.length = n) (hn : 0 < n) : D32 (rs l n k) := by
  have hd := D32.get h (k % n) (by rw [hl]; exact Nat.mod_lt _ hn)
  refine ⟨by rw [rs, List.length_set, hd.1], fun z hz => ?_⟩
  rcases List.mem_or_eq_of_mem_set hz with h1 | rfl
  · exact hd.2 z h1
  · exact Nat.mod_lt _ (by omega)
/-- what came in, and the sums -/
def CR (w : World) (m : List Nat) (sg : Ds) (W : World) : Prop := Brow W w.heap.size 22 m ∧ Brow W (w.heap.size + 1) 46 sg.flatten ∧ Below w.heap.size w W
theorem CR.below {w W W' : World} {m : List Nat} {sg : Ds} (h : CR w m sg W) (hb : Below W.heap.size W W') : CR w m sg W' := ⟨h.1.below hb h.1.lt, h.2.1.below hb h.2.1.lt, h.2.2.trans (hb.mono h.2.2.size)⟩
theorem CR.drew {w W : World} {m : List Nat} {sg : Ds} (h : CR w m sg W) : CR w m sg W.drew := ⟨h.1.drew, h.2.1.drew, h.2.2.drew⟩
theorem CR.at1 {w W W' : World} {m : List Nat} {sg es : Ds} (h : CR w m sg W) (ho : Only (w.heap.size + 1) W W') (hb : Brow W' (w.heap.size + 1) 46 es.flatten) : CR w m es W' := ⟨h.1.only ho (by omega), hb, h.2.2.trans (ho.below (by omega) h.2.2.size)⟩
theorem CR.new (w : World) (m : List Nat) (sg : Ds) : CR w m sg ((w.alloc (.cells (cellsOf m).toArray 22)).alloc (.cells (cellsOf sg.flatten).toArray 46)) :=
  ⟨(heap_new2 _ _ _).1, (heap_new2 _ _ _).2, ((Below.refl _ _).alloc (Nat.le_refl _) _).alloc (by simp) _⟩
theorem flat_cell (ds : Ds) (h : ∀ d ∈ ds, D32 d) (i j z : Nat) (hi : i < ds.length) (hj : j < 32) : ds.flatten.set (i * 32 + j) z = (ds.set i ((ds.getD i []).set j z)).flatten := by
  induction ds generalizing i with
  | nil => simp at hi
  | cons e ds ih =>
    have he := (h e (List.mem_cons_self ..)).1
    cases i with
    | zero =>
      simp only [Nat.zero_mul, Nat.zero_add, List.flatten_cons, List.set_cons_zero, List.getD_cons_zero]
      rw [List.set_append_left _ _ (by omega)]
    | succ i =>
      have := ih (fun x hx => h x (List.mem_cons_of_mem _ hx)) i (by simpa using hi)
      simp only [List.flatten_cons, List.set_cons_succ, List.getD_cons_succ]
      rw [← this, List.set_append_right _ _ (by omega), show (i + 1) * 32 + j - e.length = i * 32 + j by rw [he]; omega]
theorem CR.cell {w W : World} {m : List Nat} {sg : Ds} (h : CR w m sg W) (hsg : D67 sg) (i j : Nat) (hi : i < 67) (hj : j < 32) : W.cell? ⟨w.heap.size + 1, i * 32 + j, none⟩ = some (.int .u8 (((sg.getD i []).getD j 0 : Nat) : Int)) ∧ W.frozen? ⟨w.heap.size + 1, i * 32 + j, none⟩ = false := by
  refine ⟨?_, h.2.1.frozen _⟩
  have h1 := h.2.1.cell (i * 32 + j) (by rw [hsg.flat]; omega)
  rw [Nat.mul_comm i 32, flat_get sg hsg.2 i j (by rw [hsg.1]; exact hi) hj] at h1
  rwa [Nat.mul_comm i 32]
theorem CR.put {w W : World} {m : List Nat} {sg : Ds} (h : CR w m sg W) (hsg : D67 sg) (i j z : Nat) (hi : i < 67) (hj : j < 32) : CR w m (sg.set i ((sg.getD i []).set j z)) (W.setCell ⟨w.heap.size + 1, i * 32 + j, none⟩ (.int .u8 (z : Int))) := by
  have o : Only (w.heap.size + 1) W (W.setCell ⟨w.heap.size + 1, i * 32 + j, none⟩ (.int .u8 (z : Int))) := (Only.refl _ _).setCell _ _
  have hb := h.2.1.set (i * 32 + j) z
  rw [flat_cell sg hsg.2 i j z (by rw [hsg.1]; exact hi) hj] at hb
  exact h.at1 o hb
set_option maxRecDepth 100000 in
set_option maxHeartbeats 4000000 in
theorem recovers_c (key : Nat) (m : List Nat) (a : Option Addr) (n cap : Nat) (l : Ds) (w : World) (hm : D32 m) (hr : DigsIn w a n cap l) (hk' : key < 4294967296) (ht : Tab w) :
    Calls Tryd.prog 8 #[.int .u32 (key : Int), .agg (cellsOf m).toArray, .slice a n cap] w fun e w' => e = .returned (.bool true) ∧ Below w.heap.size w w' := by
  obtain ⟨hrd, _, hlc, hcm⟩ := hr
  have HM := Lib.hid hm
  have HR := Lib.hid hrd
  have HT := Lib.hid ht
  have hpos := ht.pos
  obtain ⟨f, hf⟩ : ∃ f : Nat → List Nat, f = fun c => if n = 0 then zs32 else rs l n c := ⟨_, rfl⟩
  have HFD := Lib.hid (show ∀ c, c < 67 → D32 (f c) from fun c _ => by
    rw [hf]
    show D32 (if n = 0 then zs32 else rs l n c)
    split
    · exact d32_zero
    · exact d32_rs l n c hrd.2.1 hrd.1 (by omega))
  have HFC := Lib.hid (show ∀ c, f c = if n = 0 then zs32 else rs l n c from fun c => by rw [hf])
  clear hm ht hf hrd
  go_enter Tryd.func8, Tryd.ntmps8
  go_upto_region 2 with fail
  rw [ztR]
  refine gen_code (F := CR w m zs7) (CR.new w _ _) ?_
  intro wA h
  have H0 := Lib.hid h
  clear h
  go_wp2_with fail
  go_loopw [9] (fun i wr => ∃ k : Nat, k ≤ 67 ∧ i = .int .i64 k ∧ Hid (CR w m (pre f zs7 k) wr)) (fun i _ => 67 - (intOf i).toNat)
  case atStart => exact ⟨0, by omega, rfl, by rw [pre_zero f zs7 (by simp [zs7])]; exact H0⟩
  case round =>
    clear H0
    obtain ⟨k, hk, rfl, HB⟩ := hrel
    obtain ⟨es, hes⟩ : ∃ es, es = pre f zs7 k := ⟨_, rfl⟩
    have HES := Lib.hid (show D67 es from by rw [hes]; exact pre_67 f zs7 k HFD.out d67_zero)
    rw [← hes] at HB
    by_cases hk67 : k < 67
    · have HNX := Lib.hid (show es.set k (f k) = pre f zs7 (k + 1) from by rw [hes]; exact pre_set f zs7 k hk67)
      have HGE := Lib.hid (show es.getD k [] = zs32 from by
        rw [hes, pre_get f zs7 k hk67]
        rw [zs7, List.getD_eq_getElem?_getD, List.getElem?_replicate, if_pos hk67]; rfl)
      clear hes
      by_cases h0 : n = 0
      · have HX := Lib.hid (show pre f zs7 (k + 1) = es from by
          rw [← HNX.out, HFC.out, if_pos h0]
          apply List.ext_getElem?
          intro i
          by_cases hi : i = k
          · subst hi
            rw [List.getElem?_set_self (by rw [HES.out.1]; exact hk67)]
            have := HGE.out
            rw [List.getD_eq_getElem?_getD, List.getElem?_eq_getElem (by rw [HES.out.1]; exact hk67)] at this
            rw [List.getElem?_eq_getElem (by rw [HES.out.1]; exact hk67)]
            simpa using this.symm
          · rw [List.getElem?_set_ne (by omega)])
        subst h0
        go_wp2_with fail
        go_roundw
        case rel => exact ⟨k + 1, by omega, by go_num, by rw [HX.out]; exact HB⟩
        case measure => simp [intOf]; omega
      · obtain ⟨q, hq⟩ : ∃ q, q = k % n := ⟨_, rfl⟩
        obtain ⟨u, hu⟩ : ∃ u, u = k / n := ⟨_, rfl⟩
        have hqn : q < n := by rw [hq]; exact Nat.mod_lt _ (by omega)
        have hu66 : u ≤ 66 := by rw [hu]; exact Nat.le_trans (Nat.div_le_self _ _) (by omega)
        have e1 : (k : Int) % (n : Int) = (q : Int) := by rw [hq]; exact (Int.natCast_emod k n).symm
        have e2 : (k : Int) / (n : Int) = (u : Int) := by rw [hu]; exact (Int.natCast_ediv k n).symm
        have hn0 : (0 : Int) < (n : Int) := by omega
        obtain ⟨b, o, rfl, hbl, hrow⟩ := HR.out.at q hqn
        obtain ⟨d, hd⟩ : ∃ d, d = l.getD q [] := ⟨_, rfl⟩
        rw [← hd] at hrow
        have HDD := Lib.hid (show D32 d from by rw [hd]; exact D32.get HR.out.2.1 q (by rw [HR.out.1]; exact hqn))
        obtain ⟨x, hx⟩ : ∃ x, x = d.getD 5 0 := ⟨_, rfl⟩
        have hx8 : x < 256 := by rw [hx, getD_at _ _ (by rw [HDD.out.1]; omega)]; exact HDD.out.2 _ (List.getElem_mem _)
        obtain ⟨y, hy⟩ : ∃ y, y = (x + u) % 256 := ⟨_, rfl⟩
        have w2 : IntKind.u8.wrap (u : Int) = (u : Int) := by rw [IntKind.wrap_u8]; omega
        have e3 : ((x : Int) + (u : Int)) % 256 = (y : Int) := by omega
        have w3 : IntKind.u8.wrap ((x : Int) + (u : Int)) = (y : Int) := by rw [IntKind.wrap_u8]; omega
        have HFK := Lib.hid (show d.set 5 y = f k from by rw [HFC.out, if_neg h0, rs, ← hq, ← hu, ← hd, ← hx, ← hy])
        have hcell : wr.rangeAt b (o + q * 32) (cellsOf d) := fun j v hv => (HB.out.2.2.cell (p := ⟨b, o + q * 32 + j, none⟩) hbl).trans (hrow j v hv)
        have HLD := Lib.hid (run_dload dtR wr b (o + q * 32) d HDD.out hcell)
        have kI := fun W => run_dindex dtR W b o n cap q hqn
        have HTH := Lib.hid (there_at HB.out.2.1 HES.out k hk67 HDD.out)
        have HST := Lib.hid (set_at HB.out.2.1 HES.out k hk67 HDD.out)
        have H1 := Lib.hid (HB.out.at1 HST.out.2 HST.out.1)
        have HIY := Lib.hid (info_r32 d HDD.out)
        have HX5 := Lib.hid hx
        clear hq hu hd hrow hcell hy hx
        go_upto_region 7 with (first | (refine wpList_loadg 22 (.tmp 21) (by rfl) (by rfl) (.pointer (some ⟨b, o + q * 32, none⟩)) (by rfl) (.agg (cellsOf d).toArray) HLD.out ?_) | (refine wpList_store_mid (by rfl) 22 (.tmp 23) (.tmp 22) (by rfl) (w.heap.size + 1) (k * 32) (cellsOf d).toArray (by rfl) (by rfl) HTH.out HIY.out (cellsOf_all _) ?_))
        refine gen_code (F := CR w m (es.set k d)) H1.out ?_
        intro w2' h2
        have HG2 := Lib.hid (show (es.set k d).getD k [] = d from by
          rw [List.getD_eq_getElem?_getD, List.getElem?_set_self (by rw [HES.out.1]; exact hk67)]; rfl)
        have HE2 := Lib.hid (HES.out.set k HDD.out)
        have c5 := (h2.cell HE2.out k 5 hk67 (by omega)).1
        rw [HG2.out, ← HX5.out] at c5
        have z5 := (h2.cell HE2.out k 5 hk67 (by omega)).2
        have H3 := Lib.hid (h2.put HE2.out k 5 y hk67 (by omega))
        rw [HG2.out, List.set_set, HFK.out, HNX.out] at H3
        have H3d := Lib.hid (show CR w m (pre f zs7 (k + 1)) (w2'.setCell ⟨w.heap.size + 1, k * 32 + 5, none⟩ (.int .u8 (((x : Int) + (u : Int)) % 256))).drew from by rw [e3]; exact H3.out.drew)
        clear h2 HB HTH HST H1 HLD
        go_region
        all_goals
          go_wp2_with fail
          go_roundw
          case rel => exact ⟨k + 1, by omega, by go_num, H3d⟩
          case measure => simp [intOf]; omega
    · obtain rfl : k = 67 := by omega
      obtain ⟨sg, hsg⟩ : ∃ sg, sg = es := ⟨_, rfl⟩
      rw [← hsg] at HB HES
      clear hsg hes
      obtain ⟨S, hS⟩ : ∃ S, S = Ch.pressS (Ch.topsS key m sg) := ⟨_, rfl⟩
      have HSD := Lib.hid (show D32 S from by rw [hS]; exact d32_of_sum _)
      have HT' := Lib.hid (show ∀ W, CR w m sg W → Tab W from fun W hW => HT.out.below hW.2.2 hpos)
      have HAW := Lib.hid (show ∀ W, CR w m sg W → Calls Tryd.prog 14 #[] W (fun e w' => e = .returned (.bool true) ∧ Below W.heap.size W w') from fun W hW => awake4_c W (HT'.out W hW))
      have HTO := Lib.hid (fun W => cto_c sg W HES.out)
      have HRC := Lib.hid (show ∀ W, CR w m sg W → Calls Tryd.prog 28 #[.int .u32 (key : Int), .agg (cellsOf m).toArray, .agg (cellsOf sg.flatten).toArray] W (DigRet S W) from fun W hW => by rw [hS]; exact recover_c key m sg W HM.out HES.out hk' (HT'.out W hW))
      have HRR := Lib.hid (show ∀ W, Calls Tryd.prog 30 #[.int .u32 (key : Int), .agg (cellsOf m).toArray, .agg (cellsOf sg.flatten).toArray] W (DigRet S W) from fun W => by rw [hS]; exact rrecover_c key m sg W HM.out HES.out hk')
      have HLM := Lib.hid (fun W (hW : CR w m sg W) => loadR W w.heap.size m HM.out hW.1)
      have HLG := Lib.hid (fun W (hW : CR w m sg W) => load_r7 W (w.heap.size + 1) sg HES.out hW.2.1)
      have HSS := Lib.hid (fun W => eqA W HSD.out)
      have HGT := Lib.hid (show Tryd.prog.eqGuardType Tryd.prog.depth 25 = false by kernel_rfl)
      clear hS
      go_upto_region 9 with fail
      (try dsimp only [Act.put, List.setIfInBounds_toArray, List.set_cons_zero, List.set_cons_succ])
      have HS := Lib.hid HB.out.drew
      clear HB
      refine anyH_begin (S := CR w m sg) (by kernel_rfl) ?_
      refine anyH_callG 0 (d := some 37) (f := 14) (xs := #[]) (ts := #[]) (gd := none) (vs := #[]) (by kernel_rfl) (by rfl) (fun o ho => wanted_plain ho _) (by go_simp) (by go_simp) (HAW.out _ HS.out) ?_
      rintro e91 w91 ⟨rfl, hb91⟩
      refine ⟨_, rfl, HS.out.below hb91, fun hS91 => ?_⟩
      have HS := Lib.hid hS91
      clear hS91 hb91
      simp only [Act.put, List.setIfInBounds_toArray, List.set_cons_zero, List.set_cons_succ]
      refine anyH_pureG 1 (d := 38) (op := .move (.tmp 37)) (gd := none) (.bool true) (by rfl) (fun o ho => wanted_plain ho _) (by kernel_rfl) (by kernel_rfl) (by kernel_rfl) (fun _ _ _ h => h) (fun o ho W hW => by unfold execOp; simp only [ho]; go_simp) HS.out ?_
      simp only [Act.put, List.setIfInBounds_toArray, List.set_cons_zero, List.set_cons_succ]
      refine anyH_pureG 2 (d := 39) (op := .move (.tmp 0)) (gd := some (1, true)) (.int .u32 (key : Int)) (by rfl) (fun o ho => by simp only [Region.wanted, ho]; rfl) (by kernel_rfl) (by kernel_rfl) (by kernel_rfl) (fun _ _ _ h => h) (fun o ho W hW => by unfold execOp; simp only [ho]; go_simp) HS.out ?_
      simp only [Act.put, List.setIfInBounds_toArray, List.set_cons_zero, List.set_cons_succ]
      refine anyH_loadG 3 (d := 40) (ty := 22) (x := (.tmp 4)) (gd := some (1, true)) (p := .pointer (some ⟨w.heap.size, 0, none⟩)) (.agg (cellsOf m).toArray) (by rfl) (fun o ho => by simp only [Region.wanted, ho]; rfl) (by kernel_rfl) (by kernel_rfl) (by kernel_rfl) (fun _ _ _ h => h) (by rfl) HLM.out HS.out ?_
      simp only [Act.put, List.setIfInBounds_toArray, List.set_cons_zero, List.set_cons_succ]
      refine anyH_loadG 4 (d := 41) (ty := 46) (x := (.tmp 7)) (gd := some (1, true)) (p := .pointer (some ⟨w.heap.size + 1, 0, none⟩)) (.agg (cellsOf sg.flatten).toArray) (by rfl) (fun o ho => by simp only [Region.wanted, ho]; rfl) (by kernel_rfl) (by kernel_rfl) (by kernel_rfl) (fun _ _ _ h => h) (by rfl) HLG.out HS.out ?_
      simp only [Act.put, List.setIfInBounds_toArray, List.set_cons_zero, List.set_cons_succ]
      refine anyH_pureG 7 (d := 44) (op := .move (.tmp 0)) (gd := some (1, true)) (.int .u32 (key : Int)) (by rfl) (fun o ho => by simp only [Region.wanted, ho]; rfl) (by kernel_rfl) (by kernel_rfl) (by kernel_rfl) (fun _ _ _ h => h) (fun o ho W hW => by unfold execOp; simp only [ho]; go_simp) HS.out ?_
      simp only [Act.put, List.setIfInBounds_toArray, List.set_cons_zero, List.set_cons_succ]
      refine anyH_loadG 8 (d := 45) (ty := 22) (x := (.tmp 4)) (gd := some (1, true)) (p := .pointer (some ⟨w.heap.size, 0, none⟩)) (.agg (cellsOf m).toArray) (by rfl) (fun o ho => by simp only [Region.wanted, ho]; rfl) (by kernel_rfl) (by kernel_rfl) (by kernel_rfl) (fun _ _ _ h => h) (by rfl) HLM.out HS.out ?_
      simp only [Act.put, List.setIfInBounds_toArray, List.set_cons_zero, List.set_cons_succ]
      refine anyH_loadG 9 (d := 46) (ty := 46) (x := (.tmp 7)) (gd := some (1, true)) (p := .pointer (some ⟨w.heap.size + 1, 0, none⟩)) (.agg (cellsOf sg.flatten).toArray) (by rfl) (fun o ho => by simp only [Region.wanted, ho]; rfl) (by kernel_rfl) (by kernel_rfl) (by kernel_rfl) (fun _ _ _ h => h) (by rfl) HLG.out HS.out ?_
      simp only [Act.put, List.setIfInBounds_toArray, List.set_cons_zero, List.set_cons_succ]
      refine anyH_callG 5 (d := some 42) (f := 29) (xs := #[(.tmp 41)]) (ts := #[46]) (gd := some (1, true)) (vs := #[.agg (cellsOf sg.flatten).toArray]) (by kernel_rfl) (by rfl) (fun o ho => by simp only [Region.wanted, ho]; rfl) (by go_simp) (by go_simp) (HTO.out _) ?_
      rintro e92 w92 ⟨rfl, hb92⟩
      refine ⟨_, rfl, HS.out.below hb92, fun hS92 => ?_⟩
      have HS := Lib.hid hS92
      clear hS92 hb92
      simp only [Act.put, List.setIfInBounds_toArray, List.set_cons_zero, List.set_cons_succ]
      refine anyH_callG 6 (d := some 43) (f := 28) (xs := #[(.tmp 39), (.tmp 40), (.tmp 42)]) (ts := #[23, 25, 44]) (gd := some (1, true)) (vs := #[.int .u32 (key : Int), .agg (cellsOf m).toArray, .agg (cellsOf sg.flatten).toArray]) (by kernel_rfl) (by rfl) (fun o ho => by simp only [Region.wanted, ho]; rfl) (by go_simp) (by go_simp) (HRC.out _ HS.out) ?_
      rintro e93 w93 ⟨rfl, hb93⟩
      refine ⟨_, rfl, HS.out.below hb93, fun hS93 => ?_⟩
      have HS := Lib.hid hS93
      clear hS93 hb93
      simp only [Act.put, List.setIfInBounds_toArray, List.set_cons_zero, List.set_cons_succ]
      refine anyH_callG 10 (d := some 47) (f := 30) (xs := #[(.tmp 44), (.tmp 45), (.tmp 46)]) (ts := #[23, 22, 46]) (gd := some (1, true)) (vs := #[.int .u32 (key : Int), .agg (cellsOf m).toArray, .agg (cellsOf sg.flatten).toArray]) (by kernel_rfl) (by rfl) (fun o ho => by simp only [Region.wanted, ho]; rfl) (by go_simp) (by go_simp) (HRR.out _) ?_
      rintro e94 w94 ⟨rfl, hb94⟩
      refine ⟨_, rfl, HS.out.below hb94, fun hS94 => ?_⟩
      have HS := Lib.hid hS94
      clear hS94 hb94
      simp only [Act.put, List.setIfInBounds_toArray, List.set_cons_zero, List.set_cons_succ]
      refine anyH_eqG 11 (d := 48) (t := 25) (t' := 25) (x := (.tmp 43)) (y := (.tmp 47)) (gd := some (1, true)) ((cellsOf S).toArray) ((cellsOf S).toArray) true (by rfl) (fun o ho => by simp only [Region.wanted, ho]; rfl) (by kernel_rfl) (by kernel_rfl) (by kernel_rfl) (fun _ _ _ h => h) (by rfl) (by rfl) HGT.out (fun W => HSS.out W) HS.out ?_
      simp only [Act.put, List.setIfInBounds_toArray, List.set_cons_zero, List.set_cons_succ]
      refine anyH_pureG 12 (d := 49) (op := .pick (.tmp 38) (.tmp 48) (.const (.bool false))) (gd := none) (.bool true) (by rfl) (fun o ho => wanted_plain ho _) (by kernel_rfl) (by kernel_rfl) (by kernel_rfl) (fun _ _ _ h => h) (fun o ho W hW => by unfold execOp; simp only [ho]; go_simp) HS.out ?_
      simp only [Act.put, List.setIfInBounds_toArray, List.set_cons_zero, List.set_cons_succ]
      refine anyH_pureG 13 (d := 6) (op := .assign (.tmp 49)) (gd := none) (.bool true) (by rfl) (fun o ho => wanted_plain ho _) (by kernel_rfl) (by kernel_rfl) (by kernel_rfl) (fun _ _ _ h => h) (fun o ho W hW => by unfold execOp; simp only [ho]; go_simp) HS.out ?_
      simp only [Act.put, List.setIfInBounds_toArray, List.set_cons_zero, List.set_cons_succ]
      refine wpAnyH_done (by kernel_rfl) ?_ _
      go_wp2
      go_ret
      exact ⟨rfl, HS.out.2.2⟩
theorem crecovers_c (key : Int) (m : List Nat) (a : Option Addr) (n cap : Nat) (l : Ds) (w : World) (hk : (Lit.int .u32 key).wf = true) (hm : D32 m) (hr : DigsIn w a n cap l) (ht : Tab w) :
    Calls Tryd.prog 8 #[.int .u32 key, .agg (cellsOf m).toArray, .slice a n cap] w fun e w' => e = .returned (.bool true) ∧ Below w.heap.size w w' := by
  have h1 : 0 ≤ key ∧ key ≤ 4294967295 := by simpa [Lit.wf, IntKind.min, IntKind.max, IntKind.signed, IntKind.bits] using hk
  obtain ⟨k', rfl⟩ : ∃ k : Nat, key = (k : Int) := ⟨key.toNat, by omega⟩
  exact recovers_c k' m a n cap l w hm hr (by omega) ht
end Go.Proofs.YtealeefkeikcbabDoor
