/-
  The program's bytes of a head and of a record.
-/
import Derived.Test.YtjjkfbebaoikbaaDoorRcd
import Derived.Test.YtjjkfbebaoikbaaDoorTba
import Derived.Test.YtjjkfbebaoikbaaDoorCct
import Derived.Test.YtjjkfbebaoikbaaDoorTxr
namespace Go.Proofs.YtjjkfbebaoikbaaDoor.Rc
open Go.RowKit Go.Proofs.Nm Go.Proofs.YtjjkfbebaoikbaaDoor
set_option linter.unusedVariables false
theorem slInfo : (Tryd.prog.info? 25).map (fun i => (i.zero, i.size, i.bytes)) = some (some (.slice none 0 0), 1, 24) := by kernel_rfl
/-- slices laid in a row -/
theorem wp_lay4R {w : World} {o : Oper} {a : Act} {K : Act → World → Prop} {Q : Exit → Act → World → Prop} (x0 x1 x2 x3 : Operand) (ho : o.op = .buildSlice 75 4 #[(0, x0), (1, x1), (2, x2), (3, x3)])
    (s0 s1 s2 s3 : Sl) (h0 : a.eval x0 = slv s0) (h1 : a.eval x1 = slv s1) (h2 : a.eval x2 = slv s2) (h3 : a.eval x3 = slv s3)
    (h : K (a.put o.dst (.slice (some ⟨w.heap.size, 0, none⟩) 4 4)) (w.alloc (.cells #[slv s0, slv s1, slv s2, slv s3] 25))) : o.wp Tryd.prog a w K Q := by
  obtain ⟨i0, hi, hz0, hz1, hz2⟩ := info_parts slInfo
  refine wp_buildSlice 75 25 4 _ ho #[slv s0, slv s1, slv s2, slv s3] i0 (.slice none 0 0) Tryd.underlying75 hi hz0 (by rw [hz1]; omega) (by rw [hz1]; omega) ?_ h
  rw [hz1]
  simp only [List.map_toArray, List.map_cons, List.map_nil, h0, h1, h2, h3]
  kernel_rfl
theorem wp_lay5R {w : World} {o : Oper} {a : Act} {K : Act → World → Prop} {Q : Exit → Act → World → Prop} (x0 x1 x2 x3 x4 : Operand) (ho : o.op = .buildSlice 75 5 #[(0, x0), (1, x1), (2, x2), (3, x3), (4, x4)])
    (s0 s1 s2 s3 s4 : Sl) (h0 : a.eval x0 = slv s0) (h1 : a.eval x1 = slv s1) (h2 : a.eval x2 = slv s2) (h3 : a.eval x3 = slv s3) (h4 : a.eval x4 = slv s4)
    (h : K (a.put o.dst (.slice (some ⟨w.heap.size, 0, none⟩) 5 5)) (w.alloc (.cells #[slv s0, slv s1, slv s2, slv s3, slv s4] 25))) : o.wp Tryd.prog a w K Q := by
  obtain ⟨i0, hi, hz0, hz1, hz2⟩ := info_parts slInfo
  refine wp_buildSlice 75 25 5 _ ho #[slv s0, slv s1, slv s2, slv s3, slv s4] i0 (.slice none 0 0) Tryd.underlying75 hi hz0 (by rw [hz1]; omega) (by rw [hz1]; omega) ?_ h
  rw [hz1]
  simp only [List.map_toArray, List.map_cons, List.map_nil, h0, h1, h2, h3, h4]
  kernel_rfl
/-- Concat of slices that were just laid in a row -/
theorem concat_row (L : List Sl) (vs : Array Value) (k : Nat) (w : World) (hv : vs = (L.map slv).toArray) (hl : L.length = k) (hk : k ≤ 100) (hok : ∀ s ∈ L, SlOk w s) (htot : (catS L).length ≤ 140737488355328) :
    Calls Tryd.prog 24 #[.slice (some ⟨w.heap.size, 0, none⟩) k k] (w.alloc (.cells vs 25)) fun e w' => ∃ v, e = .returned v ∧ Own w' w.heap.size v (catS L) ∧ Below w.heap.size w w' := by
  subst hv
  have hb : Below w.heap.size w (w.alloc (.cells (L.map slv).toArray 25)) := (Below.refl _ _).alloc (Nat.le_refl _) _
  refine (concat_c L w.heap.size k k _ hl (by omega) (by simp) (fun i s hs => ?_) (fun s hs => ⟨(hok s hs).1.below hb, (hok s hs).2⟩) htot).mono ?_
  · rw [cell_of_row _ _ i _ _ _ (heap_new w _), List.getElem?_toArray, List.getElem?_map, hs]
    rfl
  · rintro e w' ⟨v, rfl, ho, hbb⟩
    exact ⟨v, rfl, own_mono ho hb.size, hb.trans (hbb.mono hb.size)⟩
/-- one byte laid in a new row -/
theorem lay_one (w : World) (n : Nat) (hn : n < 256) : Rd (w.alloc (.cells #[.int .u8 (n : Int)] 5)) (some ⟨w.heap.size, 0, none⟩) 1 [n] := own_rd (own_lay w n) (by simpa using hn)
theorem Bx.rdRoot {w W : World} {g : Nat} {t : TypeId} {h : Hdv} (hb : Bx w g t (hdC h) W) (hd : dOk h.root) : Rd W (some ⟨g, 1, none⟩) 32 h.root := by
  refine ⟨hd.1, hd.2, .inr ⟨g, 1, rfl, hb.1.lt, fun i hi => ?_⟩⟩
  have hi2 : i < h.root.length := by rw [hd.1]; exact hi
  exact hb.1.rootAt i _ (cellsOf_get h.root i hi2 ▸ by rw [cellsOf_get _ _ hi2])
theorem Bx.rdDig {w W : World} {g : Nat} {t : TypeId} {r : Rcv} (hb : Bx w g t (recC r) W) (hd : dOk r.dig) : Rd W (some ⟨g, 3, none⟩) 32 r.dig := by
  refine ⟨hd.1, hd.2, .inr ⟨g, 3, rfl, hb.1.lt, fun i hi => ?_⟩⟩
  have hi2 : i < r.dig.length := by rw [hd.1]; exact hi
  exact hb.1.digAt i _ (cellsOf_get r.dig i hi2 ▸ by rw [cellsOf_get _ _ hi2])
set_option maxRecDepth 100000 in
set_option maxHeartbeats 4000000 in
theorem encH_no (h : Hdv) (hd : dOk h.root) (hr : hrB h = false) (w : World) :
    Calls Tryd.prog 17 #[.agg (hdC h)] w fun e w' => e = .returned (.tuple #[.slice none 0 0, .int .i64 1]) ∧ Below w.heap.size w w' := by
  have HI := Lib.hid (show (Tryd.prog.info? 48).map (·.size) = some (hdC h).size from by rw [hdC_size hd]; exact info_ph)
  have HK := Lib.hid fun W => rightH_c h hd W
  rw [hr] at HK
  obtain ⟨C, hC⟩ : ∃ C, C = hdC h := ⟨_, rfl⟩
  rw [← hC] at HI HK ⊢
  clear hC hd hr
  go_enter Tryd.func17, Tryd.ntmps17
  go_upto_region 1 with (fail)
  obtain ⟨g, hg⟩ : ∃ g, g = w.heap.size := ⟨_, rfl⟩
  refine gen_codeR (F := Bx w g 48 C) (by rw [hg]; exact Bx.new _ _ _) ?_
  rw [← hg]
  rintro w0 hb0
  have H0 := Lib.hid hb0
  clear hg hb0
  go_wp2_with (first | (refine wpList_loadg 48 _ (by rfl) (by rfl) (.pointer (some ⟨g, 0, none⟩)) (by rfl) (.agg C) (H0.out.1.load Tryd.underlying48 HI.out) ?_) | (go_at_call 21; (refine (HK.out _).mono ?_); rintro e w1 ⟨rfl, hb⟩; have H1 := Lib.hid (H0.out.step hb); clear hb))
  go_ret2
  exact ⟨rfl, H1.out.2⟩
set_option maxRecDepth 100000 in
set_option maxHeartbeats 8000000 in
theorem encH_ok (N M : Nat) (root : List Nat) (hd : dOk root) (hN : N ≤ 1048576) (hM : M ≤ 1099511627776) (w : World) :
    Calls Tryd.prog 17 #[.agg (hdC ⟨N, root, M⟩)] w fun e w' => ∃ v, e = .returned (.tuple #[v, .int .i64 0]) ∧ Own w' w.heap.size v (hencL ⟨N, root, M⟩) ∧ Below w.heap.size w w' := by
  have hr : hrB ⟨N, root, M⟩ = true := by unfold hrB; simp only [Bool.and_eq_true, decide_eq_true_eq]; omega
  have HI := Lib.hid (show (Tryd.prog.info? 48).map (·.size) = some (hdC ⟨N, root, M⟩).size from by rw [hdC_size hd]; exact info_ph)
  have HK := Lib.hid fun W => rightH_c ⟨N, root, M⟩ hd W
  rw [hr] at HK
  have HD := Lib.hid hd
  have HPN := Lib.hid fun W => (number_c N W (by omega)).mono (RetB.form (Numm.put_byte _ _))
  have HPM := Lib.hid fun W => (number_c M W (by omega)).mono (RetB.form (Numm.put_byte _ _))
  obtain ⟨C, hC⟩ : ∃ C, C = hdC ⟨N, root, M⟩ := ⟨_, rfl⟩
  rw [← hC] at HI HK ⊢
  have HC := Lib.hid hC
  clear hC hd hr hN hM
  go_enter Tryd.func17, Tryd.ntmps17
  go_upto_region 1 with (fail)
  obtain ⟨g, hg⟩ : ∃ g, g = w.heap.size := ⟨_, rfl⟩
  refine gen_codeR (F := Bx w g 48 C) (by rw [hg]; exact Bx.new _ _ _) ?_
  rw [← hg]
  rintro w0 hb0
  have H0 := Lib.hid hb0
  clear hg hb0
  go_wp2_with (first | (refine wpList_loadg 48 _ (by rfl) (by rfl) (.pointer (some ⟨g, 0, none⟩)) (by rfl) (.agg C) (H0.out.1.load Tryd.underlying48 HI.out) ?_) | (go_at_call 21; (refine (HK.out _).mono ?_); rintro e w1 ⟨rfl, hb⟩; have H1 := Lib.hid (H0.out.step hb); clear hb))
  have HS1 := Lib.hid (show Bx w g 48 (hdC ⟨N, root, M⟩) w1 from by rw [← HC.out]; exact H1.out)
  clear H0 H1 HC HI HK
  refine anyH_begin (S := Bx w g 48 (hdC ⟨N, root, M⟩)) (by kernel_rfl) ?_
  obtain ⟨w2, hw2⟩ : ∃ w2, w2 = w1.drew := ⟨_, rfl⟩
  have HS := Lib.hid (show Bx w g 48 (hdC ⟨N, root, M⟩) w2 from by rw [hw2]; exact HS1.out.step (below_drewN' _ w1 1))
  rw [← hw2]
  clear hw2 HS1
  refine anyH_pureG 1 (d := 8) (op := .fieldAddr 48 (.tmp 1) 0) (gd := none) (.pointer (some ⟨g, 0, none⟩)) (by rfl) (fun o ho => wanted_plain ho _) (by kernel_rfl) (by kernel_rfl) (by kernel_rfl) (fun _ _ _ h => h) (fun o ho W hW => by unfold execOp; simp only [ho]; go_simp) HS.out ?_
  simp only [Act.put, List.setIfInBounds_toArray, List.set_cons_zero, List.set_cons_succ]
  refine anyH_loadG 2 (d := 9) (ty := 3) (x := (.tmp 8)) (gd := none) (p := .pointer (some ⟨g, 0, none⟩)) (.int .i64 (N : Int)) (by rfl) (fun o ho => wanted_plain ho _) (by kernel_rfl) (by kernel_rfl) (by kernel_rfl) (fun _ _ _ h => h) (by rfl) (fun W hW => by have c0 := hW.1.h0; go_simp) HS.out ?_
  simp only [Act.put, List.setIfInBounds_toArray, List.set_cons_zero, List.set_cons_succ]
  refine anyH_pureG 4 (d := 11) (op := .fieldAddr 48 (.tmp 1) 1) (gd := none) (.pointer (some ⟨g, 1, none⟩)) (by rfl) (fun o ho => wanted_plain ho _) (by kernel_rfl) (by kernel_rfl) (by kernel_rfl) (fun _ _ _ h => h) (fun o ho W hW => by unfold execOp; simp only [ho]; go_simp) HS.out ?_
  simp only [Act.put, List.setIfInBounds_toArray, List.set_cons_zero, List.set_cons_succ]
  refine anyH_pureG 5 (d := 12) (op := .slice 29 (.tmp 11) none none none) (gd := none) (.slice (some ⟨g, 1, none⟩) 32 32) (by rfl) (fun o ho => wanted_plain ho _) (by kernel_rfl) (by kernel_rfl) (by kernel_rfl) (fun _ _ _ h => h) (fun o ho W hW => by unfold execOp; simp only [ho]; simp [run_digAll W g 1, Act.eval]) HS.out ?_
  simp only [Act.put, List.setIfInBounds_toArray, List.set_cons_zero, List.set_cons_succ]
  refine anyH_pureG 6 (d := 13) (op := .fieldAddr 48 (.tmp 1) 2) (gd := none) (.pointer (some ⟨g, 33, none⟩)) (by rfl) (fun o ho => wanted_plain ho _) (by kernel_rfl) (by kernel_rfl) (by kernel_rfl) (fun _ _ _ h => h) (fun o ho W hW => by unfold execOp; simp only [ho]; go_simp) HS.out ?_
  simp only [Act.put, List.setIfInBounds_toArray, List.set_cons_zero, List.set_cons_succ]
  refine anyH_loadG 7 (d := 14) (ty := 3) (x := (.tmp 13)) (gd := none) (p := .pointer (some ⟨g, 33, none⟩)) (.int .i64 (M : Int)) (by rfl) (fun o ho => wanted_plain ho _) (by kernel_rfl) (by kernel_rfl) (by kernel_rfl) (fun _ _ _ h => h) (by rfl) (fun W hW => by have c33 := hW.1.h33 HD.out; go_simp) HS.out ?_
  simp only [Act.put, List.setIfInBounds_toArray, List.set_cons_zero, List.set_cons_succ]
  refine anyH_twoT 0 3 (d1 := some 7) (op1 := .buildSlice 25 1 #[(0, (.const (.int .u8 7)))]) (d2 := some 10) (op2 := .call { callee := .value (.func 25), args := #[(.tmp 9)], argTypes := #[3] }) (by kernel_rfl) (by rfl) (by rfl) (fun o hod hoo => ?_) (fun o hod hoo => ?_)
  · refine wp_layT (.const (.int .u8 7)) hoo 7 (by rfl) ?_
    obtain ⟨wz2, hwz2⟩ : ∃ W, W = w2.alloc (.cells #[.int .u8 ((7 : Nat) : Int)] 5) := ⟨_, rfl⟩
    obtain ⟨q, hq⟩ : ∃ q, q = w2.heap.size := ⟨_, rfl⟩
    have hb2 : Below w2.heap.size w2 wz2 := by rw [hwz2]; exact (Below.refl _ _).alloc (Nat.le_refl _) _
    have HL2 := Lib.hid (show Rd wz2 (some ⟨q, 0, none⟩) 1 [7] from by rw [hwz2, hq]; exact lay_one w2 7 (by omega))
    have HS2 := Lib.hid (HS.out.step hb2)
    rw [← hwz2, ← hq]
    clear hwz2 hq hb2
    refine ⟨HS2.out, ?_⟩
    rw [hod]
    simp only [Act.put, List.setIfInBounds_toArray, List.set_cons_zero, List.set_cons_succ]
    refine anyH_oneT 3 (d1 := some 10) (op1 := .call { callee := .value (.func 25), args := #[(.tmp 9)], argTypes := #[3] }) (by kernel_rfl) (by rfl) (fun o hod hoo => ?_)
    refine wp_callT hoo (by go_simp) (by go_simp) (HPN.out wz2) ?_
    rintro e wz4 ⟨a10, n10, c10, rfl, hl4, hlc4, hcm4, hn4, hr4, ho4, hb4⟩
    have HR4 := Lib.hid hr4
    have HNN := Lib.hid hn4
    have hL4 : n10 = 8 := by rw [← hl4, Numm.put_len]
    have HS4 := Lib.hid (HS2.out.step hb4)
    have HL2x4 := Lib.hid (HL2.out.below hb4)
    clear hl4 hlc4 hcm4 hn4 hr4 ho4 hb4
    subst hL4
    refine ⟨_, rfl, HS4.out, ?_⟩
    rw [hod]
    simp only [Act.put, List.setIfInBounds_toArray, List.set_cons_zero, List.set_cons_succ]
    refine anyH_oneT 8 (d1 := some 15) (op1 := .call { callee := .value (.func 25), args := #[(.tmp 14)], argTypes := #[3] }) (by kernel_rfl) (by rfl) (fun o hod hoo => ?_)
    refine wp_callT hoo (by go_simp) (by go_simp) (HPM.out wz4) ?_
    rintro e wz6 ⟨a15, n15, c15, rfl, hl6, hlc6, hcm6, hn6, hr6, ho6, hb6⟩
    have HR6 := Lib.hid hr6
    have HNM := Lib.hid hn6
    have hL6 : n15 = 8 := by rw [← hl6, Numm.put_len]
    have HS6 := Lib.hid (HS4.out.step hb6)
    have HL2x4x6 := Lib.hid (HL2x4.out.below hb6)
    have HR4x6 := Lib.hid (HR4.out.below hb6)
    clear hl6 hlc6 hcm6 hn6 hr6 ho6 hb6
    subst hL6
    refine ⟨_, rfl, HS6.out, ?_⟩
    rw [hod]
    simp only [Act.put, List.setIfInBounds_toArray, List.set_cons_zero, List.set_cons_succ]
    refine anyH_oneT 9 (d1 := some 16) (op1 := .buildSlice 75 4 #[(0, (.tmp 7)), (1, (.tmp 10)), (2, (.tmp 12)), (3, (.tmp 15))]) (by kernel_rfl) (by rfl) (fun o hod hoo => ?_)
    have hok : ∀ s ∈ [((some ⟨q, 0, none⟩, 1, 1, [7]) : Sl), (a10, 8, c10, Numm.put N 8), (some ⟨g, 1, none⟩, 32, 32, root), (a15, 8, c15, Numm.put M 8)], SlOk wz6 s := by
      intro s hs
      simp only [List.mem_cons, List.not_mem_nil, or_false] at hs
      rcases hs with rfl | rfl | rfl | rfl
      · exact ⟨HL2x4x6.out, fun e => by cases e⟩
      · exact ⟨HR4x6.out, HNN.out⟩
      · exact ⟨HS6.out.rdRoot HD.out, fun e => by cases e⟩
      · exact ⟨HR6.out, HNM.out⟩
    have HCAT := Lib.hid (concat_row [((some ⟨q, 0, none⟩, 1, 1, [7]) : Sl), (a10, 8, c10, Numm.put N 8), (some ⟨g, 1, none⟩, 32, 32, root), (a15, 8, c15, Numm.put M 8)] #[.slice (some ⟨q, 0, none⟩) 1 1, .slice a10 8 c10, .slice (some ⟨g, 1, none⟩) 32 32, .slice a15 8 c15] 4 wz6 rfl rfl (by omega) hok (by have := HD.out.1; simp only [catS, slz, List.map_cons, List.map_nil, List.flatten_cons, List.flatten_nil, List.length_append, Numm.put_len, List.length_cons, List.length_nil, this]; omega))
    refine wp_lay4R (.tmp 7) (.tmp 10) (.tmp 12) (.tmp 15) hoo (some ⟨q, 0, none⟩, 1, 1, [7]) (a10, 8, c10, Numm.put N 8) (some ⟨g, 1, none⟩, 32, 32, root) (a15, 8, c15, Numm.put M 8) rfl rfl rfl rfl ?_
    have hb9 : Below wz6.heap.size wz6 (wz6.alloc (.cells #[slv (some ⟨q, 0, none⟩, 1, 1, [7]), slv (a10, 8, c10, Numm.put N 8), slv (some ⟨g, 1, none⟩, 32, 32, root), slv (a15, 8, c15, Numm.put M 8)] 25)) := (Below.refl _ _).alloc (Nat.le_refl _) _
    refine ⟨HS6.out.step hb9, ?_⟩
    rw [hod]
    simp only [Act.put, List.setIfInBounds_toArray, List.set_cons_zero, List.set_cons_succ]
    refine anyH_oneT 10 (d1 := some 17) (op1 := .call { callee := .value (.func 24), args := #[(.tmp 16)], argTypes := #[75] }) (by kernel_rfl) (by rfl) (fun o hod hoo => ?_)
    refine wp_callT hoo (by go_simp) (by go_simp) HCAT.out ?_
    rintro e wq ⟨vq, rfl, hoq, hbq⟩
    have HSQ := Lib.hid (HS6.out.step hbq)
    have HOQ := Lib.hid hoq
    have hszq := HS6.out.2.size
    clear hoq hbq hb9 hok
    refine ⟨_, rfl, HSQ.out, ?_⟩
    rw [hod]
    simp only [Act.put, List.setIfInBounds_toArray, List.set_cons_zero, List.set_cons_succ]
    refine anyH_pureG 11 (d := 2) (op := .assign (.tmp 17)) (gd := none) vq (by rfl) (fun o ho => wanted_plain ho _) (by kernel_rfl) (by kernel_rfl) (by kernel_rfl) (fun _ _ _ h => h) (fun o ho W hW => by unfold execOp; simp only [ho]; go_simp) HSQ.out ?_
    simp only [Act.put, List.setIfInBounds_toArray, List.set_cons_zero, List.set_cons_succ]
    refine anyH_pureG 12 (d := 3) (op := .assign (.const (.int .i64 0))) (gd := none) (.int .i64 0) (by rfl) (fun o ho => wanted_plain ho _) (by kernel_rfl) (by kernel_rfl) (by kernel_rfl) (fun _ _ _ h => h) (fun o ho W hW => by unfold execOp; simp only [ho]; go_simp) HSQ.out ?_
    simp only [Act.put, List.setIfInBounds_toArray, List.set_cons_zero, List.set_cons_succ]
    refine wpAnyH_done (by kernel_rfl) ?_ _
    go_wp2_with fail
    go_ret2
    exact ⟨_, rfl, own_mono (by simpa [catS, slz, hencL] using HOQ.out) hszq, HSQ.out.2⟩
  · refine wp_callT hoo (by go_simp) (by go_simp) (HPN.out w2) ?_
    rintro e wz8 ⟨a10, n10, c10, rfl, hl8, hlc8, hcm8, hn8, hr8, ho8, hb8⟩
    have HR8 := Lib.hid hr8
    have HNN := Lib.hid hn8
    have hL8 : n10 = 8 := by rw [← hl8, Numm.put_len]
    have HS8 := Lib.hid (HS.out.step hb8)
    clear hl8 hlc8 hcm8 hn8 hr8 ho8 hb8
    subst hL8
    refine ⟨_, rfl, HS8.out, ?_⟩
    rw [hod]
    simp only [Act.put, List.setIfInBounds_toArray, List.set_cons_zero, List.set_cons_succ]
    refine anyH_twoT 0 8 (d1 := some 7) (op1 := .buildSlice 25 1 #[(0, (.const (.int .u8 7)))]) (d2 := some 15) (op2 := .call { callee := .value (.func 25), args := #[(.tmp 14)], argTypes := #[3] }) (by kernel_rfl) (by rfl) (by rfl) (fun o hod hoo => ?_) (fun o hod hoo => ?_)
    · refine wp_layT (.const (.int .u8 7)) hoo 7 (by rfl) ?_
      obtain ⟨wz10, hwz10⟩ : ∃ W, W = wz8.alloc (.cells #[.int .u8 ((7 : Nat) : Int)] 5) := ⟨_, rfl⟩
      obtain ⟨q, hq⟩ : ∃ q, q = wz8.heap.size := ⟨_, rfl⟩
      have hb10 : Below wz8.heap.size wz8 wz10 := by rw [hwz10]; exact (Below.refl _ _).alloc (Nat.le_refl _) _
      have HL10 := Lib.hid (show Rd wz10 (some ⟨q, 0, none⟩) 1 [7] from by rw [hwz10, hq]; exact lay_one wz8 7 (by omega))
      have HS10 := Lib.hid (HS8.out.step hb10)
      have HR8x10 := Lib.hid (HR8.out.below hb10)
      rw [← hwz10, ← hq]
      clear hwz10 hq hb10
      refine ⟨HS10.out, ?_⟩
      rw [hod]
      simp only [Act.put, List.setIfInBounds_toArray, List.set_cons_zero, List.set_cons_succ]
      refine anyH_oneT 8 (d1 := some 15) (op1 := .call { callee := .value (.func 25), args := #[(.tmp 14)], argTypes := #[3] }) (by kernel_rfl) (by rfl) (fun o hod hoo => ?_)
      refine wp_callT hoo (by go_simp) (by go_simp) (HPM.out wz10) ?_
      rintro e wz12 ⟨a15, n15, c15, rfl, hl12, hlc12, hcm12, hn12, hr12, ho12, hb12⟩
      have HR12 := Lib.hid hr12
      have HNM := Lib.hid hn12
      have hL12 : n15 = 8 := by rw [← hl12, Numm.put_len]
      have HS12 := Lib.hid (HS10.out.step hb12)
      have HR8x10x12 := Lib.hid (HR8x10.out.below hb12)
      have HL10x12 := Lib.hid (HL10.out.below hb12)
      clear hl12 hlc12 hcm12 hn12 hr12 ho12 hb12
      subst hL12
      refine ⟨_, rfl, HS12.out, ?_⟩
      rw [hod]
      simp only [Act.put, List.setIfInBounds_toArray, List.set_cons_zero, List.set_cons_succ]
      refine anyH_oneT 9 (d1 := some 16) (op1 := .buildSlice 75 4 #[(0, (.tmp 7)), (1, (.tmp 10)), (2, (.tmp 12)), (3, (.tmp 15))]) (by kernel_rfl) (by rfl) (fun o hod hoo => ?_)
      have hok : ∀ s ∈ [((some ⟨q, 0, none⟩, 1, 1, [7]) : Sl), (a10, 8, c10, Numm.put N 8), (some ⟨g, 1, none⟩, 32, 32, root), (a15, 8, c15, Numm.put M 8)], SlOk wz12 s := by
        intro s hs
        simp only [List.mem_cons, List.not_mem_nil, or_false] at hs
        rcases hs with rfl | rfl | rfl | rfl
        · exact ⟨HL10x12.out, fun e => by cases e⟩
        · exact ⟨HR8x10x12.out, HNN.out⟩
        · exact ⟨HS12.out.rdRoot HD.out, fun e => by cases e⟩
        · exact ⟨HR12.out, HNM.out⟩
      have HCAT := Lib.hid (concat_row [((some ⟨q, 0, none⟩, 1, 1, [7]) : Sl), (a10, 8, c10, Numm.put N 8), (some ⟨g, 1, none⟩, 32, 32, root), (a15, 8, c15, Numm.put M 8)] #[.slice (some ⟨q, 0, none⟩) 1 1, .slice a10 8 c10, .slice (some ⟨g, 1, none⟩) 32 32, .slice a15 8 c15] 4 wz12 rfl rfl (by omega) hok (by have := HD.out.1; simp only [catS, slz, List.map_cons, List.map_nil, List.flatten_cons, List.flatten_nil, List.length_append, Numm.put_len, List.length_cons, List.length_nil, this]; omega))
      refine wp_lay4R (.tmp 7) (.tmp 10) (.tmp 12) (.tmp 15) hoo (some ⟨q, 0, none⟩, 1, 1, [7]) (a10, 8, c10, Numm.put N 8) (some ⟨g, 1, none⟩, 32, 32, root) (a15, 8, c15, Numm.put M 8) rfl rfl rfl rfl ?_
      have hb9 : Below wz12.heap.size wz12 (wz12.alloc (.cells #[slv (some ⟨q, 0, none⟩, 1, 1, [7]), slv (a10, 8, c10, Numm.put N 8), slv (some ⟨g, 1, none⟩, 32, 32, root), slv (a15, 8, c15, Numm.put M 8)] 25)) := (Below.refl _ _).alloc (Nat.le_refl _) _
      refine ⟨HS12.out.step hb9, ?_⟩
      rw [hod]
      simp only [Act.put, List.setIfInBounds_toArray, List.set_cons_zero, List.set_cons_succ]
      refine anyH_oneT 10 (d1 := some 17) (op1 := .call { callee := .value (.func 24), args := #[(.tmp 16)], argTypes := #[75] }) (by kernel_rfl) (by rfl) (fun o hod hoo => ?_)
      refine wp_callT hoo (by go_simp) (by go_simp) HCAT.out ?_
      rintro e wq ⟨vq, rfl, hoq, hbq⟩
      have HSQ := Lib.hid (HS12.out.step hbq)
      have HOQ := Lib.hid hoq
      have hszq := HS12.out.2.size
      clear hoq hbq hb9 hok
      refine ⟨_, rfl, HSQ.out, ?_⟩
      rw [hod]
      simp only [Act.put, List.setIfInBounds_toArray, List.set_cons_zero, List.set_cons_succ]
      refine anyH_pureG 11 (d := 2) (op := .assign (.tmp 17)) (gd := none) vq (by rfl) (fun o ho => wanted_plain ho _) (by kernel_rfl) (by kernel_rfl) (by kernel_rfl) (fun _ _ _ h => h) (fun o ho W hW => by unfold execOp; simp only [ho]; go_simp) HSQ.out ?_
      simp only [Act.put, List.setIfInBounds_toArray, List.set_cons_zero, List.set_cons_succ]
      refine anyH_pureG 12 (d := 3) (op := .assign (.const (.int .i64 0))) (gd := none) (.int .i64 0) (by rfl) (fun o ho => wanted_plain ho _) (by kernel_rfl) (by kernel_rfl) (by kernel_rfl) (fun _ _ _ h => h) (fun o ho W hW => by unfold execOp; simp only [ho]; go_simp) HSQ.out ?_
      simp only [Act.put, List.setIfInBounds_toArray, List.set_cons_zero, List.set_cons_succ]
      refine wpAnyH_done (by kernel_rfl) ?_ _
      go_wp2_with fail
      go_ret2
      exact ⟨_, rfl, own_mono (by simpa [catS, slz, hencL] using HOQ.out) hszq, HSQ.out.2⟩
    · refine wp_callT hoo (by go_simp) (by go_simp) (HPM.out wz8) ?_
      rintro e wz14 ⟨a15, n15, c15, rfl, hl14, hlc14, hcm14, hn14, hr14, ho14, hb14⟩
      have HR14 := Lib.hid hr14
      have HNM := Lib.hid hn14
      have hL14 : n15 = 8 := by rw [← hl14, Numm.put_len]
      have HS14 := Lib.hid (HS8.out.step hb14)
      have HR8x14 := Lib.hid (HR8.out.below hb14)
      clear hl14 hlc14 hcm14 hn14 hr14 ho14 hb14
      subst hL14
      refine ⟨_, rfl, HS14.out, ?_⟩
      rw [hod]
      simp only [Act.put, List.setIfInBounds_toArray, List.set_cons_zero, List.set_cons_succ]
      refine anyH_oneT 0 (d1 := some 7) (op1 := .buildSlice 25 1 #[(0, (.const (.int .u8 7)))]) (by kernel_rfl) (by rfl) (fun o hod hoo => ?_)
      refine wp_layT (.const (.int .u8 7)) hoo 7 (by rfl) ?_
      obtain ⟨wz16, hwz16⟩ : ∃ W, W = wz14.alloc (.cells #[.int .u8 ((7 : Nat) : Int)] 5) := ⟨_, rfl⟩
      obtain ⟨q, hq⟩ : ∃ q, q = wz14.heap.size := ⟨_, rfl⟩
      have hb16 : Below wz14.heap.size wz14 wz16 := by rw [hwz16]; exact (Below.refl _ _).alloc (Nat.le_refl _) _
      have HL16 := Lib.hid (show Rd wz16 (some ⟨q, 0, none⟩) 1 [7] from by rw [hwz16, hq]; exact lay_one wz14 7 (by omega))
      have HS16 := Lib.hid (HS14.out.step hb16)
      have HR8x14x16 := Lib.hid (HR8x14.out.below hb16)
      have HR14x16 := Lib.hid (HR14.out.below hb16)
      rw [← hwz16, ← hq]
      clear hwz16 hq hb16
      refine ⟨HS16.out, ?_⟩
      rw [hod]
      simp only [Act.put, List.setIfInBounds_toArray, List.set_cons_zero, List.set_cons_succ]
      refine anyH_oneT 9 (d1 := some 16) (op1 := .buildSlice 75 4 #[(0, (.tmp 7)), (1, (.tmp 10)), (2, (.tmp 12)), (3, (.tmp 15))]) (by kernel_rfl) (by rfl) (fun o hod hoo => ?_)
      have hok : ∀ s ∈ [((some ⟨q, 0, none⟩, 1, 1, [7]) : Sl), (a10, 8, c10, Numm.put N 8), (some ⟨g, 1, none⟩, 32, 32, root), (a15, 8, c15, Numm.put M 8)], SlOk wz16 s := by
        intro s hs
        simp only [List.mem_cons, List.not_mem_nil, or_false] at hs
        rcases hs with rfl | rfl | rfl | rfl
        · exact ⟨HL16.out, fun e => by cases e⟩
        · exact ⟨HR8x14x16.out, HNN.out⟩
        · exact ⟨HS16.out.rdRoot HD.out, fun e => by cases e⟩
        · exact ⟨HR14x16.out, HNM.out⟩
      have HCAT := Lib.hid (concat_row [((some ⟨q, 0, none⟩, 1, 1, [7]) : Sl), (a10, 8, c10, Numm.put N 8), (some ⟨g, 1, none⟩, 32, 32, root), (a15, 8, c15, Numm.put M 8)] #[.slice (some ⟨q, 0, none⟩) 1 1, .slice a10 8 c10, .slice (some ⟨g, 1, none⟩) 32 32, .slice a15 8 c15] 4 wz16 rfl rfl (by omega) hok (by have := HD.out.1; simp only [catS, slz, List.map_cons, List.map_nil, List.flatten_cons, List.flatten_nil, List.length_append, Numm.put_len, List.length_cons, List.length_nil, this]; omega))
      refine wp_lay4R (.tmp 7) (.tmp 10) (.tmp 12) (.tmp 15) hoo (some ⟨q, 0, none⟩, 1, 1, [7]) (a10, 8, c10, Numm.put N 8) (some ⟨g, 1, none⟩, 32, 32, root) (a15, 8, c15, Numm.put M 8) rfl rfl rfl rfl ?_
      have hb9 : Below wz16.heap.size wz16 (wz16.alloc (.cells #[slv (some ⟨q, 0, none⟩, 1, 1, [7]), slv (a10, 8, c10, Numm.put N 8), slv (some ⟨g, 1, none⟩, 32, 32, root), slv (a15, 8, c15, Numm.put M 8)] 25)) := (Below.refl _ _).alloc (Nat.le_refl _) _
      refine ⟨HS16.out.step hb9, ?_⟩
      rw [hod]
      simp only [Act.put, List.setIfInBounds_toArray, List.set_cons_zero, List.set_cons_succ]
      refine anyH_oneT 10 (d1 := some 17) (op1 := .call { callee := .value (.func 24), args := #[(.tmp 16)], argTypes := #[75] }) (by kernel_rfl) (by rfl) (fun o hod hoo => ?_)
      refine wp_callT hoo (by go_simp) (by go_simp) HCAT.out ?_
      rintro e wq ⟨vq, rfl, hoq, hbq⟩
      have HSQ := Lib.hid (HS16.out.step hbq)
      have HOQ := Lib.hid hoq
      have hszq := HS16.out.2.size
      clear hoq hbq hb9 hok
      refine ⟨_, rfl, HSQ.out, ?_⟩
      rw [hod]
      simp only [Act.put, List.setIfInBounds_toArray, List.set_cons_zero, List.set_cons_succ]
      refine anyH_pureG 11 (d := 2) (op := .assign (.tmp 17)) (gd := none) vq (by rfl) (fun o ho => wanted_plain ho _) (by kernel_rfl) (by kernel_rfl) (by kernel_rfl) (fun _ _ _ h => h) (fun o ho W hW => by unfold execOp; simp only [ho]; go_simp) HSQ.out ?_
      simp only [Act.put, List.setIfInBounds_toArray, List.set_cons_zero, List.set_cons_succ]
      refine anyH_pureG 12 (d := 3) (op := .assign (.const (.int .i64 0))) (gd := none) (.int .i64 0) (by rfl) (fun o ho => wanted_plain ho _) (by kernel_rfl) (by kernel_rfl) (by kernel_rfl) (fun _ _ _ h => h) (fun o ho W hW => by unfold execOp; simp only [ho]; go_simp) HSQ.out ?_
      simp only [Act.put, List.setIfInBounds_toArray, List.set_cons_zero, List.set_cons_succ]
      refine wpAnyH_done (by kernel_rfl) ?_ _
      go_wp2_with fail
      go_ret2
      exact ⟨_, rfl, own_mono (by simpa [catS, slz, hencL] using HOQ.out) hszq, HSQ.out.2⟩
theorem strL_T (l : List UInt8) : strL (T l) = sB l := rfl
theorem T_size (l : List UInt8) : (T l).size = l.length := by simp [ByteArray.size]
theorem wp_toBytesR {w : World} {o : Oper} {a : Act} {K : Act → World → Prop} {Q : Exit → Act → World → Prop} (x : Operand)
    (ho : o.op = .convert 9 25 x) (l : List UInt8) (hx : a.eval x = .string (T l)) (hs : l.length ≤ 140737488351232)
    (h : ∀ b c w', Rd w' (some ⟨b, 0, none⟩) l.length (sB l) → l.length ≤ c → w.heap.size ≤ b → Below w.heap.size w w' → K (a.put o.dst (.slice (some ⟨b, 0, none⟩) l.length c)) w') : o.wp Tryd.prog a w K Q := by
  have hr := run_bytes_of_string (P := Tryd.prog) w 9 25 5 (T l) Tryd.underlying9 Tryd.underlying25 Tryd.underlying5
  unfold Oper.wp execOp
  simp only [ho, hx, Sem.run_bind, Result.andThen_ok, Sem.run_pure, hr]
  obtain ⟨w1, hw1⟩ : ∃ w1, w1 = w.drew := ⟨_, rfl⟩
  have hz : w.heap.size = w1.heap.size := by rw [hw1]; rfl
  have hbd : Below w.heap.size w w1 := by rw [hw1]; exact below_drewN' _ w 1
  rw [← hw1, T_size]
  refine h _ _ _ ?_ (grownCap_ge _ _ _ _) (Nat.le_refl _) ?_
  · refine ⟨sB_len l, sB_byte l, ?_⟩
    by_cases h0 : l.length = 0
    · exact .inl h0
    · refine .inr ⟨_, _, rfl, by rw [hz]; simp, fun i hi => ?_⟩
      rw [Nat.zero_add, hz, cell_of_row _ _ i _ _ _ (heap_alloc_new w1 _)]
      unfold bytesRow sB
      have hi' : i < (T l).data.size := by simpa using hi
      rw [Array.getElem?_append_left (by simpa using hi'), Array.getElem?_map, Array.getElem?_eq_getElem hi']
      have hi2 : i < l.length := hi
      simp [List.getD, List.getElem?_map, List.getElem?_eq_getElem hi2]
  · rw [hz] at hbd ⊢
    exact hbd.trans ((Below.refl _ _).alloc (Nat.le_refl _) _)
set_option maxRecDepth 100000 in
set_option maxHeartbeats 4000000 in
theorem enc_no (r : Rcv) (hd : dOk r.dig) (hs : SzR r) (hr : rightB r = false) (w : World) :
    Calls Tryd.prog 7 #[.agg (recC r)] w fun e w' => e = .returned (.tuple #[.slice none 0 0, .int .i64 1]) ∧ Below w.heap.size w w' := by
  have HI := Lib.hid (show (Tryd.prog.info? 31).map (·.size) = some (recC r).size from by rw [recC_size hd]; exact info_p)
  have HK := Lib.hid fun W => right_c r hd hs W
  rw [hr] at HK
  obtain ⟨C, hC⟩ : ∃ C, C = recC r := ⟨_, rfl⟩
  rw [← hC] at HI HK ⊢
  clear hC hd hr
  go_enter Tryd.func7, Tryd.ntmps7
  go_upto_region 1 with (fail)
  obtain ⟨g, hg⟩ : ∃ g, g = w.heap.size := ⟨_, rfl⟩
  refine gen_codeR (F := Bx w g 31 C) (by rw [hg]; exact Bx.new _ _ _) ?_
  rw [← hg]
  rintro w0 hb0
  have H0 := Lib.hid hb0
  clear hg hb0
  go_wp2_with (first | (refine wpList_loadg 31 _ (by rfl) (by rfl) (.pointer (some ⟨g, 0, none⟩)) (by rfl) (.agg C) (H0.out.1.load Tryd.underlying31 HI.out) ?_) | (go_at_call 11; (refine (HK.out _).mono ?_); rintro e w1 ⟨rfl, hb⟩; have H1 := Lib.hid (H0.out.step hb); clear hb))
  go_ret2
  exact ⟨rfl, H1.out.2⟩
set_option maxRecDepth 100000 in
set_option maxHeartbeats 8000000 in
theorem enc_ok1 (repo tag : List UInt8) (dig : List Nat) (M : Nat) (hd : dOk dig) (hr : rightB ⟨1, repo, tag, dig, M⟩ = true) (w : World) :
    Calls Tryd.prog 7 #[.agg (recC ⟨1, repo, tag, dig, M⟩)] w fun e w' => ∃ v, e = .returned (.tuple #[v, .int .i64 0]) ∧ Own w' w.heap.size v (encL ⟨1, repo, tag, dig, M⟩) ∧ Below w.heap.size w w' := by
  obtain ⟨-, hp2, hp3, -, hp5, -⟩ := right_parts hr
  simp only at hp2 hp3 hp5
  have HI := Lib.hid (show (Tryd.prog.info? 31).map (·.size) = some (recC ⟨1, repo, tag, dig, M⟩).size from by rw [recC_size hd]; exact info_p)
  have HK := Lib.hid fun W => right_c ⟨1, repo, tag, dig, M⟩ hd ⟨by simp only; omega, by simp only; omega⟩ W
  rw [hr] at HK
  have HD := Lib.hid hd
  have HZR := Lib.hid (show repo.length ≤ 140737488351232 by omega)
  have HZG := Lib.hid (show tag.length ≤ 140737488351232 by omega)
  have HTLR := Lib.hid (show (txL (sB repo)).length ≤ 138 from by unfold txL; have := Cntm.cnt_len10 (sB repo).length (by rw [sB_len]; omega); rw [List.length_append]; have := sB_len repo; omega)
  have HTLG := Lib.hid (show (txL (sB tag)).length ≤ 138 from by unfold txL; have := Cntm.cnt_len10 (sB tag).length (by rw [sB_len]; omega); rw [List.length_append]; have := sB_len tag; omega)
  have HTBR : Hid (∀ z ∈ Cntm.cnt repo.length ++ sB repo, z < 256) := Lib.hid fun z hz => (List.mem_append.1 hz).elim (Cntm.cnt_byte _ z) (sB_byte _ z)
  have HTBG : Hid (∀ z ∈ Cntm.cnt tag.length ++ sB tag, z < 256) := Lib.hid fun z hz => (List.mem_append.1 hz).elim (Cntm.cnt_byte _ z) (sB_byte _ z)
  have HXR := Lib.hid (show Cntm.cnt repo.length ++ sB repo = txL (sB repo) from by unfold txL; rw [sB_len])
  have HXG := Lib.hid (show Cntm.cnt tag.length ++ sB tag = txL (sB tag) from by unfold txL; rw [sB_len])
  have HPM := Lib.hid fun W => (number_c M W (by omega)).mono (RetB.form (Numm.put_byte _ _))
  obtain ⟨C, hC⟩ : ∃ C, C = recC ⟨1, repo, tag, dig, M⟩ := ⟨_, rfl⟩
  rw [← hC] at HI HK ⊢
  have HC := Lib.hid hC
  clear hC hd hr hp2 hp3 hp5
  go_enter Tryd.func7, Tryd.ntmps7
  go_upto_region 1 with (fail)
  obtain ⟨g, hg⟩ : ∃ g, g = w.heap.size := ⟨_, rfl⟩
  refine gen_codeR (F := Bx w g 31 C) (by rw [hg]; exact Bx.new _ _ _) ?_
  rw [← hg]
  rintro w0 hb0
  have H0 := Lib.hid hb0
  clear hg hb0
  have HSA := fun W => run_digAll W g 3
  go_upto_region 6 with (first | (refine wpList_loadg 31 _ (by rfl) (by rfl) (.pointer (some ⟨g, 0, none⟩)) (by rfl) (.agg C) (H0.out.1.load Tryd.underlying31 HI.out) ?_) | (go_at_call 11; (refine (HK.out _).mono ?_); rintro e w1 ⟨rfl, hb⟩; have H1 := Lib.hid (H0.out.step hb); have r1 := H1.out.1; rw [HC.out] at r1; have c0 := r1.c0; clear r1 hb))
  have HS1 := Lib.hid (show Bx w g 31 (recC ⟨1, repo, tag, dig, M⟩) w1 from by rw [← HC.out]; exact H1.out)
  clear H0 H1 HC HI HK c0
  refine anyH_begin (S := Bx w g 31 (recC ⟨1, repo, tag, dig, M⟩)) (by kernel_rfl) ?_
  obtain ⟨w2, hw2⟩ : ∃ w2, w2 = w1.drew := ⟨_, rfl⟩
  have HS := Lib.hid (show Bx w g 31 (recC ⟨1, repo, tag, dig, M⟩) w2 from by rw [hw2]; exact HS1.out.step (below_drewN' _ w1 1))
  rw [← hw2]
  clear hw2 HS1
  refine anyH_pureG 0 (d := 15) (op := .fieldAddr 31 (.tmp 1) 1) (gd := none) (.pointer (some ⟨g, 1, none⟩)) (by rfl) (fun o ho => wanted_plain ho _) (by kernel_rfl) (by kernel_rfl) (by kernel_rfl) (fun _ _ _ h => h) (fun o ho W hW => by unfold execOp; simp only [ho]; go_simp) HS.out ?_
  simp only [Act.put, List.setIfInBounds_toArray, List.set_cons_zero, List.set_cons_succ]
  refine anyH_loadG 1 (d := 16) (ty := 9) (x := (.tmp 15)) (gd := none) (p := .pointer (some ⟨g, 1, none⟩)) (.string (T repo)) (by rfl) (fun o ho => wanted_plain ho _) (by kernel_rfl) (by kernel_rfl) (by kernel_rfl) (fun _ _ _ h => h) (by rfl) (fun W hW => by have c0 := hW.1.c1; go_simp) HS.out ?_
  simp only [Act.put, List.setIfInBounds_toArray, List.set_cons_zero, List.set_cons_succ]
  refine anyH_pureG 4 (d := 19) (op := .fieldAddr 31 (.tmp 1) 2) (gd := none) (.pointer (some ⟨g, 2, none⟩)) (by rfl) (fun o ho => wanted_plain ho _) (by kernel_rfl) (by kernel_rfl) (by kernel_rfl) (fun _ _ _ h => h) (fun o ho W hW => by unfold execOp; simp only [ho]; go_simp) HS.out ?_
  simp only [Act.put, List.setIfInBounds_toArray, List.set_cons_zero, List.set_cons_succ]
  refine anyH_loadG 5 (d := 20) (ty := 9) (x := (.tmp 19)) (gd := none) (p := .pointer (some ⟨g, 2, none⟩)) (.string (T tag)) (by rfl) (fun o ho => wanted_plain ho _) (by kernel_rfl) (by kernel_rfl) (by kernel_rfl) (fun _ _ _ h => h) (by rfl) (fun W hW => by have c0 := hW.1.c2; go_simp) HS.out ?_
  simp only [Act.put, List.setIfInBounds_toArray, List.set_cons_zero, List.set_cons_succ]
  refine anyH_twoT 2 6 (d1 := some 17) (op1 := .convert 9 25 (.tmp 16)) (d2 := some 21) (op2 := .convert 9 25 (.tmp 20)) (by kernel_rfl) (by rfl) (by rfl) (fun o hod hoo => ?_) (fun o hod hoo => ?_)
  · refine wp_toBytesR (.tmp 16) hoo repo (by rfl) HZR.out ?_
    rintro b17 c17 wy1 hr1 hc1 hg1 hb1
    have HR1 := Lib.hid hr1
    have HS1 := Lib.hid (HS.out.step hb1)
    clear hr1 hc1 hg1 hb1
    refine ⟨HS1.out, ?_⟩
    rw [hod]
    simp only [Act.put, List.setIfInBounds_toArray, List.set_cons_zero, List.set_cons_succ]
    refine anyH_twoT 3 6 (d1 := some 18) (op1 := .call { callee := .value (.func 23), args := #[(.tmp 17)], argTypes := #[25] }) (d2 := some 21) (op2 := .convert 9 25 (.tmp 20)) (by kernel_rfl) (by rfl) (by rfl) (fun o hod hoo => ?_) (fun o hod hoo => ?_)
    · refine wp_callT hoo (by go_simp) (by go_simp) ((text_c (some ⟨b17, 0, none⟩) repo.length c17 (sB repo) wy1 HR1.out (fun e => by cases e) HZR.out).mono (RetB.form HTBR.out)) ?_
      rintro e wy2 ⟨a18, n18, c18, rfl, hl2, hlc2, hcm2, hn2, hr2, ho2, hb2⟩
      have HR2 := Lib.hid hr2
      have HNNR := Lib.hid hn2
      have HLLR := Lib.hid hl2
      have HS2 := Lib.hid (HS1.out.step hb2)
      have HR1x2 := Lib.hid (HR1.out.below hb2)
      clear hl2 hlc2 hcm2 hn2 hr2 ho2 hb2
      refine ⟨_, rfl, HS2.out, ?_⟩
      rw [hod]
      simp only [Act.put, List.setIfInBounds_toArray, List.set_cons_zero, List.set_cons_succ]
      refine anyH_oneT 6 (d1 := some 21) (op1 := .convert 9 25 (.tmp 20)) (by kernel_rfl) (by rfl) (fun o hod hoo => ?_)
      refine wp_toBytesR (.tmp 20) hoo tag (by rfl) HZG.out ?_
      rintro b21 c21 wy3 hr3 hc3 hg3 hb3
      have HR3 := Lib.hid hr3
      have HS3 := Lib.hid (HS2.out.step hb3)
      have HR1x2x3 := Lib.hid (HR1x2.out.below hb3)
      have HR2x3 := Lib.hid (HR2.out.below hb3)
      clear hr3 hc3 hg3 hb3
      refine ⟨HS3.out, ?_⟩
      rw [hod]
      simp only [Act.put, List.setIfInBounds_toArray, List.set_cons_zero, List.set_cons_succ]
      refine anyH_oneT 7 (d1 := some 22) (op1 := .call { callee := .value (.func 23), args := #[(.tmp 21)], argTypes := #[25] }) (by kernel_rfl) (by rfl) (fun o hod hoo => ?_)
      refine wp_callT hoo (by go_simp) (by go_simp) ((text_c (some ⟨b21, 0, none⟩) tag.length c21 (sB tag) wy3 HR3.out (fun e => by cases e) HZG.out).mono (RetB.form HTBG.out)) ?_
      rintro e wy4 ⟨a22, n22, c22, rfl, hl4, hlc4, hcm4, hn4, hr4, ho4, hb4⟩
      have HR4 := Lib.hid hr4
      have HNNG := Lib.hid hn4
      have HLLG := Lib.hid hl4
      have HS4 := Lib.hid (HS3.out.step hb4)
      have HR1x2x3x4 := Lib.hid (HR1x2x3.out.below hb4)
      have HR2x3x4 := Lib.hid (HR2x3.out.below hb4)
      have HR3x4 := Lib.hid (HR3.out.below hb4)
      clear hl4 hlc4 hcm4 hn4 hr4 ho4 hb4
      refine ⟨_, rfl, HS4.out, ?_⟩
      rw [hod]
      simp only [Act.put, List.setIfInBounds_toArray, List.set_cons_zero, List.set_cons_succ]
      refine anyH_pureG 8 (d := 5) (op := .assign (.tmp 18)) (gd := none) (.slice a18 n18 c18) (by rfl) (fun o ho => wanted_plain ho _) (by kernel_rfl) (by kernel_rfl) (by kernel_rfl) (fun _ _ _ h => h) (fun o ho W hW => by unfold execOp; simp only [ho]; go_simp) HS4.out ?_
      simp only [Act.put, List.setIfInBounds_toArray, List.set_cons_zero, List.set_cons_succ]
      refine anyH_pureG 9 (d := 6) (op := .assign (.tmp 22)) (gd := none) (.slice a22 n22 c22) (by rfl) (fun o ho => wanted_plain ho _) (by kernel_rfl) (by kernel_rfl) (by kernel_rfl) (fun _ _ _ h => h) (fun o ho W hW => by unfold execOp; simp only [ho]; go_simp) HS4.out ?_
      simp only [Act.put, List.setIfInBounds_toArray, List.set_cons_zero, List.set_cons_succ]
      refine wpAnyH_done (by kernel_rfl) ?_ _
      go_upto_region 7 with fail
      refine anyH_begin (S := Bx w g 31 (recC ⟨1, repo, tag, dig, M⟩)) (by kernel_rfl) ?_
      obtain ⟨w7, hw7⟩ : ∃ W, W = wy4.drew := ⟨_, rfl⟩
      have hb7 : Below wy4.heap.size wy4 w7 := by rw [hw7]; exact below_drewN' _ wy4 1
      have HS7 := Lib.hid (HS4.out.step hb7)
      have HTR7 := Lib.hid (show Rd w7 a18 n18 (txL (sB repo)) from by rw [← HXR.out]; exact HR2x3x4.out.below hb7)
      have HTG7 := Lib.hid (show Rd w7 a22 n22 (txL (sB tag)) from by rw [← HXG.out]; exact HR4.out.below hb7)
      rw [← hw7]
      clear hw7 hb7
      refine anyH_pureG 0 (d := 23) (op := .fieldAddr 31 (.tmp 1) 0) (gd := none) (.pointer (some ⟨g, 0, none⟩)) (by rfl) (fun o ho => wanted_plain ho _) (by kernel_rfl) (by kernel_rfl) (by kernel_rfl) (fun _ _ _ h => h) (fun o ho W hW => by unfold execOp; simp only [ho]; go_simp) HS7.out ?_
      simp only [Act.put, List.setIfInBounds_toArray, List.set_cons_zero, List.set_cons_succ]
      refine anyH_loadG 1 (d := 24) (ty := 3) (x := (.tmp 23)) (gd := none) (p := .pointer (some ⟨g, 0, none⟩)) (.int .i64 1) (by rfl) (fun o ho => wanted_plain ho _) (by kernel_rfl) (by kernel_rfl) (by kernel_rfl) (fun _ _ _ h => h) (by rfl) (fun W hW => by have c0 := hW.1.c0; go_simp) HS7.out ?_
      simp only [Act.put, List.setIfInBounds_toArray, List.set_cons_zero, List.set_cons_succ]
      refine anyH_pureG 2 (d := 25) (op := .convert 3 5 (.tmp 24)) (gd := none) (.int .u8 1) (by rfl) (fun o ho => wanted_plain ho _) (by kernel_rfl) (by kernel_rfl) (by kernel_rfl) (fun _ _ _ h => h) (fun o ho W hW => by unfold execOp; simp only [ho]; go_simp; try (first | rfl | decide | kernel_rfl)) HS7.out ?_
      simp only [Act.put, List.setIfInBounds_toArray, List.set_cons_zero, List.set_cons_succ]
      refine anyH_pureG 4 (d := 27) (op := .move (.tmp 5)) (gd := none) (.slice a18 n18 c18) (by rfl) (fun o ho => wanted_plain ho _) (by kernel_rfl) (by kernel_rfl) (by kernel_rfl) (fun _ _ _ h => h) (fun o ho W hW => by unfold execOp; simp only [ho]; go_simp) HS7.out ?_
      simp only [Act.put, List.setIfInBounds_toArray, List.set_cons_zero, List.set_cons_succ]
      refine anyH_pureG 5 (d := 28) (op := .move (.tmp 6)) (gd := none) (.slice a22 n22 c22) (by rfl) (fun o ho => wanted_plain ho _) (by kernel_rfl) (by kernel_rfl) (by kernel_rfl) (fun _ _ _ h => h) (fun o ho W hW => by unfold execOp; simp only [ho]; go_simp) HS7.out ?_
      simp only [Act.put, List.setIfInBounds_toArray, List.set_cons_zero, List.set_cons_succ]
      refine anyH_pureG 6 (d := 29) (op := .move (.tmp 4)) (gd := none) (.slice (some ⟨g, 3, none⟩) 32 32) (by rfl) (fun o ho => wanted_plain ho _) (by kernel_rfl) (by kernel_rfl) (by kernel_rfl) (fun _ _ _ h => h) (fun o ho W hW => by unfold execOp; simp only [ho]; go_simp) HS7.out ?_
      simp only [Act.put, List.setIfInBounds_toArray, List.set_cons_zero, List.set_cons_succ]
      refine anyH_pureG 7 (d := 30) (op := .fieldAddr 31 (.tmp 1) 4) (gd := none) (.pointer (some ⟨g, 35, none⟩)) (by rfl) (fun o ho => wanted_plain ho _) (by kernel_rfl) (by kernel_rfl) (by kernel_rfl) (fun _ _ _ h => h) (fun o ho W hW => by unfold execOp; simp only [ho]; go_simp) HS7.out ?_
      simp only [Act.put, List.setIfInBounds_toArray, List.set_cons_zero, List.set_cons_succ]
      refine anyH_loadG 8 (d := 31) (ty := 3) (x := (.tmp 30)) (gd := none) (p := .pointer (some ⟨g, 35, none⟩)) (.int .i64 (M : Int)) (by rfl) (fun o ho => wanted_plain ho _) (by kernel_rfl) (by kernel_rfl) (by kernel_rfl) (fun _ _ _ h => h) (by rfl) (fun W hW => by have c35 := hW.1.c35 HD.out; go_simp) HS7.out ?_
      simp only [Act.put, List.setIfInBounds_toArray, List.set_cons_zero, List.set_cons_succ]
      refine anyH_twoT 3 9 (d1 := some 26) (op1 := .buildSlice 25 1 #[(0, (.tmp 25))]) (d2 := some 32) (op2 := .call { callee := .value (.func 25), args := #[(.tmp 31)], argTypes := #[3] }) (by kernel_rfl) (by rfl) (by rfl) (fun o hod hoo => ?_) (fun o hod hoo => ?_)
      · refine wp_layT (.tmp 25) hoo 1 (by rfl) ?_
        obtain ⟨wx1, hwx1⟩ : ∃ W, W = w7.alloc (.cells #[.int .u8 ((1 : Nat) : Int)] 5) := ⟨_, rfl⟩
        obtain ⟨q, hq⟩ : ∃ q, q = w7.heap.size := ⟨_, rfl⟩
        have hb1 : Below w7.heap.size w7 wx1 := by rw [hwx1]; exact (Below.refl _ _).alloc (Nat.le_refl _) _
        have HR1 := Lib.hid (show Rd wx1 (some ⟨q, 0, none⟩) 1 [1] from by rw [hwx1, hq]; exact lay_one w7 1 (by omega))
        have HS1 := Lib.hid (HS7.out.step hb1)
        have HTR7y1 := Lib.hid (HTR7.out.below hb1)
        have HTG7y1 := Lib.hid (HTG7.out.below hb1)
        rw [← hwx1, ← hq]
        clear hwx1 hq hb1
        refine ⟨HS1.out, ?_⟩
        rw [hod]
        simp only [Act.put, List.setIfInBounds_toArray, List.set_cons_zero, List.set_cons_succ]
        refine anyH_oneT 9 (d1 := some 32) (op1 := .call { callee := .value (.func 25), args := #[(.tmp 31)], argTypes := #[3] }) (by kernel_rfl) (by rfl) (fun o hod hoo => ?_)
        refine wp_callT hoo (by go_simp) (by go_simp) (HPM.out wx1) ?_
        rintro e wx2 ⟨a32, n32, c32, rfl, hl2, hlc2, hcm2, hn2, hr2, ho2, hb2⟩
        have HR2 := Lib.hid hr2
        have HNM := Lib.hid hn2
        have hL2 : n32 = 8 := by rw [← hl2, Numm.put_len]
        have HS2 := Lib.hid (HS1.out.step hb2)
        have HTR7y1y2 := Lib.hid (HTR7y1.out.below hb2)
        have HTG7y1y2 := Lib.hid (HTG7y1.out.below hb2)
        have HR1y2 := Lib.hid (HR1.out.below hb2)
        clear hl2 hlc2 hcm2 hn2 hr2 ho2 hb2
        subst hL2
        refine ⟨_, rfl, HS2.out, ?_⟩
        rw [hod]
        simp only [Act.put, List.setIfInBounds_toArray, List.set_cons_zero, List.set_cons_succ]
        refine anyH_oneT 10 (d1 := some 33) (op1 := .buildSlice 75 5 #[(0, (.tmp 26)), (1, (.tmp 27)), (2, (.tmp 28)), (3, (.tmp 29)), (4, (.tmp 32))]) (by kernel_rfl) (by rfl) (fun o hod hoo => ?_)
        have hok : ∀ s ∈ [((some ⟨q, 0, none⟩, 1, 1, [1]) : Sl), (a18, n18, c18, txL (sB repo)), (a22, n22, c22, txL (sB tag)), (some ⟨g, 3, none⟩, 32, 32, dig), (a32, 8, c32, Numm.put M 8)], SlOk wx2 s := by
          intro s hs
          simp only [List.mem_cons, List.not_mem_nil, or_false] at hs
          rcases hs with rfl | rfl | rfl | rfl | rfl
          · exact ⟨HR1y2.out, fun e => by cases e⟩
          · exact ⟨HTR7y1y2.out, HNNR.out⟩
          · exact ⟨HTG7y1y2.out, HNNG.out⟩
          · exact ⟨HS2.out.rdDig HD.out, fun e => by cases e⟩
          · exact ⟨HR2.out, HNM.out⟩
        have htot : (catS [((some ⟨q, 0, none⟩, 1, 1, [1]) : Sl), (a18, n18, c18, txL (sB repo)), (a22, n22, c22, txL (sB tag)), (some ⟨g, 3, none⟩, 32, 32, dig), (a32, 8, c32, Numm.put M 8)]).length ≤ 140737488355328 := by
          have h1 := HD.out.1
          have h2 := HTLR.out
          have h3 := HTLG.out
          simp only [catS, slz, List.map_cons, List.map_nil, List.flatten_cons, List.flatten_nil, List.length_append, Numm.put_len, List.length_cons, List.length_nil, h1]
          omega
        have HCAT := Lib.hid (concat_row [((some ⟨q, 0, none⟩, 1, 1, [1]) : Sl), (a18, n18, c18, txL (sB repo)), (a22, n22, c22, txL (sB tag)), (some ⟨g, 3, none⟩, 32, 32, dig), (a32, 8, c32, Numm.put M 8)] #[.slice (some ⟨q, 0, none⟩) 1 1, .slice a18 n18 c18, .slice a22 n22 c22, .slice (some ⟨g, 3, none⟩) 32 32, .slice a32 8 c32] 5 wx2 rfl rfl (by omega) hok htot)
        refine wp_lay5R (.tmp 26) (.tmp 27) (.tmp 28) (.tmp 29) (.tmp 32) hoo (some ⟨q, 0, none⟩, 1, 1, [1]) (a18, n18, c18, txL (sB repo)) (a22, n22, c22, txL (sB tag)) (some ⟨g, 3, none⟩, 32, 32, dig) (a32, 8, c32, Numm.put M 8) rfl rfl rfl rfl rfl ?_
        have hb9 : Below wx2.heap.size wx2 (wx2.alloc (.cells #[slv (some ⟨q, 0, none⟩, 1, 1, [1]), slv (a18, n18, c18, txL (sB repo)), slv (a22, n22, c22, txL (sB tag)), slv (some ⟨g, 3, none⟩, 32, 32, dig), slv (a32, 8, c32, Numm.put M 8)] 25)) := (Below.refl _ _).alloc (Nat.le_refl _) _
        refine ⟨HS2.out.step hb9, ?_⟩
        rw [hod]
        simp only [Act.put, List.setIfInBounds_toArray, List.set_cons_zero, List.set_cons_succ]
        refine anyH_oneT 11 (d1 := some 34) (op1 := .call { callee := .value (.func 24), args := #[(.tmp 33)], argTypes := #[75] }) (by kernel_rfl) (by rfl) (fun o hod hoo => ?_)
        refine wp_callT hoo (by go_simp) (by go_simp) HCAT.out ?_
        rintro e wq ⟨vq, rfl, hoq, hbq⟩
        have HSQ := Lib.hid (HS2.out.step hbq)
        have HOQ := Lib.hid hoq
        have hszq := HS2.out.2.size
        clear hoq hbq hb9 hok htot
        refine ⟨_, rfl, HSQ.out, ?_⟩
        rw [hod]
        simp only [Act.put, List.setIfInBounds_toArray, List.set_cons_zero, List.set_cons_succ]
        refine anyH_pureG 12 (d := 2) (op := .assign (.tmp 34)) (gd := none) vq (by rfl) (fun o ho => wanted_plain ho _) (by kernel_rfl) (by kernel_rfl) (by kernel_rfl) (fun _ _ _ h => h) (fun o ho W hW => by unfold execOp; simp only [ho]; go_simp) HSQ.out ?_
        simp only [Act.put, List.setIfInBounds_toArray, List.set_cons_zero, List.set_cons_succ]
        refine anyH_pureG 13 (d := 3) (op := .assign (.const (.int .i64 0))) (gd := none) (.int .i64 0) (by rfl) (fun o ho => wanted_plain ho _) (by kernel_rfl) (by kernel_rfl) (by kernel_rfl) (fun _ _ _ h => h) (fun o ho W hW => by unfold execOp; simp only [ho]; go_simp) HSQ.out ?_
        simp only [Act.put, List.setIfInBounds_toArray, List.set_cons_zero, List.set_cons_succ]
        refine wpAnyH_done (by kernel_rfl) ?_ _
        go_wp2_with fail
        go_ret2
        exact ⟨_, rfl, own_mono (by simpa [catS, slz, encL] using HOQ.out) hszq, HSQ.out.2⟩
      · refine wp_callT hoo (by go_simp) (by go_simp) (HPM.out w7) ?_
        rintro e wx3 ⟨a32, n32, c32, rfl, hl3, hlc3, hcm3, hn3, hr3, ho3, hb3⟩
        have HR3 := Lib.hid hr3
        have HNM := Lib.hid hn3
        have hL3 : n32 = 8 := by rw [← hl3, Numm.put_len]
        have HS3 := Lib.hid (HS7.out.step hb3)
        have HTR7y3 := Lib.hid (HTR7.out.below hb3)
        have HTG7y3 := Lib.hid (HTG7.out.below hb3)
        clear hl3 hlc3 hcm3 hn3 hr3 ho3 hb3
        subst hL3
        refine ⟨_, rfl, HS3.out, ?_⟩
        rw [hod]
        simp only [Act.put, List.setIfInBounds_toArray, List.set_cons_zero, List.set_cons_succ]
        refine anyH_oneT 3 (d1 := some 26) (op1 := .buildSlice 25 1 #[(0, (.tmp 25))]) (by kernel_rfl) (by rfl) (fun o hod hoo => ?_)
        refine wp_layT (.tmp 25) hoo 1 (by rfl) ?_
        obtain ⟨wx4, hwx4⟩ : ∃ W, W = wx3.alloc (.cells #[.int .u8 ((1 : Nat) : Int)] 5) := ⟨_, rfl⟩
        obtain ⟨q, hq⟩ : ∃ q, q = wx3.heap.size := ⟨_, rfl⟩
        have hb4 : Below wx3.heap.size wx3 wx4 := by rw [hwx4]; exact (Below.refl _ _).alloc (Nat.le_refl _) _
        have HR4 := Lib.hid (show Rd wx4 (some ⟨q, 0, none⟩) 1 [1] from by rw [hwx4, hq]; exact lay_one wx3 1 (by omega))
        have HS4 := Lib.hid (HS3.out.step hb4)
        have HTR7y3y4 := Lib.hid (HTR7y3.out.below hb4)
        have HTG7y3y4 := Lib.hid (HTG7y3.out.below hb4)
        have HR3y4 := Lib.hid (HR3.out.below hb4)
        rw [← hwx4, ← hq]
        clear hwx4 hq hb4
        refine ⟨HS4.out, ?_⟩
        rw [hod]
        simp only [Act.put, List.setIfInBounds_toArray, List.set_cons_zero, List.set_cons_succ]
        refine anyH_oneT 10 (d1 := some 33) (op1 := .buildSlice 75 5 #[(0, (.tmp 26)), (1, (.tmp 27)), (2, (.tmp 28)), (3, (.tmp 29)), (4, (.tmp 32))]) (by kernel_rfl) (by rfl) (fun o hod hoo => ?_)
        have hok : ∀ s ∈ [((some ⟨q, 0, none⟩, 1, 1, [1]) : Sl), (a18, n18, c18, txL (sB repo)), (a22, n22, c22, txL (sB tag)), (some ⟨g, 3, none⟩, 32, 32, dig), (a32, 8, c32, Numm.put M 8)], SlOk wx4 s := by
          intro s hs
          simp only [List.mem_cons, List.not_mem_nil, or_false] at hs
          rcases hs with rfl | rfl | rfl | rfl | rfl
          · exact ⟨HR4.out, fun e => by cases e⟩
          · exact ⟨HTR7y3y4.out, HNNR.out⟩
          · exact ⟨HTG7y3y4.out, HNNG.out⟩
          · exact ⟨HS4.out.rdDig HD.out, fun e => by cases e⟩
          · exact ⟨HR3y4.out, HNM.out⟩
        have htot : (catS [((some ⟨q, 0, none⟩, 1, 1, [1]) : Sl), (a18, n18, c18, txL (sB repo)), (a22, n22, c22, txL (sB tag)), (some ⟨g, 3, none⟩, 32, 32, dig), (a32, 8, c32, Numm.put M 8)]).length ≤ 140737488355328 := by
          have h1 := HD.out.1
          have h2 := HTLR.out
          have h3 := HTLG.out
          simp only [catS, slz, List.map_cons, List.map_nil, List.flatten_cons, List.flatten_nil, List.length_append, Numm.put_len, List.length_cons, List.length_nil, h1]
          omega
        have HCAT := Lib.hid (concat_row [((some ⟨q, 0, none⟩, 1, 1, [1]) : Sl), (a18, n18, c18, txL (sB repo)), (a22, n22, c22, txL (sB tag)), (some ⟨g, 3, none⟩, 32, 32, dig), (a32, 8, c32, Numm.put M 8)] #[.slice (some ⟨q, 0, none⟩) 1 1, .slice a18 n18 c18, .slice a22 n22 c22, .slice (some ⟨g, 3, none⟩) 32 32, .slice a32 8 c32] 5 wx4 rfl rfl (by omega) hok htot)
        refine wp_lay5R (.tmp 26) (.tmp 27) (.tmp 28) (.tmp 29) (.tmp 32) hoo (some ⟨q, 0, none⟩, 1, 1, [1]) (a18, n18, c18, txL (sB repo)) (a22, n22, c22, txL (sB tag)) (some ⟨g, 3, none⟩, 32, 32, dig) (a32, 8, c32, Numm.put M 8) rfl rfl rfl rfl rfl ?_
        have hb9 : Below wx4.heap.size wx4 (wx4.alloc (.cells #[slv (some ⟨q, 0, none⟩, 1, 1, [1]), slv (a18, n18, c18, txL (sB repo)), slv (a22, n22, c22, txL (sB tag)), slv (some ⟨g, 3, none⟩, 32, 32, dig), slv (a32, 8, c32, Numm.put M 8)] 25)) := (Below.refl _ _).alloc (Nat.le_refl _) _
        refine ⟨HS4.out.step hb9, ?_⟩
        rw [hod]
        simp only [Act.put, List.setIfInBounds_toArray, List.set_cons_zero, List.set_cons_succ]
        refine anyH_oneT 11 (d1 := some 34) (op1 := .call { callee := .value (.func 24), args := #[(.tmp 33)], argTypes := #[75] }) (by kernel_rfl) (by rfl) (fun o hod hoo => ?_)
        refine wp_callT hoo (by go_simp) (by go_simp) HCAT.out ?_
        rintro e wq ⟨vq, rfl, hoq, hbq⟩
        have HSQ := Lib.hid (HS4.out.step hbq)
        have HOQ := Lib.hid hoq
        have hszq := HS4.out.2.size
        clear hoq hbq hb9 hok htot
        refine ⟨_, rfl, HSQ.out, ?_⟩
        rw [hod]
        simp only [Act.put, List.setIfInBounds_toArray, List.set_cons_zero, List.set_cons_succ]
        refine anyH_pureG 12 (d := 2) (op := .assign (.tmp 34)) (gd := none) vq (by rfl) (fun o ho => wanted_plain ho _) (by kernel_rfl) (by kernel_rfl) (by kernel_rfl) (fun _ _ _ h => h) (fun o ho W hW => by unfold execOp; simp only [ho]; go_simp) HSQ.out ?_
        simp only [Act.put, List.setIfInBounds_toArray, List.set_cons_zero, List.set_cons_succ]
        refine anyH_pureG 13 (d := 3) (op := .assign (.const (.int .i64 0))) (gd := none) (.int .i64 0) (by rfl) (fun o ho => wanted_plain ho _) (by kernel_rfl) (by kernel_rfl) (by kernel_rfl) (fun _ _ _ h => h) (fun o ho W hW => by unfold execOp; simp only [ho]; go_simp) HSQ.out ?_
        simp only [Act.put, List.setIfInBounds_toArray, List.set_cons_zero, List.set_cons_succ]
        refine wpAnyH_done (by kernel_rfl) ?_ _
        go_wp2_with fail
        go_ret2
        exact ⟨_, rfl, own_mono (by simpa [catS, slz, encL] using HOQ.out) hszq, HSQ.out.2⟩
    · refine wp_toBytesR (.tmp 20) hoo tag (by rfl) HZG.out ?_
      rintro b21 c21 wy5 hr5 hc5 hg5 hb5
      have HR5 := Lib.hid hr5
      have HS5 := Lib.hid (HS1.out.step hb5)
      have HR1x5 := Lib.hid (HR1.out.below hb5)
      clear hr5 hc5 hg5 hb5
      refine ⟨HS5.out, ?_⟩
      rw [hod]
      simp only [Act.put, List.setIfInBounds_toArray, List.set_cons_zero, List.set_cons_succ]
      refine anyH_oneT 3 (d1 := some 18) (op1 := .call { callee := .value (.func 23), args := #[(.tmp 17)], argTypes := #[25] }) (by kernel_rfl) (by rfl) (fun o hod hoo => ?_)
      refine wp_callT hoo (by go_simp) (by go_simp) ((text_c (some ⟨b17, 0, none⟩) repo.length c17 (sB repo) wy5 HR1x5.out (fun e => by cases e) HZR.out).mono (RetB.form HTBR.out)) ?_
      rintro e wy6 ⟨a18, n18, c18, rfl, hl6, hlc6, hcm6, hn6, hr6, ho6, hb6⟩
      have HR6 := Lib.hid hr6
      have HNNR := Lib.hid hn6
      have HLLR := Lib.hid hl6
      have HS6 := Lib.hid (HS5.out.step hb6)
      have HR1x5x6 := Lib.hid (HR1x5.out.below hb6)
      have HR5x6 := Lib.hid (HR5.out.below hb6)
      clear hl6 hlc6 hcm6 hn6 hr6 ho6 hb6
      refine ⟨_, rfl, HS6.out, ?_⟩
      rw [hod]
      simp only [Act.put, List.setIfInBounds_toArray, List.set_cons_zero, List.set_cons_succ]
      refine anyH_oneT 7 (d1 := some 22) (op1 := .call { callee := .value (.func 23), args := #[(.tmp 21)], argTypes := #[25] }) (by kernel_rfl) (by rfl) (fun o hod hoo => ?_)
      refine wp_callT hoo (by go_simp) (by go_simp) ((text_c (some ⟨b21, 0, none⟩) tag.length c21 (sB tag) wy6 HR5x6.out (fun e => by cases e) HZG.out).mono (RetB.form HTBG.out)) ?_
      rintro e wy7 ⟨a22, n22, c22, rfl, hl7, hlc7, hcm7, hn7, hr7, ho7, hb7⟩
      have HR7 := Lib.hid hr7
      have HNNG := Lib.hid hn7
      have HLLG := Lib.hid hl7
      have HS7 := Lib.hid (HS6.out.step hb7)
      have HR1x5x6x7 := Lib.hid (HR1x5x6.out.below hb7)
      have HR5x6x7 := Lib.hid (HR5x6.out.below hb7)
      have HR6x7 := Lib.hid (HR6.out.below hb7)
      clear hl7 hlc7 hcm7 hn7 hr7 ho7 hb7
      refine ⟨_, rfl, HS7.out, ?_⟩
      rw [hod]
      simp only [Act.put, List.setIfInBounds_toArray, List.set_cons_zero, List.set_cons_succ]
      refine anyH_pureG 8 (d := 5) (op := .assign (.tmp 18)) (gd := none) (.slice a18 n18 c18) (by rfl) (fun o ho => wanted_plain ho _) (by kernel_rfl) (by kernel_rfl) (by kernel_rfl) (fun _ _ _ h => h) (fun o ho W hW => by unfold execOp; simp only [ho]; go_simp) HS7.out ?_
      simp only [Act.put, List.setIfInBounds_toArray, List.set_cons_zero, List.set_cons_succ]
      refine anyH_pureG 9 (d := 6) (op := .assign (.tmp 22)) (gd := none) (.slice a22 n22 c22) (by rfl) (fun o ho => wanted_plain ho _) (by kernel_rfl) (by kernel_rfl) (by kernel_rfl) (fun _ _ _ h => h) (fun o ho W hW => by unfold execOp; simp only [ho]; go_simp) HS7.out ?_
      simp only [Act.put, List.setIfInBounds_toArray, List.set_cons_zero, List.set_cons_succ]
      refine wpAnyH_done (by kernel_rfl) ?_ _
      go_upto_region 7 with fail
      refine anyH_begin (S := Bx w g 31 (recC ⟨1, repo, tag, dig, M⟩)) (by kernel_rfl) ?_
      obtain ⟨w7, hw7⟩ : ∃ W, W = wy7.drew := ⟨_, rfl⟩
      have hb7 : Below wy7.heap.size wy7 w7 := by rw [hw7]; exact below_drewN' _ wy7 1
      have HS7 := Lib.hid (HS7.out.step hb7)
      have HTR7 := Lib.hid (show Rd w7 a18 n18 (txL (sB repo)) from by rw [← HXR.out]; exact HR6x7.out.below hb7)
      have HTG7 := Lib.hid (show Rd w7 a22 n22 (txL (sB tag)) from by rw [← HXG.out]; exact HR7.out.below hb7)
      rw [← hw7]
      clear hw7 hb7
      refine anyH_pureG 0 (d := 23) (op := .fieldAddr 31 (.tmp 1) 0) (gd := none) (.pointer (some ⟨g, 0, none⟩)) (by rfl) (fun o ho => wanted_plain ho _) (by kernel_rfl) (by kernel_rfl) (by kernel_rfl) (fun _ _ _ h => h) (fun o ho W hW => by unfold execOp; simp only [ho]; go_simp) HS7.out ?_
      simp only [Act.put, List.setIfInBounds_toArray, List.set_cons_zero, List.set_cons_succ]
      refine anyH_loadG 1 (d := 24) (ty := 3) (x := (.tmp 23)) (gd := none) (p := .pointer (some ⟨g, 0, none⟩)) (.int .i64 1) (by rfl) (fun o ho => wanted_plain ho _) (by kernel_rfl) (by kernel_rfl) (by kernel_rfl) (fun _ _ _ h => h) (by rfl) (fun W hW => by have c0 := hW.1.c0; go_simp) HS7.out ?_
      simp only [Act.put, List.setIfInBounds_toArray, List.set_cons_zero, List.set_cons_succ]
      refine anyH_pureG 2 (d := 25) (op := .convert 3 5 (.tmp 24)) (gd := none) (.int .u8 1) (by rfl) (fun o ho => wanted_plain ho _) (by kernel_rfl) (by kernel_rfl) (by kernel_rfl) (fun _ _ _ h => h) (fun o ho W hW => by unfold execOp; simp only [ho]; go_simp; try (first | rfl | decide | kernel_rfl)) HS7.out ?_
      simp only [Act.put, List.setIfInBounds_toArray, List.set_cons_zero, List.set_cons_succ]
      refine anyH_pureG 4 (d := 27) (op := .move (.tmp 5)) (gd := none) (.slice a18 n18 c18) (by rfl) (fun o ho => wanted_plain ho _) (by kernel_rfl) (by kernel_rfl) (by kernel_rfl) (fun _ _ _ h => h) (fun o ho W hW => by unfold execOp; simp only [ho]; go_simp) HS7.out ?_
      simp only [Act.put, List.setIfInBounds_toArray, List.set_cons_zero, List.set_cons_succ]
      refine anyH_pureG 5 (d := 28) (op := .move (.tmp 6)) (gd := none) (.slice a22 n22 c22) (by rfl) (fun o ho => wanted_plain ho _) (by kernel_rfl) (by kernel_rfl) (by kernel_rfl) (fun _ _ _ h => h) (fun o ho W hW => by unfold execOp; simp only [ho]; go_simp) HS7.out ?_
      simp only [Act.put, List.setIfInBounds_toArray, List.set_cons_zero, List.set_cons_succ]
      refine anyH_pureG 6 (d := 29) (op := .move (.tmp 4)) (gd := none) (.slice (some ⟨g, 3, none⟩) 32 32) (by rfl) (fun o ho => wanted_plain ho _) (by kernel_rfl) (by kernel_rfl) (by kernel_rfl) (fun _ _ _ h => h) (fun o ho W hW => by unfold execOp; simp only [ho]; go_simp) HS7.out ?_
      simp only [Act.put, List.setIfInBounds_toArray, List.set_cons_zero, List.set_cons_succ]
      refine anyH_pureG 7 (d := 30) (op := .fieldAddr 31 (.tmp 1) 4) (gd := none) (.pointer (some ⟨g, 35, none⟩)) (by rfl) (fun o ho => wanted_plain ho _) (by kernel_rfl) (by kernel_rfl) (by kernel_rfl) (fun _ _ _ h => h) (fun o ho W hW => by unfold execOp; simp only [ho]; go_simp) HS7.out ?_
      simp only [Act.put, List.setIfInBounds_toArray, List.set_cons_zero, List.set_cons_succ]
      refine anyH_loadG 8 (d := 31) (ty := 3) (x := (.tmp 30)) (gd := none) (p := .pointer (some ⟨g, 35, none⟩)) (.int .i64 (M : Int)) (by rfl) (fun o ho => wanted_plain ho _) (by kernel_rfl) (by kernel_rfl) (by kernel_rfl) (fun _ _ _ h => h) (by rfl) (fun W hW => by have c35 := hW.1.c35 HD.out; go_simp) HS7.out ?_
      simp only [Act.put, List.setIfInBounds_toArray, List.set_cons_zero, List.set_cons_succ]
      refine anyH_twoT 3 9 (d1 := some 26) (op1 := .buildSlice 25 1 #[(0, (.tmp 25))]) (d2 := some 32) (op2 := .call { callee := .value (.func 25), args := #[(.tmp 31)], argTypes := #[3] }) (by kernel_rfl) (by rfl) (by rfl) (fun o hod hoo => ?_) (fun o hod hoo => ?_)
      · refine wp_layT (.tmp 25) hoo 1 (by rfl) ?_
        obtain ⟨wx1, hwx1⟩ : ∃ W, W = w7.alloc (.cells #[.int .u8 ((1 : Nat) : Int)] 5) := ⟨_, rfl⟩
        obtain ⟨q, hq⟩ : ∃ q, q = w7.heap.size := ⟨_, rfl⟩
        have hb1 : Below w7.heap.size w7 wx1 := by rw [hwx1]; exact (Below.refl _ _).alloc (Nat.le_refl _) _
        have HR1 := Lib.hid (show Rd wx1 (some ⟨q, 0, none⟩) 1 [1] from by rw [hwx1, hq]; exact lay_one w7 1 (by omega))
        have HS1 := Lib.hid (HS7.out.step hb1)
        have HTR7y1 := Lib.hid (HTR7.out.below hb1)
        have HTG7y1 := Lib.hid (HTG7.out.below hb1)
        rw [← hwx1, ← hq]
        clear hwx1 hq hb1
        refine ⟨HS1.out, ?_⟩
        rw [hod]
        simp only [Act.put, List.setIfInBounds_toArray, List.set_cons_zero, List.set_cons_succ]
        refine anyH_oneT 9 (d1 := some 32) (op1 := .call { callee := .value (.func 25), args := #[(.tmp 31)], argTypes := #[3] }) (by kernel_rfl) (by rfl) (fun o hod hoo => ?_)
        refine wp_callT hoo (by go_simp) (by go_simp) (HPM.out wx1) ?_
        rintro e wx2 ⟨a32, n32, c32, rfl, hl2, hlc2, hcm2, hn2, hr2, ho2, hb2⟩
        have HR2 := Lib.hid hr2
        have HNM := Lib.hid hn2
        have hL2 : n32 = 8 := by rw [← hl2, Numm.put_len]
        have HS2 := Lib.hid (HS1.out.step hb2)
        have HTR7y1y2 := Lib.hid (HTR7y1.out.below hb2)
        have HTG7y1y2 := Lib.hid (HTG7y1.out.below hb2)
        have HR1y2 := Lib.hid (HR1.out.below hb2)
        clear hl2 hlc2 hcm2 hn2 hr2 ho2 hb2
        subst hL2
        refine ⟨_, rfl, HS2.out, ?_⟩
        rw [hod]
        simp only [Act.put, List.setIfInBounds_toArray, List.set_cons_zero, List.set_cons_succ]
        refine anyH_oneT 10 (d1 := some 33) (op1 := .buildSlice 75 5 #[(0, (.tmp 26)), (1, (.tmp 27)), (2, (.tmp 28)), (3, (.tmp 29)), (4, (.tmp 32))]) (by kernel_rfl) (by rfl) (fun o hod hoo => ?_)
        have hok : ∀ s ∈ [((some ⟨q, 0, none⟩, 1, 1, [1]) : Sl), (a18, n18, c18, txL (sB repo)), (a22, n22, c22, txL (sB tag)), (some ⟨g, 3, none⟩, 32, 32, dig), (a32, 8, c32, Numm.put M 8)], SlOk wx2 s := by
          intro s hs
          simp only [List.mem_cons, List.not_mem_nil, or_false] at hs
          rcases hs with rfl | rfl | rfl | rfl | rfl
          · exact ⟨HR1y2.out, fun e => by cases e⟩
          · exact ⟨HTR7y1y2.out, HNNR.out⟩
          · exact ⟨HTG7y1y2.out, HNNG.out⟩
          · exact ⟨HS2.out.rdDig HD.out, fun e => by cases e⟩
          · exact ⟨HR2.out, HNM.out⟩
        have htot : (catS [((some ⟨q, 0, none⟩, 1, 1, [1]) : Sl), (a18, n18, c18, txL (sB repo)), (a22, n22, c22, txL (sB tag)), (some ⟨g, 3, none⟩, 32, 32, dig), (a32, 8, c32, Numm.put M 8)]).length ≤ 140737488355328 := by
          have h1 := HD.out.1
          have h2 := HTLR.out
          have h3 := HTLG.out
          simp only [catS, slz, List.map_cons, List.map_nil, List.flatten_cons, List.flatten_nil, List.length_append, Numm.put_len, List.length_cons, List.length_nil, h1]
          omega
        have HCAT := Lib.hid (concat_row [((some ⟨q, 0, none⟩, 1, 1, [1]) : Sl), (a18, n18, c18, txL (sB repo)), (a22, n22, c22, txL (sB tag)), (some ⟨g, 3, none⟩, 32, 32, dig), (a32, 8, c32, Numm.put M 8)] #[.slice (some ⟨q, 0, none⟩) 1 1, .slice a18 n18 c18, .slice a22 n22 c22, .slice (some ⟨g, 3, none⟩) 32 32, .slice a32 8 c32] 5 wx2 rfl rfl (by omega) hok htot)
        refine wp_lay5R (.tmp 26) (.tmp 27) (.tmp 28) (.tmp 29) (.tmp 32) hoo (some ⟨q, 0, none⟩, 1, 1, [1]) (a18, n18, c18, txL (sB repo)) (a22, n22, c22, txL (sB tag)) (some ⟨g, 3, none⟩, 32, 32, dig) (a32, 8, c32, Numm.put M 8) rfl rfl rfl rfl rfl ?_
        have hb9 : Below wx2.heap.size wx2 (wx2.alloc (.cells #[slv (some ⟨q, 0, none⟩, 1, 1, [1]), slv (a18, n18, c18, txL (sB repo)), slv (a22, n22, c22, txL (sB tag)), slv (some ⟨g, 3, none⟩, 32, 32, dig), slv (a32, 8, c32, Numm.put M 8)] 25)) := (Below.refl _ _).alloc (Nat.le_refl _) _
        refine ⟨HS2.out.step hb9, ?_⟩
        rw [hod]
        simp only [Act.put, List.setIfInBounds_toArray, List.set_cons_zero, List.set_cons_succ]
        refine anyH_oneT 11 (d1 := some 34) (op1 := .call { callee := .value (.func 24), args := #[(.tmp 33)], argTypes := #[75] }) (by kernel_rfl) (by rfl) (fun o hod hoo => ?_)
        refine wp_callT hoo (by go_simp) (by go_simp) HCAT.out ?_
        rintro e wq ⟨vq, rfl, hoq, hbq⟩
        have HSQ := Lib.hid (HS2.out.step hbq)
        have HOQ := Lib.hid hoq
        have hszq := HS2.out.2.size
        clear hoq hbq hb9 hok htot
        refine ⟨_, rfl, HSQ.out, ?_⟩
        rw [hod]
        simp only [Act.put, List.setIfInBounds_toArray, List.set_cons_zero, List.set_cons_succ]
        refine anyH_pureG 12 (d := 2) (op := .assign (.tmp 34)) (gd := none) vq (by rfl) (fun o ho => wanted_plain ho _) (by kernel_rfl) (by kernel_rfl) (by kernel_rfl) (fun _ _ _ h => h) (fun o ho W hW => by unfold execOp; simp only [ho]; go_simp) HSQ.out ?_
        simp only [Act.put, List.setIfInBounds_toArray, List.set_cons_zero, List.set_cons_succ]
        refine anyH_pureG 13 (d := 3) (op := .assign (.const (.int .i64 0))) (gd := none) (.int .i64 0) (by rfl) (fun o ho => wanted_plain ho _) (by kernel_rfl) (by kernel_rfl) (by kernel_rfl) (fun _ _ _ h => h) (fun o ho W hW => by unfold execOp; simp only [ho]; go_simp) HSQ.out ?_
        simp only [Act.put, List.setIfInBounds_toArray, List.set_cons_zero, List.set_cons_succ]
        refine wpAnyH_done (by kernel_rfl) ?_ _
        go_wp2_with fail
        go_ret2
        exact ⟨_, rfl, own_mono (by simpa [catS, slz, encL] using HOQ.out) hszq, HSQ.out.2⟩
      · refine wp_callT hoo (by go_simp) (by go_simp) (HPM.out w7) ?_
        rintro e wx3 ⟨a32, n32, c32, rfl, hl3, hlc3, hcm3, hn3, hr3, ho3, hb3⟩
        have HR3 := Lib.hid hr3
        have HNM := Lib.hid hn3
        have hL3 : n32 = 8 := by rw [← hl3, Numm.put_len]
        have HS3 := Lib.hid (HS7.out.step hb3)
        have HTR7y3 := Lib.hid (HTR7.out.below hb3)
        have HTG7y3 := Lib.hid (HTG7.out.below hb3)
        clear hl3 hlc3 hcm3 hn3 hr3 ho3 hb3
        subst hL3
        refine ⟨_, rfl, HS3.out, ?_⟩
        rw [hod]
        simp only [Act.put, List.setIfInBounds_toArray, List.set_cons_zero, List.set_cons_succ]
        refine anyH_oneT 3 (d1 := some 26) (op1 := .buildSlice 25 1 #[(0, (.tmp 25))]) (by kernel_rfl) (by rfl) (fun o hod hoo => ?_)
        refine wp_layT (.tmp 25) hoo 1 (by rfl) ?_
        obtain ⟨wx4, hwx4⟩ : ∃ W, W = wx3.alloc (.cells #[.int .u8 ((1 : Nat) : Int)] 5) := ⟨_, rfl⟩
        obtain ⟨q, hq⟩ : ∃ q, q = wx3.heap.size := ⟨_, rfl⟩
        have hb4 : Below wx3.heap.size wx3 wx4 := by rw [hwx4]; exact (Below.refl _ _).alloc (Nat.le_refl _) _
        have HR4 := Lib.hid (show Rd wx4 (some ⟨q, 0, none⟩) 1 [1] from by rw [hwx4, hq]; exact lay_one wx3 1 (by omega))
        have HS4 := Lib.hid (HS3.out.step hb4)
        have HTR7y3y4 := Lib.hid (HTR7y3.out.below hb4)
        have HTG7y3y4 := Lib.hid (HTG7y3.out.below hb4)
        have HR3y4 := Lib.hid (HR3.out.below hb4)
        rw [← hwx4, ← hq]
        clear hwx4 hq hb4
        refine ⟨HS4.out, ?_⟩
        rw [hod]
        simp only [Act.put, List.setIfInBounds_toArray, List.set_cons_zero, List.set_cons_succ]
        refine anyH_oneT 10 (d1 := some 33) (op1 := .buildSlice 75 5 #[(0, (.tmp 26)), (1, (.tmp 27)), (2, (.tmp 28)), (3, (.tmp 29)), (4, (.tmp 32))]) (by kernel_rfl) (by rfl) (fun o hod hoo => ?_)
        have hok : ∀ s ∈ [((some ⟨q, 0, none⟩, 1, 1, [1]) : Sl), (a18, n18, c18, txL (sB repo)), (a22, n22, c22, txL (sB tag)), (some ⟨g, 3, none⟩, 32, 32, dig), (a32, 8, c32, Numm.put M 8)], SlOk wx4 s := by
          intro s hs
          simp only [List.mem_cons, List.not_mem_nil, or_false] at hs
          rcases hs with rfl | rfl | rfl | rfl | rfl
          · exact ⟨HR4.out, fun e => by cases e⟩
          · exact ⟨HTR7y3y4.out, HNNR.out⟩
          · exact ⟨HTG7y3y4.out, HNNG.out⟩
          · exact ⟨HS4.out.rdDig HD.out, fun e => by cases e⟩
          · exact ⟨HR3y4.out, HNM.out⟩
        have htot : (catS [((some ⟨q, 0, none⟩, 1, 1, [1]) : Sl), (a18, n18, c18, txL (sB repo)), (a22, n22, c22, txL (sB tag)), (some ⟨g, 3, none⟩, 32, 32, dig), (a32, 8, c32, Numm.put M 8)]).length ≤ 140737488355328 := by
          have h1 := HD.out.1
          have h2 := HTLR.out
          have h3 := HTLG.out
          simp only [catS, slz, List.map_cons, List.map_nil, List.flatten_cons, List.flatten_nil, List.length_append, Numm.put_len, List.length_cons, List.length_nil, h1]
          omega
        have HCAT := Lib.hid (concat_row [((some ⟨q, 0, none⟩, 1, 1, [1]) : Sl), (a18, n18, c18, txL (sB repo)), (a22, n22, c22, txL (sB tag)), (some ⟨g, 3, none⟩, 32, 32, dig), (a32, 8, c32, Numm.put M 8)] #[.slice (some ⟨q, 0, none⟩) 1 1, .slice a18 n18 c18, .slice a22 n22 c22, .slice (some ⟨g, 3, none⟩) 32 32, .slice a32 8 c32] 5 wx4 rfl rfl (by omega) hok htot)
        refine wp_lay5R (.tmp 26) (.tmp 27) (.tmp 28) (.tmp 29) (.tmp 32) hoo (some ⟨q, 0, none⟩, 1, 1, [1]) (a18, n18, c18, txL (sB repo)) (a22, n22, c22, txL (sB tag)) (some ⟨g, 3, none⟩, 32, 32, dig) (a32, 8, c32, Numm.put M 8) rfl rfl rfl rfl rfl ?_
        have hb9 : Below wx4.heap.size wx4 (wx4.alloc (.cells #[slv (some ⟨q, 0, none⟩, 1, 1, [1]), slv (a18, n18, c18, txL (sB repo)), slv (a22, n22, c22, txL (sB tag)), slv (some ⟨g, 3, none⟩, 32, 32, dig), slv (a32, 8, c32, Numm.put M 8)] 25)) := (Below.refl _ _).alloc (Nat.le_refl _) _
        refine ⟨HS4.out.step hb9, ?_⟩
        rw [hod]
        simp only [Act.put, List.setIfInBounds_toArray, List.set_cons_zero, List.set_cons_succ]
        refine anyH_oneT 11 (d1 := some 34) (op1 := .call { callee := .value (.func 24), args := #[(.tmp 33)], argTypes := #[75] }) (by kernel_rfl) (by rfl) (fun o hod hoo => ?_)
        refine wp_callT hoo (by go_simp) (by go_simp) HCAT.out ?_
        rintro e wq ⟨vq, rfl, hoq, hbq⟩
        have HSQ := Lib.hid (HS4.out.step hbq)
        have HOQ := Lib.hid hoq
        have hszq := HS4.out.2.size
        clear hoq hbq hb9 hok htot
        refine ⟨_, rfl, HSQ.out, ?_⟩
        rw [hod]
        simp only [Act.put, List.setIfInBounds_toArray, List.set_cons_zero, List.set_cons_succ]
        refine anyH_pureG 12 (d := 2) (op := .assign (.tmp 34)) (gd := none) vq (by rfl) (fun o ho => wanted_plain ho _) (by kernel_rfl) (by kernel_rfl) (by kernel_rfl) (fun _ _ _ h => h) (fun o ho W hW => by unfold execOp; simp only [ho]; go_simp) HSQ.out ?_
        simp only [Act.put, List.setIfInBounds_toArray, List.set_cons_zero, List.set_cons_succ]
        refine anyH_pureG 13 (d := 3) (op := .assign (.const (.int .i64 0))) (gd := none) (.int .i64 0) (by rfl) (fun o ho => wanted_plain ho _) (by kernel_rfl) (by kernel_rfl) (by kernel_rfl) (fun _ _ _ h => h) (fun o ho W hW => by unfold execOp; simp only [ho]; go_simp) HSQ.out ?_
        simp only [Act.put, List.setIfInBounds_toArray, List.set_cons_zero, List.set_cons_succ]
        refine wpAnyH_done (by kernel_rfl) ?_ _
        go_wp2_with fail
        go_ret2
        exact ⟨_, rfl, own_mono (by simpa [catS, slz, encL] using HOQ.out) hszq, HSQ.out.2⟩
  · refine wp_toBytesR (.tmp 20) hoo tag (by rfl) HZG.out ?_
    rintro b21 c21 wy8 hr8 hc8 hg8 hb8
    have HR8 := Lib.hid hr8
    have HS8 := Lib.hid (HS.out.step hb8)
    clear hr8 hc8 hg8 hb8
    refine ⟨HS8.out, ?_⟩
    rw [hod]
    simp only [Act.put, List.setIfInBounds_toArray, List.set_cons_zero, List.set_cons_succ]
    refine anyH_oneT 2 (d1 := some 17) (op1 := .convert 9 25 (.tmp 16)) (by kernel_rfl) (by rfl) (fun o hod hoo => ?_)
    refine wp_toBytesR (.tmp 16) hoo repo (by rfl) HZR.out ?_
    rintro b17 c17 wy9 hr9 hc9 hg9 hb9
    have HR9 := Lib.hid hr9
    have HS9 := Lib.hid (HS8.out.step hb9)
    have HR8x9 := Lib.hid (HR8.out.below hb9)
    clear hr9 hc9 hg9 hb9
    refine ⟨HS9.out, ?_⟩
    rw [hod]
    simp only [Act.put, List.setIfInBounds_toArray, List.set_cons_zero, List.set_cons_succ]
    refine anyH_oneT 3 (d1 := some 18) (op1 := .call { callee := .value (.func 23), args := #[(.tmp 17)], argTypes := #[25] }) (by kernel_rfl) (by rfl) (fun o hod hoo => ?_)
    refine wp_callT hoo (by go_simp) (by go_simp) ((text_c (some ⟨b17, 0, none⟩) repo.length c17 (sB repo) wy9 HR9.out (fun e => by cases e) HZR.out).mono (RetB.form HTBR.out)) ?_
    rintro e wy10 ⟨a18, n18, c18, rfl, hl10, hlc10, hcm10, hn10, hr10, ho10, hb10⟩
    have HR10 := Lib.hid hr10
    have HNNR := Lib.hid hn10
    have HLLR := Lib.hid hl10
    have HS10 := Lib.hid (HS9.out.step hb10)
    have HR8x9x10 := Lib.hid (HR8x9.out.below hb10)
    have HR9x10 := Lib.hid (HR9.out.below hb10)
    clear hl10 hlc10 hcm10 hn10 hr10 ho10 hb10
    refine ⟨_, rfl, HS10.out, ?_⟩
    rw [hod]
    simp only [Act.put, List.setIfInBounds_toArray, List.set_cons_zero, List.set_cons_succ]
    refine anyH_oneT 7 (d1 := some 22) (op1 := .call { callee := .value (.func 23), args := #[(.tmp 21)], argTypes := #[25] }) (by kernel_rfl) (by rfl) (fun o hod hoo => ?_)
    refine wp_callT hoo (by go_simp) (by go_simp) ((text_c (some ⟨b21, 0, none⟩) tag.length c21 (sB tag) wy10 HR8x9x10.out (fun e => by cases e) HZG.out).mono (RetB.form HTBG.out)) ?_
    rintro e wy11 ⟨a22, n22, c22, rfl, hl11, hlc11, hcm11, hn11, hr11, ho11, hb11⟩
    have HR11 := Lib.hid hr11
    have HNNG := Lib.hid hn11
    have HLLG := Lib.hid hl11
    have HS11 := Lib.hid (HS10.out.step hb11)
    have HR8x9x10x11 := Lib.hid (HR8x9x10.out.below hb11)
    have HR9x10x11 := Lib.hid (HR9x10.out.below hb11)
    have HR10x11 := Lib.hid (HR10.out.below hb11)
    clear hl11 hlc11 hcm11 hn11 hr11 ho11 hb11
    refine ⟨_, rfl, HS11.out, ?_⟩
    rw [hod]
    simp only [Act.put, List.setIfInBounds_toArray, List.set_cons_zero, List.set_cons_succ]
    refine anyH_pureG 8 (d := 5) (op := .assign (.tmp 18)) (gd := none) (.slice a18 n18 c18) (by rfl) (fun o ho => wanted_plain ho _) (by kernel_rfl) (by kernel_rfl) (by kernel_rfl) (fun _ _ _ h => h) (fun o ho W hW => by unfold execOp; simp only [ho]; go_simp) HS11.out ?_
    simp only [Act.put, List.setIfInBounds_toArray, List.set_cons_zero, List.set_cons_succ]
    refine anyH_pureG 9 (d := 6) (op := .assign (.tmp 22)) (gd := none) (.slice a22 n22 c22) (by rfl) (fun o ho => wanted_plain ho _) (by kernel_rfl) (by kernel_rfl) (by kernel_rfl) (fun _ _ _ h => h) (fun o ho W hW => by unfold execOp; simp only [ho]; go_simp) HS11.out ?_
    simp only [Act.put, List.setIfInBounds_toArray, List.set_cons_zero, List.set_cons_succ]
    refine wpAnyH_done (by kernel_rfl) ?_ _
    go_upto_region 7 with fail
    refine anyH_begin (S := Bx w g 31 (recC ⟨1, repo, tag, dig, M⟩)) (by kernel_rfl) ?_
    obtain ⟨w7, hw7⟩ : ∃ W, W = wy11.drew := ⟨_, rfl⟩
    have hb7 : Below wy11.heap.size wy11 w7 := by rw [hw7]; exact below_drewN' _ wy11 1
    have HS7 := Lib.hid (HS11.out.step hb7)
    have HTR7 := Lib.hid (show Rd w7 a18 n18 (txL (sB repo)) from by rw [← HXR.out]; exact HR10x11.out.below hb7)
    have HTG7 := Lib.hid (show Rd w7 a22 n22 (txL (sB tag)) from by rw [← HXG.out]; exact HR11.out.below hb7)
    rw [← hw7]
    clear hw7 hb7
    refine anyH_pureG 0 (d := 23) (op := .fieldAddr 31 (.tmp 1) 0) (gd := none) (.pointer (some ⟨g, 0, none⟩)) (by rfl) (fun o ho => wanted_plain ho _) (by kernel_rfl) (by kernel_rfl) (by kernel_rfl) (fun _ _ _ h => h) (fun o ho W hW => by unfold execOp; simp only [ho]; go_simp) HS7.out ?_
    simp only [Act.put, List.setIfInBounds_toArray, List.set_cons_zero, List.set_cons_succ]
    refine anyH_loadG 1 (d := 24) (ty := 3) (x := (.tmp 23)) (gd := none) (p := .pointer (some ⟨g, 0, none⟩)) (.int .i64 1) (by rfl) (fun o ho => wanted_plain ho _) (by kernel_rfl) (by kernel_rfl) (by kernel_rfl) (fun _ _ _ h => h) (by rfl) (fun W hW => by have c0 := hW.1.c0; go_simp) HS7.out ?_
    simp only [Act.put, List.setIfInBounds_toArray, List.set_cons_zero, List.set_cons_succ]
    refine anyH_pureG 2 (d := 25) (op := .convert 3 5 (.tmp 24)) (gd := none) (.int .u8 1) (by rfl) (fun o ho => wanted_plain ho _) (by kernel_rfl) (by kernel_rfl) (by kernel_rfl) (fun _ _ _ h => h) (fun o ho W hW => by unfold execOp; simp only [ho]; go_simp; try (first | rfl | decide | kernel_rfl)) HS7.out ?_
    simp only [Act.put, List.setIfInBounds_toArray, List.set_cons_zero, List.set_cons_succ]
    refine anyH_pureG 4 (d := 27) (op := .move (.tmp 5)) (gd := none) (.slice a18 n18 c18) (by rfl) (fun o ho => wanted_plain ho _) (by kernel_rfl) (by kernel_rfl) (by kernel_rfl) (fun _ _ _ h => h) (fun o ho W hW => by unfold execOp; simp only [ho]; go_simp) HS7.out ?_
    simp only [Act.put, List.setIfInBounds_toArray, List.set_cons_zero, List.set_cons_succ]
    refine anyH_pureG 5 (d := 28) (op := .move (.tmp 6)) (gd := none) (.slice a22 n22 c22) (by rfl) (fun o ho => wanted_plain ho _) (by kernel_rfl) (by kernel_rfl) (by kernel_rfl) (fun _ _ _ h => h) (fun o ho W hW => by unfold execOp; simp only [ho]; go_simp) HS7.out ?_
    simp only [Act.put, List.setIfInBounds_toArray, List.set_cons_zero, List.set_cons_succ]
    refine anyH_pureG 6 (d := 29) (op := .move (.tmp 4)) (gd := none) (.slice (some ⟨g, 3, none⟩) 32 32) (by rfl) (fun o ho => wanted_plain ho _) (by kernel_rfl) (by kernel_rfl) (by kernel_rfl) (fun _ _ _ h => h) (fun o ho W hW => by unfold execOp; simp only [ho]; go_simp) HS7.out ?_
    simp only [Act.put, List.setIfInBounds_toArray, List.set_cons_zero, List.set_cons_succ]
    refine anyH_pureG 7 (d := 30) (op := .fieldAddr 31 (.tmp 1) 4) (gd := none) (.pointer (some ⟨g, 35, none⟩)) (by rfl) (fun o ho => wanted_plain ho _) (by kernel_rfl) (by kernel_rfl) (by kernel_rfl) (fun _ _ _ h => h) (fun o ho W hW => by unfold execOp; simp only [ho]; go_simp) HS7.out ?_
    simp only [Act.put, List.setIfInBounds_toArray, List.set_cons_zero, List.set_cons_succ]
    refine anyH_loadG 8 (d := 31) (ty := 3) (x := (.tmp 30)) (gd := none) (p := .pointer (some ⟨g, 35, none⟩)) (.int .i64 (M : Int)) (by rfl) (fun o ho => wanted_plain ho _) (by kernel_rfl) (by kernel_rfl) (by kernel_rfl) (fun _ _ _ h => h) (by rfl) (fun W hW => by have c35 := hW.1.c35 HD.out; go_simp) HS7.out ?_
    simp only [Act.put, List.setIfInBounds_toArray, List.set_cons_zero, List.set_cons_succ]
    refine anyH_twoT 3 9 (d1 := some 26) (op1 := .buildSlice 25 1 #[(0, (.tmp 25))]) (d2 := some 32) (op2 := .call { callee := .value (.func 25), args := #[(.tmp 31)], argTypes := #[3] }) (by kernel_rfl) (by rfl) (by rfl) (fun o hod hoo => ?_) (fun o hod hoo => ?_)
    · refine wp_layT (.tmp 25) hoo 1 (by rfl) ?_
      obtain ⟨wx1, hwx1⟩ : ∃ W, W = w7.alloc (.cells #[.int .u8 ((1 : Nat) : Int)] 5) := ⟨_, rfl⟩
      obtain ⟨q, hq⟩ : ∃ q, q = w7.heap.size := ⟨_, rfl⟩
      have hb1 : Below w7.heap.size w7 wx1 := by rw [hwx1]; exact (Below.refl _ _).alloc (Nat.le_refl _) _
      have HR1 := Lib.hid (show Rd wx1 (some ⟨q, 0, none⟩) 1 [1] from by rw [hwx1, hq]; exact lay_one w7 1 (by omega))
      have HS1 := Lib.hid (HS7.out.step hb1)
      have HTR7y1 := Lib.hid (HTR7.out.below hb1)
      have HTG7y1 := Lib.hid (HTG7.out.below hb1)
      rw [← hwx1, ← hq]
      clear hwx1 hq hb1
      refine ⟨HS1.out, ?_⟩
      rw [hod]
      simp only [Act.put, List.setIfInBounds_toArray, List.set_cons_zero, List.set_cons_succ]
      refine anyH_oneT 9 (d1 := some 32) (op1 := .call { callee := .value (.func 25), args := #[(.tmp 31)], argTypes := #[3] }) (by kernel_rfl) (by rfl) (fun o hod hoo => ?_)
      refine wp_callT hoo (by go_simp) (by go_simp) (HPM.out wx1) ?_
      rintro e wx2 ⟨a32, n32, c32, rfl, hl2, hlc2, hcm2, hn2, hr2, ho2, hb2⟩
      have HR2 := Lib.hid hr2
      have HNM := Lib.hid hn2
      have hL2 : n32 = 8 := by rw [← hl2, Numm.put_len]
      have HS2 := Lib.hid (HS1.out.step hb2)
      have HTR7y1y2 := Lib.hid (HTR7y1.out.below hb2)
      have HTG7y1y2 := Lib.hid (HTG7y1.out.below hb2)
      have HR1y2 := Lib.hid (HR1.out.below hb2)
      clear hl2 hlc2 hcm2 hn2 hr2 ho2 hb2
      subst hL2
      refine ⟨_, rfl, HS2.out, ?_⟩
      rw [hod]
      simp only [Act.put, List.setIfInBounds_toArray, List.set_cons_zero, List.set_cons_succ]
      refine anyH_oneT 10 (d1 := some 33) (op1 := .buildSlice 75 5 #[(0, (.tmp 26)), (1, (.tmp 27)), (2, (.tmp 28)), (3, (.tmp 29)), (4, (.tmp 32))]) (by kernel_rfl) (by rfl) (fun o hod hoo => ?_)
      have hok : ∀ s ∈ [((some ⟨q, 0, none⟩, 1, 1, [1]) : Sl), (a18, n18, c18, txL (sB repo)), (a22, n22, c22, txL (sB tag)), (some ⟨g, 3, none⟩, 32, 32, dig), (a32, 8, c32, Numm.put M 8)], SlOk wx2 s := by
        intro s hs
        simp only [List.mem_cons, List.not_mem_nil, or_false] at hs
        rcases hs with rfl | rfl | rfl | rfl | rfl
        · exact ⟨HR1y2.out, fun e => by cases e⟩
        · exact ⟨HTR7y1y2.out, HNNR.out⟩
        · exact ⟨HTG7y1y2.out, HNNG.out⟩
        · exact ⟨HS2.out.rdDig HD.out, fun e => by cases e⟩
        · exact ⟨HR2.out, HNM.out⟩
      have htot : (catS [((some ⟨q, 0, none⟩, 1, 1, [1]) : Sl), (a18, n18, c18, txL (sB repo)), (a22, n22, c22, txL (sB tag)), (some ⟨g, 3, none⟩, 32, 32, dig), (a32, 8, c32, Numm.put M 8)]).length ≤ 140737488355328 := by
        have h1 := HD.out.1
        have h2 := HTLR.out
        have h3 := HTLG.out
        simp only [catS, slz, List.map_cons, List.map_nil, List.flatten_cons, List.flatten_nil, List.length_append, Numm.put_len, List.length_cons, List.length_nil, h1]
        omega
      have HCAT := Lib.hid (concat_row [((some ⟨q, 0, none⟩, 1, 1, [1]) : Sl), (a18, n18, c18, txL (sB repo)), (a22, n22, c22, txL (sB tag)), (some ⟨g, 3, none⟩, 32, 32, dig), (a32, 8, c32, Numm.put M 8)] #[.slice (some ⟨q, 0, none⟩) 1 1, .slice a18 n18 c18, .slice a22 n22 c22, .slice (some ⟨g, 3, none⟩) 32 32, .slice a32 8 c32] 5 wx2 rfl rfl (by omega) hok htot)
      refine wp_lay5R (.tmp 26) (.tmp 27) (.tmp 28) (.tmp 29) (.tmp 32) hoo (some ⟨q, 0, none⟩, 1, 1, [1]) (a18, n18, c18, txL (sB repo)) (a22, n22, c22, txL (sB tag)) (some ⟨g, 3, none⟩, 32, 32, dig) (a32, 8, c32, Numm.put M 8) rfl rfl rfl rfl rfl ?_
      have hb9 : Below wx2.heap.size wx2 (wx2.alloc (.cells #[slv (some ⟨q, 0, none⟩, 1, 1, [1]), slv (a18, n18, c18, txL (sB repo)), slv (a22, n22, c22, txL (sB tag)), slv (some ⟨g, 3, none⟩, 32, 32, dig), slv (a32, 8, c32, Numm.put M 8)] 25)) := (Below.refl _ _).alloc (Nat.le_refl _) _
      refine ⟨HS2.out.step hb9, ?_⟩
      rw [hod]
      simp only [Act.put, List.setIfInBounds_toArray, List.set_cons_zero, List.set_cons_succ]
      refine anyH_oneT 11 (d1 := some 34) (op1 := .call { callee := .value (.func 24), args := #[(.tmp 33)], argTypes := #[75] }) (by kernel_rfl) (by rfl) (fun o hod hoo => ?_)
      refine wp_callT hoo (by go_simp) (by go_simp) HCAT.out ?_
      rintro e wq ⟨vq, rfl, hoq, hbq⟩
      have HSQ := Lib.hid (HS2.out.step hbq)
      have HOQ := Lib.hid hoq
      have hszq := HS2.out.2.size
      clear hoq hbq hb9 hok htot
      refine ⟨_, rfl, HSQ.out, ?_⟩
      rw [hod]
      simp only [Act.put, List.setIfInBounds_toArray, List.set_cons_zero, List.set_cons_succ]
      refine anyH_pureG 12 (d := 2) (op := .assign (.tmp 34)) (gd := none) vq (by rfl) (fun o ho => wanted_plain ho _) (by kernel_rfl) (by kernel_rfl) (by kernel_rfl) (fun _ _ _ h => h) (fun o ho W hW => by unfold execOp; simp only [ho]; go_simp) HSQ.out ?_
      simp only [Act.put, List.setIfInBounds_toArray, List.set_cons_zero, List.set_cons_succ]
      refine anyH_pureG 13 (d := 3) (op := .assign (.const (.int .i64 0))) (gd := none) (.int .i64 0) (by rfl) (fun o ho => wanted_plain ho _) (by kernel_rfl) (by kernel_rfl) (by kernel_rfl) (fun _ _ _ h => h) (fun o ho W hW => by unfold execOp; simp only [ho]; go_simp) HSQ.out ?_
      simp only [Act.put, List.setIfInBounds_toArray, List.set_cons_zero, List.set_cons_succ]
      refine wpAnyH_done (by kernel_rfl) ?_ _
      go_wp2_with fail
      go_ret2
      exact ⟨_, rfl, own_mono (by simpa [catS, slz, encL] using HOQ.out) hszq, HSQ.out.2⟩
    · refine wp_callT hoo (by go_simp) (by go_simp) (HPM.out w7) ?_
      rintro e wx3 ⟨a32, n32, c32, rfl, hl3, hlc3, hcm3, hn3, hr3, ho3, hb3⟩
      have HR3 := Lib.hid hr3
      have HNM := Lib.hid hn3
      have hL3 : n32 = 8 := by rw [← hl3, Numm.put_len]
      have HS3 := Lib.hid (HS7.out.step hb3)
      have HTR7y3 := Lib.hid (HTR7.out.below hb3)
      have HTG7y3 := Lib.hid (HTG7.out.below hb3)
      clear hl3 hlc3 hcm3 hn3 hr3 ho3 hb3
      subst hL3
      refine ⟨_, rfl, HS3.out, ?_⟩
      rw [hod]
      simp only [Act.put, List.setIfInBounds_toArray, List.set_cons_zero, List.set_cons_succ]
      refine anyH_oneT 3 (d1 := some 26) (op1 := .buildSlice 25 1 #[(0, (.tmp 25))]) (by kernel_rfl) (by rfl) (fun o hod hoo => ?_)
      refine wp_layT (.tmp 25) hoo 1 (by rfl) ?_
      obtain ⟨wx4, hwx4⟩ : ∃ W, W = wx3.alloc (.cells #[.int .u8 ((1 : Nat) : Int)] 5) := ⟨_, rfl⟩
      obtain ⟨q, hq⟩ : ∃ q, q = wx3.heap.size := ⟨_, rfl⟩
      have hb4 : Below wx3.heap.size wx3 wx4 := by rw [hwx4]; exact (Below.refl _ _).alloc (Nat.le_refl _) _
      have HR4 := Lib.hid (show Rd wx4 (some ⟨q, 0, none⟩) 1 [1] from by rw [hwx4, hq]; exact lay_one wx3 1 (by omega))
      have HS4 := Lib.hid (HS3.out.step hb4)
      have HTR7y3y4 := Lib.hid (HTR7y3.out.below hb4)
      have HTG7y3y4 := Lib.hid (HTG7y3.out.below hb4)
      have HR3y4 := Lib.hid (HR3.out.below hb4)
      rw [← hwx4, ← hq]
      clear hwx4 hq hb4
      refine ⟨HS4.out, ?_⟩
      rw [hod]
      simp only [Act.put, List.setIfInBounds_toArray, List.set_cons_zero, List.set_cons_succ]
      refine anyH_oneT 10 (d1 := some 33) (op1 := .buildSlice 75 5 #[(0, (.tmp 26)), (1, (.tmp 27)), (2, (.tmp 28)), (3, (.tmp 29)), (4, (.tmp 32))]) (by kernel_rfl) (by rfl) (fun o hod hoo => ?_)
      have hok : ∀ s ∈ [((some ⟨q, 0, none⟩, 1, 1, [1]) : Sl), (a18, n18, c18, txL (sB repo)), (a22, n22, c22, txL (sB tag)), (some ⟨g, 3, none⟩, 32, 32, dig), (a32, 8, c32, Numm.put M 8)], SlOk wx4 s := by
        intro s hs
        simp only [List.mem_cons, List.not_mem_nil, or_false] at hs
        rcases hs with rfl | rfl | rfl | rfl | rfl
        · exact ⟨HR4.out, fun e => by cases e⟩
        · exact ⟨HTR7y3y4.out, HNNR.out⟩
        · exact ⟨HTG7y3y4.out, HNNG.out⟩
        · exact ⟨HS4.out.rdDig HD.out, fun e => by cases e⟩
        · exact ⟨HR3y4.out, HNM.out⟩
      have htot : (catS [((some ⟨q, 0, none⟩, 1, 1, [1]) : Sl), (a18, n18, c18, txL (sB repo)), (a22, n22, c22, txL (sB tag)), (some ⟨g, 3, none⟩, 32, 32, dig), (a32, 8, c32, Numm.put M 8)]).length ≤ 140737488355328 := by
        have h1 := HD.out.1
        have h2 := HTLR.out
        have h3 := HTLG.out
        simp only [catS, slz, List.map_cons, List.map_nil, List.flatten_cons, List.flatten_nil, List.length_append, Numm.put_len, List.length_cons, List.length_nil, h1]
        omega
      have HCAT := Lib.hid (concat_row [((some ⟨q, 0, none⟩, 1, 1, [1]) : Sl), (a18, n18, c18, txL (sB repo)), (a22, n22, c22, txL (sB tag)), (some ⟨g, 3, none⟩, 32, 32, dig), (a32, 8, c32, Numm.put M 8)] #[.slice (some ⟨q, 0, none⟩) 1 1, .slice a18 n18 c18, .slice a22 n22 c22, .slice (some ⟨g, 3, none⟩) 32 32, .slice a32 8 c32] 5 wx4 rfl rfl (by omega) hok htot)
      refine wp_lay5R (.tmp 26) (.tmp 27) (.tmp 28) (.tmp 29) (.tmp 32) hoo (some ⟨q, 0, none⟩, 1, 1, [1]) (a18, n18, c18, txL (sB repo)) (a22, n22, c22, txL (sB tag)) (some ⟨g, 3, none⟩, 32, 32, dig) (a32, 8, c32, Numm.put M 8) rfl rfl rfl rfl rfl ?_
      have hb9 : Below wx4.heap.size wx4 (wx4.alloc (.cells #[slv (some ⟨q, 0, none⟩, 1, 1, [1]), slv (a18, n18, c18, txL (sB repo)), slv (a22, n22, c22, txL (sB tag)), slv (some ⟨g, 3, none⟩, 32, 32, dig), slv (a32, 8, c32, Numm.put M 8)] 25)) := (Below.refl _ _).alloc (Nat.le_refl _) _
      refine ⟨HS4.out.step hb9, ?_⟩
      rw [hod]
      simp only [Act.put, List.setIfInBounds_toArray, List.set_cons_zero, List.set_cons_succ]
      refine anyH_oneT 11 (d1 := some 34) (op1 := .call { callee := .value (.func 24), args := #[(.tmp 33)], argTypes := #[75] }) (by kernel_rfl) (by rfl) (fun o hod hoo => ?_)
      refine wp_callT hoo (by go_simp) (by go_simp) HCAT.out ?_
      rintro e wq ⟨vq, rfl, hoq, hbq⟩
      have HSQ := Lib.hid (HS4.out.step hbq)
      have HOQ := Lib.hid hoq
      have hszq := HS4.out.2.size
      clear hoq hbq hb9 hok htot
      refine ⟨_, rfl, HSQ.out, ?_⟩
      rw [hod]
      simp only [Act.put, List.setIfInBounds_toArray, List.set_cons_zero, List.set_cons_succ]
      refine anyH_pureG 12 (d := 2) (op := .assign (.tmp 34)) (gd := none) vq (by rfl) (fun o ho => wanted_plain ho _) (by kernel_rfl) (by kernel_rfl) (by kernel_rfl) (fun _ _ _ h => h) (fun o ho W hW => by unfold execOp; simp only [ho]; go_simp) HSQ.out ?_
      simp only [Act.put, List.setIfInBounds_toArray, List.set_cons_zero, List.set_cons_succ]
      refine anyH_pureG 13 (d := 3) (op := .assign (.const (.int .i64 0))) (gd := none) (.int .i64 0) (by rfl) (fun o ho => wanted_plain ho _) (by kernel_rfl) (by kernel_rfl) (by kernel_rfl) (fun _ _ _ h => h) (fun o ho W hW => by unfold execOp; simp only [ho]; go_simp) HSQ.out ?_
      simp only [Act.put, List.setIfInBounds_toArray, List.set_cons_zero, List.set_cons_succ]
      refine wpAnyH_done (by kernel_rfl) ?_ _
      go_wp2_with fail
      go_ret2
      exact ⟨_, rfl, own_mono (by simpa [catS, slz, encL] using HOQ.out) hszq, HSQ.out.2⟩
set_option maxRecDepth 100000 in
set_option maxHeartbeats 8000000 in
theorem enc_ok2 (repo tag : List UInt8) (dig : List Nat) (M : Nat) (hd : dOk dig) (hr : rightB ⟨2, repo, tag, dig, M⟩ = true) (w : World) :
    Calls Tryd.prog 7 #[.agg (recC ⟨2, repo, tag, dig, M⟩)] w fun e w' => ∃ v, e = .returned (.tuple #[v, .int .i64 0]) ∧ Own w' w.heap.size v (encL ⟨2, repo, tag, dig, M⟩) ∧ Below w.heap.size w w' := by
  obtain ⟨-, hp2, hp3, -, hp5, -⟩ := right_parts hr
  simp only at hp2 hp3 hp5
  have HI := Lib.hid (show (Tryd.prog.info? 31).map (·.size) = some (recC ⟨2, repo, tag, dig, M⟩).size from by rw [recC_size hd]; exact info_p)
  have HK := Lib.hid fun W => right_c ⟨2, repo, tag, dig, M⟩ hd ⟨by simp only; omega, by simp only; omega⟩ W
  rw [hr] at HK
  have HD := Lib.hid hd
  have HZR := Lib.hid (show repo.length ≤ 140737488351232 by omega)
  have HZG := Lib.hid (show tag.length ≤ 140737488351232 by omega)
  have HTLR := Lib.hid (show (txL (sB repo)).length ≤ 138 from by unfold txL; have := Cntm.cnt_len10 (sB repo).length (by rw [sB_len]; omega); rw [List.length_append]; have := sB_len repo; omega)
  have HTLG := Lib.hid (show (txL (sB tag)).length ≤ 138 from by unfold txL; have := Cntm.cnt_len10 (sB tag).length (by rw [sB_len]; omega); rw [List.length_append]; have := sB_len tag; omega)
  have HTBR : Hid (∀ z ∈ Cntm.cnt repo.length ++ sB repo, z < 256) := Lib.hid fun z hz => (List.mem_append.1 hz).elim (Cntm.cnt_byte _ z) (sB_byte _ z)
  have HTBG : Hid (∀ z ∈ Cntm.cnt tag.length ++ sB tag, z < 256) := Lib.hid fun z hz => (List.mem_append.1 hz).elim (Cntm.cnt_byte _ z) (sB_byte _ z)
  have HXR := Lib.hid (show Cntm.cnt repo.length ++ sB repo = txL (sB repo) from by unfold txL; rw [sB_len])
  have HXG := Lib.hid (show Cntm.cnt tag.length ++ sB tag = txL (sB tag) from by unfold txL; rw [sB_len])
  have HPM := Lib.hid fun W => (number_c M W (by omega)).mono (RetB.form (Numm.put_byte _ _))
  obtain ⟨C, hC⟩ : ∃ C, C = recC ⟨2, repo, tag, dig, M⟩ := ⟨_, rfl⟩
  rw [← hC] at HI HK ⊢
  have HC := Lib.hid hC
  clear hC hd hr hp2 hp3 hp5
  go_enter Tryd.func7, Tryd.ntmps7
  go_upto_region 1 with (fail)
  obtain ⟨g, hg⟩ : ∃ g, g = w.heap.size := ⟨_, rfl⟩
  refine gen_codeR (F := Bx w g 31 C) (by rw [hg]; exact Bx.new _ _ _) ?_
  rw [← hg]
  rintro w0 hb0
  have H0 := Lib.hid hb0
  clear hg hb0
  have HSA := fun W => run_digAll W g 3
  go_upto_region 6 with (first | (refine wpList_loadg 31 _ (by rfl) (by rfl) (.pointer (some ⟨g, 0, none⟩)) (by rfl) (.agg C) (H0.out.1.load Tryd.underlying31 HI.out) ?_) | (go_at_call 11; (refine (HK.out _).mono ?_); rintro e w1 ⟨rfl, hb⟩; have H1 := Lib.hid (H0.out.step hb); have r1 := H1.out.1; rw [HC.out] at r1; have c0 := r1.c0; clear r1 hb))
  have HS1 := Lib.hid (show Bx w g 31 (recC ⟨2, repo, tag, dig, M⟩) w1 from by rw [← HC.out]; exact H1.out)
  clear H0 H1 HC HI HK c0
  refine anyH_begin (S := Bx w g 31 (recC ⟨2, repo, tag, dig, M⟩)) (by kernel_rfl) ?_
  obtain ⟨w2, hw2⟩ : ∃ w2, w2 = w1.drew := ⟨_, rfl⟩
  have HS := Lib.hid (show Bx w g 31 (recC ⟨2, repo, tag, dig, M⟩) w2 from by rw [hw2]; exact HS1.out.step (below_drewN' _ w1 1))
  rw [← hw2]
  clear hw2 HS1
  refine anyH_pureG 0 (d := 15) (op := .fieldAddr 31 (.tmp 1) 1) (gd := none) (.pointer (some ⟨g, 1, none⟩)) (by rfl) (fun o ho => wanted_plain ho _) (by kernel_rfl) (by kernel_rfl) (by kernel_rfl) (fun _ _ _ h => h) (fun o ho W hW => by unfold execOp; simp only [ho]; go_simp) HS.out ?_
  simp only [Act.put, List.setIfInBounds_toArray, List.set_cons_zero, List.set_cons_succ]
  refine anyH_loadG 1 (d := 16) (ty := 9) (x := (.tmp 15)) (gd := none) (p := .pointer (some ⟨g, 1, none⟩)) (.string (T repo)) (by rfl) (fun o ho => wanted_plain ho _) (by kernel_rfl) (by kernel_rfl) (by kernel_rfl) (fun _ _ _ h => h) (by rfl) (fun W hW => by have c0 := hW.1.c1; go_simp) HS.out ?_
  simp only [Act.put, List.setIfInBounds_toArray, List.set_cons_zero, List.set_cons_succ]
  refine anyH_pureG 4 (d := 19) (op := .fieldAddr 31 (.tmp 1) 2) (gd := none) (.pointer (some ⟨g, 2, none⟩)) (by rfl) (fun o ho => wanted_plain ho _) (by kernel_rfl) (by kernel_rfl) (by kernel_rfl) (fun _ _ _ h => h) (fun o ho W hW => by unfold execOp; simp only [ho]; go_simp) HS.out ?_
  simp only [Act.put, List.setIfInBounds_toArray, List.set_cons_zero, List.set_cons_succ]
  refine anyH_loadG 5 (d := 20) (ty := 9) (x := (.tmp 19)) (gd := none) (p := .pointer (some ⟨g, 2, none⟩)) (.string (T tag)) (by rfl) (fun o ho => wanted_plain ho _) (by kernel_rfl) (by kernel_rfl) (by kernel_rfl) (fun _ _ _ h => h) (by rfl) (fun W hW => by have c0 := hW.1.c2; go_simp) HS.out ?_
  simp only [Act.put, List.setIfInBounds_toArray, List.set_cons_zero, List.set_cons_succ]
  refine anyH_twoT 2 6 (d1 := some 17) (op1 := .convert 9 25 (.tmp 16)) (d2 := some 21) (op2 := .convert 9 25 (.tmp 20)) (by kernel_rfl) (by rfl) (by rfl) (fun o hod hoo => ?_) (fun o hod hoo => ?_)
  · refine wp_toBytesR (.tmp 16) hoo repo (by rfl) HZR.out ?_
    rintro b17 c17 wy1 hr1 hc1 hg1 hb1
    have HR1 := Lib.hid hr1
    have HS1 := Lib.hid (HS.out.step hb1)
    clear hr1 hc1 hg1 hb1
    refine ⟨HS1.out, ?_⟩
    rw [hod]
    simp only [Act.put, List.setIfInBounds_toArray, List.set_cons_zero, List.set_cons_succ]
    refine anyH_twoT 3 6 (d1 := some 18) (op1 := .call { callee := .value (.func 23), args := #[(.tmp 17)], argTypes := #[25] }) (d2 := some 21) (op2 := .convert 9 25 (.tmp 20)) (by kernel_rfl) (by rfl) (by rfl) (fun o hod hoo => ?_) (fun o hod hoo => ?_)
    · refine wp_callT hoo (by go_simp) (by go_simp) ((text_c (some ⟨b17, 0, none⟩) repo.length c17 (sB repo) wy1 HR1.out (fun e => by cases e) HZR.out).mono (RetB.form HTBR.out)) ?_
      rintro e wy2 ⟨a18, n18, c18, rfl, hl2, hlc2, hcm2, hn2, hr2, ho2, hb2⟩
      have HR2 := Lib.hid hr2
      have HNNR := Lib.hid hn2
      have HLLR := Lib.hid hl2
      have HS2 := Lib.hid (HS1.out.step hb2)
      have HR1x2 := Lib.hid (HR1.out.below hb2)
      clear hl2 hlc2 hcm2 hn2 hr2 ho2 hb2
      refine ⟨_, rfl, HS2.out, ?_⟩
      rw [hod]
      simp only [Act.put, List.setIfInBounds_toArray, List.set_cons_zero, List.set_cons_succ]
      refine anyH_oneT 6 (d1 := some 21) (op1 := .convert 9 25 (.tmp 20)) (by kernel_rfl) (by rfl) (fun o hod hoo => ?_)
      refine wp_toBytesR (.tmp 20) hoo tag (by rfl) HZG.out ?_
      rintro b21 c21 wy3 hr3 hc3 hg3 hb3
      have HR3 := Lib.hid hr3
      have HS3 := Lib.hid (HS2.out.step hb3)
      have HR1x2x3 := Lib.hid (HR1x2.out.below hb3)
      have HR2x3 := Lib.hid (HR2.out.below hb3)
      clear hr3 hc3 hg3 hb3
      refine ⟨HS3.out, ?_⟩
      rw [hod]
      simp only [Act.put, List.setIfInBounds_toArray, List.set_cons_zero, List.set_cons_succ]
      refine anyH_oneT 7 (d1 := some 22) (op1 := .call { callee := .value (.func 23), args := #[(.tmp 21)], argTypes := #[25] }) (by kernel_rfl) (by rfl) (fun o hod hoo => ?_)
      refine wp_callT hoo (by go_simp) (by go_simp) ((text_c (some ⟨b21, 0, none⟩) tag.length c21 (sB tag) wy3 HR3.out (fun e => by cases e) HZG.out).mono (RetB.form HTBG.out)) ?_
      rintro e wy4 ⟨a22, n22, c22, rfl, hl4, hlc4, hcm4, hn4, hr4, ho4, hb4⟩
      have HR4 := Lib.hid hr4
      have HNNG := Lib.hid hn4
      have HLLG := Lib.hid hl4
      have HS4 := Lib.hid (HS3.out.step hb4)
      have HR1x2x3x4 := Lib.hid (HR1x2x3.out.below hb4)
      have HR2x3x4 := Lib.hid (HR2x3.out.below hb4)
      have HR3x4 := Lib.hid (HR3.out.below hb4)
      clear hl4 hlc4 hcm4 hn4 hr4 ho4 hb4
      refine ⟨_, rfl, HS4.out, ?_⟩
      rw [hod]
      simp only [Act.put, List.setIfInBounds_toArray, List.set_cons_zero, List.set_cons_succ]
      refine anyH_pureG 8 (d := 5) (op := .assign (.tmp 18)) (gd := none) (.slice a18 n18 c18) (by rfl) (fun o ho => wanted_plain ho _) (by kernel_rfl) (by kernel_rfl) (by kernel_rfl) (fun _ _ _ h => h) (fun o ho W hW => by unfold execOp; simp only [ho]; go_simp) HS4.out ?_
      simp only [Act.put, List.setIfInBounds_toArray, List.set_cons_zero, List.set_cons_succ]
      refine anyH_pureG 9 (d := 6) (op := .assign (.tmp 22)) (gd := none) (.slice a22 n22 c22) (by rfl) (fun o ho => wanted_plain ho _) (by kernel_rfl) (by kernel_rfl) (by kernel_rfl) (fun _ _ _ h => h) (fun o ho W hW => by unfold execOp; simp only [ho]; go_simp) HS4.out ?_
      simp only [Act.put, List.setIfInBounds_toArray, List.set_cons_zero, List.set_cons_succ]
      refine wpAnyH_done (by kernel_rfl) ?_ _
      go_upto_region 7 with fail
      refine anyH_begin (S := Bx w g 31 (recC ⟨2, repo, tag, dig, M⟩)) (by kernel_rfl) ?_
      obtain ⟨w7, hw7⟩ : ∃ W, W = wy4.drew := ⟨_, rfl⟩
      have hb7 : Below wy4.heap.size wy4 w7 := by rw [hw7]; exact below_drewN' _ wy4 1
      have HS7 := Lib.hid (HS4.out.step hb7)
      have HTR7 := Lib.hid (show Rd w7 a18 n18 (txL (sB repo)) from by rw [← HXR.out]; exact HR2x3x4.out.below hb7)
      have HTG7 := Lib.hid (show Rd w7 a22 n22 (txL (sB tag)) from by rw [← HXG.out]; exact HR4.out.below hb7)
      rw [← hw7]
      clear hw7 hb7
      refine anyH_pureG 0 (d := 23) (op := .fieldAddr 31 (.tmp 1) 0) (gd := none) (.pointer (some ⟨g, 0, none⟩)) (by rfl) (fun o ho => wanted_plain ho _) (by kernel_rfl) (by kernel_rfl) (by kernel_rfl) (fun _ _ _ h => h) (fun o ho W hW => by unfold execOp; simp only [ho]; go_simp) HS7.out ?_
      simp only [Act.put, List.setIfInBounds_toArray, List.set_cons_zero, List.set_cons_succ]
      refine anyH_loadG 1 (d := 24) (ty := 3) (x := (.tmp 23)) (gd := none) (p := .pointer (some ⟨g, 0, none⟩)) (.int .i64 2) (by rfl) (fun o ho => wanted_plain ho _) (by kernel_rfl) (by kernel_rfl) (by kernel_rfl) (fun _ _ _ h => h) (by rfl) (fun W hW => by have c0 := hW.1.c0; go_simp) HS7.out ?_
      simp only [Act.put, List.setIfInBounds_toArray, List.set_cons_zero, List.set_cons_succ]
      refine anyH_pureG 2 (d := 25) (op := .convert 3 5 (.tmp 24)) (gd := none) (.int .u8 2) (by rfl) (fun o ho => wanted_plain ho _) (by kernel_rfl) (by kernel_rfl) (by kernel_rfl) (fun _ _ _ h => h) (fun o ho W hW => by unfold execOp; simp only [ho]; go_simp; try (first | rfl | decide | kernel_rfl)) HS7.out ?_
      simp only [Act.put, List.setIfInBounds_toArray, List.set_cons_zero, List.set_cons_succ]
      refine anyH_pureG 4 (d := 27) (op := .move (.tmp 5)) (gd := none) (.slice a18 n18 c18) (by rfl) (fun o ho => wanted_plain ho _) (by kernel_rfl) (by kernel_rfl) (by kernel_rfl) (fun _ _ _ h => h) (fun o ho W hW => by unfold execOp; simp only [ho]; go_simp) HS7.out ?_
      simp only [Act.put, List.setIfInBounds_toArray, List.set_cons_zero, List.set_cons_succ]
      refine anyH_pureG 5 (d := 28) (op := .move (.tmp 6)) (gd := none) (.slice a22 n22 c22) (by rfl) (fun o ho => wanted_plain ho _) (by kernel_rfl) (by kernel_rfl) (by kernel_rfl) (fun _ _ _ h => h) (fun o ho W hW => by unfold execOp; simp only [ho]; go_simp) HS7.out ?_
      simp only [Act.put, List.setIfInBounds_toArray, List.set_cons_zero, List.set_cons_succ]
      refine anyH_pureG 6 (d := 29) (op := .move (.tmp 4)) (gd := none) (.slice none 0 0) (by rfl) (fun o ho => wanted_plain ho _) (by kernel_rfl) (by kernel_rfl) (by kernel_rfl) (fun _ _ _ h => h) (fun o ho W hW => by unfold execOp; simp only [ho]; go_simp) HS7.out ?_
      simp only [Act.put, List.setIfInBounds_toArray, List.set_cons_zero, List.set_cons_succ]
      refine anyH_pureG 7 (d := 30) (op := .fieldAddr 31 (.tmp 1) 4) (gd := none) (.pointer (some ⟨g, 35, none⟩)) (by rfl) (fun o ho => wanted_plain ho _) (by kernel_rfl) (by kernel_rfl) (by kernel_rfl) (fun _ _ _ h => h) (fun o ho W hW => by unfold execOp; simp only [ho]; go_simp) HS7.out ?_
      simp only [Act.put, List.setIfInBounds_toArray, List.set_cons_zero, List.set_cons_succ]
      refine anyH_loadG 8 (d := 31) (ty := 3) (x := (.tmp 30)) (gd := none) (p := .pointer (some ⟨g, 35, none⟩)) (.int .i64 (M : Int)) (by rfl) (fun o ho => wanted_plain ho _) (by kernel_rfl) (by kernel_rfl) (by kernel_rfl) (fun _ _ _ h => h) (by rfl) (fun W hW => by have c35 := hW.1.c35 HD.out; go_simp) HS7.out ?_
      simp only [Act.put, List.setIfInBounds_toArray, List.set_cons_zero, List.set_cons_succ]
      refine anyH_twoT 3 9 (d1 := some 26) (op1 := .buildSlice 25 1 #[(0, (.tmp 25))]) (d2 := some 32) (op2 := .call { callee := .value (.func 25), args := #[(.tmp 31)], argTypes := #[3] }) (by kernel_rfl) (by rfl) (by rfl) (fun o hod hoo => ?_) (fun o hod hoo => ?_)
      · refine wp_layT (.tmp 25) hoo 2 (by rfl) ?_
        obtain ⟨wx1, hwx1⟩ : ∃ W, W = w7.alloc (.cells #[.int .u8 ((2 : Nat) : Int)] 5) := ⟨_, rfl⟩
        obtain ⟨q, hq⟩ : ∃ q, q = w7.heap.size := ⟨_, rfl⟩
        have hb1 : Below w7.heap.size w7 wx1 := by rw [hwx1]; exact (Below.refl _ _).alloc (Nat.le_refl _) _
        have HR1 := Lib.hid (show Rd wx1 (some ⟨q, 0, none⟩) 1 [2] from by rw [hwx1, hq]; exact lay_one w7 2 (by omega))
        have HS1 := Lib.hid (HS7.out.step hb1)
        have HTR7y1 := Lib.hid (HTR7.out.below hb1)
        have HTG7y1 := Lib.hid (HTG7.out.below hb1)
        rw [← hwx1, ← hq]
        clear hwx1 hq hb1
        refine ⟨HS1.out, ?_⟩
        rw [hod]
        simp only [Act.put, List.setIfInBounds_toArray, List.set_cons_zero, List.set_cons_succ]
        refine anyH_oneT 9 (d1 := some 32) (op1 := .call { callee := .value (.func 25), args := #[(.tmp 31)], argTypes := #[3] }) (by kernel_rfl) (by rfl) (fun o hod hoo => ?_)
        refine wp_callT hoo (by go_simp) (by go_simp) (HPM.out wx1) ?_
        rintro e wx2 ⟨a32, n32, c32, rfl, hl2, hlc2, hcm2, hn2, hr2, ho2, hb2⟩
        have HR2 := Lib.hid hr2
        have HNM := Lib.hid hn2
        have hL2 : n32 = 8 := by rw [← hl2, Numm.put_len]
        have HS2 := Lib.hid (HS1.out.step hb2)
        have HTR7y1y2 := Lib.hid (HTR7y1.out.below hb2)
        have HTG7y1y2 := Lib.hid (HTG7y1.out.below hb2)
        have HR1y2 := Lib.hid (HR1.out.below hb2)
        clear hl2 hlc2 hcm2 hn2 hr2 ho2 hb2
        subst hL2
        refine ⟨_, rfl, HS2.out, ?_⟩
        rw [hod]
        simp only [Act.put, List.setIfInBounds_toArray, List.set_cons_zero, List.set_cons_succ]
        refine anyH_oneT 10 (d1 := some 33) (op1 := .buildSlice 75 5 #[(0, (.tmp 26)), (1, (.tmp 27)), (2, (.tmp 28)), (3, (.tmp 29)), (4, (.tmp 32))]) (by kernel_rfl) (by rfl) (fun o hod hoo => ?_)
        have hok : ∀ s ∈ [((some ⟨q, 0, none⟩, 1, 1, [2]) : Sl), (a18, n18, c18, txL (sB repo)), (a22, n22, c22, txL (sB tag)), (none, 0, 0, []), (a32, 8, c32, Numm.put M 8)], SlOk wx2 s := by
          intro s hs
          simp only [List.mem_cons, List.not_mem_nil, or_false] at hs
          rcases hs with rfl | rfl | rfl | rfl | rfl
          · exact ⟨HR1y2.out, fun e => by cases e⟩
          · exact ⟨HTR7y1y2.out, HNNR.out⟩
          · exact ⟨HTG7y1y2.out, HNNG.out⟩
          · exact ⟨⟨rfl, by simp, .inl rfl⟩, fun _ => rfl⟩
          · exact ⟨HR2.out, HNM.out⟩
        have htot : (catS [((some ⟨q, 0, none⟩, 1, 1, [2]) : Sl), (a18, n18, c18, txL (sB repo)), (a22, n22, c22, txL (sB tag)), (none, 0, 0, []), (a32, 8, c32, Numm.put M 8)]).length ≤ 140737488355328 := by
          have h1 := HD.out.1
          have h2 := HTLR.out
          have h3 := HTLG.out
          simp only [catS, slz, List.map_cons, List.map_nil, List.flatten_cons, List.flatten_nil, List.length_append, Numm.put_len, List.length_cons, List.length_nil, h1]
          omega
        have HCAT := Lib.hid (concat_row [((some ⟨q, 0, none⟩, 1, 1, [2]) : Sl), (a18, n18, c18, txL (sB repo)), (a22, n22, c22, txL (sB tag)), (none, 0, 0, []), (a32, 8, c32, Numm.put M 8)] #[.slice (some ⟨q, 0, none⟩) 1 1, .slice a18 n18 c18, .slice a22 n22 c22, .slice none 0 0, .slice a32 8 c32] 5 wx2 rfl rfl (by omega) hok htot)
        refine wp_lay5R (.tmp 26) (.tmp 27) (.tmp 28) (.tmp 29) (.tmp 32) hoo (some ⟨q, 0, none⟩, 1, 1, [2]) (a18, n18, c18, txL (sB repo)) (a22, n22, c22, txL (sB tag)) (none, 0, 0, []) (a32, 8, c32, Numm.put M 8) rfl rfl rfl rfl rfl ?_
        have hb9 : Below wx2.heap.size wx2 (wx2.alloc (.cells #[slv (some ⟨q, 0, none⟩, 1, 1, [2]), slv (a18, n18, c18, txL (sB repo)), slv (a22, n22, c22, txL (sB tag)), slv (none, 0, 0, []), slv (a32, 8, c32, Numm.put M 8)] 25)) := (Below.refl _ _).alloc (Nat.le_refl _) _
        refine ⟨HS2.out.step hb9, ?_⟩
        rw [hod]
        simp only [Act.put, List.setIfInBounds_toArray, List.set_cons_zero, List.set_cons_succ]
        refine anyH_oneT 11 (d1 := some 34) (op1 := .call { callee := .value (.func 24), args := #[(.tmp 33)], argTypes := #[75] }) (by kernel_rfl) (by rfl) (fun o hod hoo => ?_)
        refine wp_callT hoo (by go_simp) (by go_simp) HCAT.out ?_
        rintro e wq ⟨vq, rfl, hoq, hbq⟩
        have HSQ := Lib.hid (HS2.out.step hbq)
        have HOQ := Lib.hid hoq
        have hszq := HS2.out.2.size
        clear hoq hbq hb9 hok htot
        refine ⟨_, rfl, HSQ.out, ?_⟩
        rw [hod]
        simp only [Act.put, List.setIfInBounds_toArray, List.set_cons_zero, List.set_cons_succ]
        refine anyH_pureG 12 (d := 2) (op := .assign (.tmp 34)) (gd := none) vq (by rfl) (fun o ho => wanted_plain ho _) (by kernel_rfl) (by kernel_rfl) (by kernel_rfl) (fun _ _ _ h => h) (fun o ho W hW => by unfold execOp; simp only [ho]; go_simp) HSQ.out ?_
        simp only [Act.put, List.setIfInBounds_toArray, List.set_cons_zero, List.set_cons_succ]
        refine anyH_pureG 13 (d := 3) (op := .assign (.const (.int .i64 0))) (gd := none) (.int .i64 0) (by rfl) (fun o ho => wanted_plain ho _) (by kernel_rfl) (by kernel_rfl) (by kernel_rfl) (fun _ _ _ h => h) (fun o ho W hW => by unfold execOp; simp only [ho]; go_simp) HSQ.out ?_
        simp only [Act.put, List.setIfInBounds_toArray, List.set_cons_zero, List.set_cons_succ]
        refine wpAnyH_done (by kernel_rfl) ?_ _
        go_wp2_with fail
        go_ret2
        exact ⟨_, rfl, own_mono (by simpa [catS, slz, encL] using HOQ.out) hszq, HSQ.out.2⟩
      · refine wp_callT hoo (by go_simp) (by go_simp) (HPM.out w7) ?_
        rintro e wx3 ⟨a32, n32, c32, rfl, hl3, hlc3, hcm3, hn3, hr3, ho3, hb3⟩
        have HR3 := Lib.hid hr3
        have HNM := Lib.hid hn3
        have hL3 : n32 = 8 := by rw [← hl3, Numm.put_len]
        have HS3 := Lib.hid (HS7.out.step hb3)
        have HTR7y3 := Lib.hid (HTR7.out.below hb3)
        have HTG7y3 := Lib.hid (HTG7.out.below hb3)
        clear hl3 hlc3 hcm3 hn3 hr3 ho3 hb3
        subst hL3
        refine ⟨_, rfl, HS3.out, ?_⟩
        rw [hod]
        simp only [Act.put, List.setIfInBounds_toArray, List.set_cons_zero, List.set_cons_succ]
        refine anyH_oneT 3 (d1 := some 26) (op1 := .buildSlice 25 1 #[(0, (.tmp 25))]) (by kernel_rfl) (by rfl) (fun o hod hoo => ?_)
        refine wp_layT (.tmp 25) hoo 2 (by rfl) ?_
        obtain ⟨wx4, hwx4⟩ : ∃ W, W = wx3.alloc (.cells #[.int .u8 ((2 : Nat) : Int)] 5) := ⟨_, rfl⟩
        obtain ⟨q, hq⟩ : ∃ q, q = wx3.heap.size := ⟨_, rfl⟩
        have hb4 : Below wx3.heap.size wx3 wx4 := by rw [hwx4]; exact (Below.refl _ _).alloc (Nat.le_refl _) _
        have HR4 := Lib.hid (show Rd wx4 (some ⟨q, 0, none⟩) 1 [2] from by rw [hwx4, hq]; exact lay_one wx3 2 (by omega))
        have HS4 := Lib.hid (HS3.out.step hb4)
        have HTR7y3y4 := Lib.hid (HTR7y3.out.below hb4)
        have HTG7y3y4 := Lib.hid (HTG7y3.out.below hb4)
        have HR3y4 := Lib.hid (HR3.out.below hb4)
        rw [← hwx4, ← hq]
        clear hwx4 hq hb4
        refine ⟨HS4.out, ?_⟩
        rw [hod]
        simp only [Act.put, List.setIfInBounds_toArray, List.set_cons_zero, List.set_cons_succ]
        refine anyH_oneT 10 (d1 := some 33) (op1 := .buildSlice 75 5 #[(0, (.tmp 26)), (1, (.tmp 27)), (2, (.tmp 28)), (3, (.tmp 29)), (4, (.tmp 32))]) (by kernel_rfl) (by rfl) (fun o hod hoo => ?_)
        have hok : ∀ s ∈ [((some ⟨q, 0, none⟩, 1, 1, [2]) : Sl), (a18, n18, c18, txL (sB repo)), (a22, n22, c22, txL (sB tag)), (none, 0, 0, []), (a32, 8, c32, Numm.put M 8)], SlOk wx4 s := by
          intro s hs
          simp only [List.mem_cons, List.not_mem_nil, or_false] at hs
          rcases hs with rfl | rfl | rfl | rfl | rfl
          · exact ⟨HR4.out, fun e => by cases e⟩
          · exact ⟨HTR7y3y4.out, HNNR.out⟩
          · exact ⟨HTG7y3y4.out, HNNG.out⟩
          · exact ⟨⟨rfl, by simp, .inl rfl⟩, fun _ => rfl⟩
          · exact ⟨HR3y4.out, HNM.out⟩
        have htot : (catS [((some ⟨q, 0, none⟩, 1, 1, [2]) : Sl), (a18, n18, c18, txL (sB repo)), (a22, n22, c22, txL (sB tag)), (none, 0, 0, []), (a32, 8, c32, Numm.put M 8)]).length ≤ 140737488355328 := by
          have h1 := HD.out.1
          have h2 := HTLR.out
          have h3 := HTLG.out
          simp only [catS, slz, List.map_cons, List.map_nil, List.flatten_cons, List.flatten_nil, List.length_append, Numm.put_len, List.length_cons, List.length_nil, h1]
          omega
        have HCAT := Lib.hid (concat_row [((some ⟨q, 0, none⟩, 1, 1, [2]) : Sl), (a18, n18, c18, txL (sB repo)), (a22, n22, c22, txL (sB tag)), (none, 0, 0, []), (a32, 8, c32, Numm.put M 8)] #[.slice (some ⟨q, 0, none⟩) 1 1, .slice a18 n18 c18, .slice a22 n22 c22, .slice none 0 0, .slice a32 8 c32] 5 wx4 rfl rfl (by omega) hok htot)
        refine wp_lay5R (.tmp 26) (.tmp 27) (.tmp 28) (.tmp 29) (.tmp 32) hoo (some ⟨q, 0, none⟩, 1, 1, [2]) (a18, n18, c18, txL (sB repo)) (a22, n22, c22, txL (sB tag)) (none, 0, 0, []) (a32, 8, c32, Numm.put M 8) rfl rfl rfl rfl rfl ?_
        have hb9 : Below wx4.heap.size wx4 (wx4.alloc (.cells #[slv (some ⟨q, 0, none⟩, 1, 1, [2]), slv (a18, n18, c18, txL (sB repo)), slv (a22, n22, c22, txL (sB tag)), slv (none, 0, 0, []), slv (a32, 8, c32, Numm.put M 8)] 25)) := (Below.refl _ _).alloc (Nat.le_refl _) _
        refine ⟨HS4.out.step hb9, ?_⟩
        rw [hod]
        simp only [Act.put, List.setIfInBounds_toArray, List.set_cons_zero, List.set_cons_succ]
        refine anyH_oneT 11 (d1 := some 34) (op1 := .call { callee := .value (.func 24), args := #[(.tmp 33)], argTypes := #[75] }) (by kernel_rfl) (by rfl) (fun o hod hoo => ?_)
        refine wp_callT hoo (by go_simp) (by go_simp) HCAT.out ?_
        rintro e wq ⟨vq, rfl, hoq, hbq⟩
        have HSQ := Lib.hid (HS4.out.step hbq)
        have HOQ := Lib.hid hoq
        have hszq := HS4.out.2.size
        clear hoq hbq hb9 hok htot
        refine ⟨_, rfl, HSQ.out, ?_⟩
        rw [hod]
        simp only [Act.put, List.setIfInBounds_toArray, List.set_cons_zero, List.set_cons_succ]
        refine anyH_pureG 12 (d := 2) (op := .assign (.tmp 34)) (gd := none) vq (by rfl) (fun o ho => wanted_plain ho _) (by kernel_rfl) (by kernel_rfl) (by kernel_rfl) (fun _ _ _ h => h) (fun o ho W hW => by unfold execOp; simp only [ho]; go_simp) HSQ.out ?_
        simp only [Act.put, List.setIfInBounds_toArray, List.set_cons_zero, List.set_cons_succ]
        refine anyH_pureG 13 (d := 3) (op := .assign (.const (.int .i64 0))) (gd := none) (.int .i64 0) (by rfl) (fun o ho => wanted_plain ho _) (by kernel_rfl) (by kernel_rfl) (by kernel_rfl) (fun _ _ _ h => h) (fun o ho W hW => by unfold execOp; simp only [ho]; go_simp) HSQ.out ?_
        simp only [Act.put, List.setIfInBounds_toArray, List.set_cons_zero, List.set_cons_succ]
        refine wpAnyH_done (by kernel_rfl) ?_ _
        go_wp2_with fail
        go_ret2
        exact ⟨_, rfl, own_mono (by simpa [catS, slz, encL] using HOQ.out) hszq, HSQ.out.2⟩
    · refine wp_toBytesR (.tmp 20) hoo tag (by rfl) HZG.out ?_
      rintro b21 c21 wy5 hr5 hc5 hg5 hb5
      have HR5 := Lib.hid hr5
      have HS5 := Lib.hid (HS1.out.step hb5)
      have HR1x5 := Lib.hid (HR1.out.below hb5)
      clear hr5 hc5 hg5 hb5
      refine ⟨HS5.out, ?_⟩
      rw [hod]
      simp only [Act.put, List.setIfInBounds_toArray, List.set_cons_zero, List.set_cons_succ]
      refine anyH_oneT 3 (d1 := some 18) (op1 := .call { callee := .value (.func 23), args := #[(.tmp 17)], argTypes := #[25] }) (by kernel_rfl) (by rfl) (fun o hod hoo => ?_)
      refine wp_callT hoo (by go_simp) (by go_simp) ((text_c (some ⟨b17, 0, none⟩) repo.length c17 (sB repo) wy5 HR1x5.out (fun e => by cases e) HZR.out).mono (RetB.form HTBR.out)) ?_
      rintro e wy6 ⟨a18, n18, c18, rfl, hl6, hlc6, hcm6, hn6, hr6, ho6, hb6⟩
      have HR6 := Lib.hid hr6
      have HNNR := Lib.hid hn6
      have HLLR := Lib.hid hl6
      have HS6 := Lib.hid (HS5.out.step hb6)
      have HR1x5x6 := Lib.hid (HR1x5.out.below hb6)
      have HR5x6 := Lib.hid (HR5.out.below hb6)
      clear hl6 hlc6 hcm6 hn6 hr6 ho6 hb6
      refine ⟨_, rfl, HS6.out, ?_⟩
      rw [hod]
      simp only [Act.put, List.setIfInBounds_toArray, List.set_cons_zero, List.set_cons_succ]
      refine anyH_oneT 7 (d1 := some 22) (op1 := .call { callee := .value (.func 23), args := #[(.tmp 21)], argTypes := #[25] }) (by kernel_rfl) (by rfl) (fun o hod hoo => ?_)
      refine wp_callT hoo (by go_simp) (by go_simp) ((text_c (some ⟨b21, 0, none⟩) tag.length c21 (sB tag) wy6 HR5x6.out (fun e => by cases e) HZG.out).mono (RetB.form HTBG.out)) ?_
      rintro e wy7 ⟨a22, n22, c22, rfl, hl7, hlc7, hcm7, hn7, hr7, ho7, hb7⟩
      have HR7 := Lib.hid hr7
      have HNNG := Lib.hid hn7
      have HLLG := Lib.hid hl7
      have HS7 := Lib.hid (HS6.out.step hb7)
      have HR1x5x6x7 := Lib.hid (HR1x5x6.out.below hb7)
      have HR5x6x7 := Lib.hid (HR5x6.out.below hb7)
      have HR6x7 := Lib.hid (HR6.out.below hb7)
      clear hl7 hlc7 hcm7 hn7 hr7 ho7 hb7
      refine ⟨_, rfl, HS7.out, ?_⟩
      rw [hod]
      simp only [Act.put, List.setIfInBounds_toArray, List.set_cons_zero, List.set_cons_succ]
      refine anyH_pureG 8 (d := 5) (op := .assign (.tmp 18)) (gd := none) (.slice a18 n18 c18) (by rfl) (fun o ho => wanted_plain ho _) (by kernel_rfl) (by kernel_rfl) (by kernel_rfl) (fun _ _ _ h => h) (fun o ho W hW => by unfold execOp; simp only [ho]; go_simp) HS7.out ?_
      simp only [Act.put, List.setIfInBounds_toArray, List.set_cons_zero, List.set_cons_succ]
      refine anyH_pureG 9 (d := 6) (op := .assign (.tmp 22)) (gd := none) (.slice a22 n22 c22) (by rfl) (fun o ho => wanted_plain ho _) (by kernel_rfl) (by kernel_rfl) (by kernel_rfl) (fun _ _ _ h => h) (fun o ho W hW => by unfold execOp; simp only [ho]; go_simp) HS7.out ?_
      simp only [Act.put, List.setIfInBounds_toArray, List.set_cons_zero, List.set_cons_succ]
      refine wpAnyH_done (by kernel_rfl) ?_ _
      go_upto_region 7 with fail
      refine anyH_begin (S := Bx w g 31 (recC ⟨2, repo, tag, dig, M⟩)) (by kernel_rfl) ?_
      obtain ⟨w7, hw7⟩ : ∃ W, W = wy7.drew := ⟨_, rfl⟩
      have hb7 : Below wy7.heap.size wy7 w7 := by rw [hw7]; exact below_drewN' _ wy7 1
      have HS7 := Lib.hid (HS7.out.step hb7)
      have HTR7 := Lib.hid (show Rd w7 a18 n18 (txL (sB repo)) from by rw [← HXR.out]; exact HR6x7.out.below hb7)
      have HTG7 := Lib.hid (show Rd w7 a22 n22 (txL (sB tag)) from by rw [← HXG.out]; exact HR7.out.below hb7)
      rw [← hw7]
      clear hw7 hb7
      refine anyH_pureG 0 (d := 23) (op := .fieldAddr 31 (.tmp 1) 0) (gd := none) (.pointer (some ⟨g, 0, none⟩)) (by rfl) (fun o ho => wanted_plain ho _) (by kernel_rfl) (by kernel_rfl) (by kernel_rfl) (fun _ _ _ h => h) (fun o ho W hW => by unfold execOp; simp only [ho]; go_simp) HS7.out ?_
      simp only [Act.put, List.setIfInBounds_toArray, List.set_cons_zero, List.set_cons_succ]
      refine anyH_loadG 1 (d := 24) (ty := 3) (x := (.tmp 23)) (gd := none) (p := .pointer (some ⟨g, 0, none⟩)) (.int .i64 2) (by rfl) (fun o ho => wanted_plain ho _) (by kernel_rfl) (by kernel_rfl) (by kernel_rfl) (fun _ _ _ h => h) (by rfl) (fun W hW => by have c0 := hW.1.c0; go_simp) HS7.out ?_
      simp only [Act.put, List.setIfInBounds_toArray, List.set_cons_zero, List.set_cons_succ]
      refine anyH_pureG 2 (d := 25) (op := .convert 3 5 (.tmp 24)) (gd := none) (.int .u8 2) (by rfl) (fun o ho => wanted_plain ho _) (by kernel_rfl) (by kernel_rfl) (by kernel_rfl) (fun _ _ _ h => h) (fun o ho W hW => by unfold execOp; simp only [ho]; go_simp; try (first | rfl | decide | kernel_rfl)) HS7.out ?_
      simp only [Act.put, List.setIfInBounds_toArray, List.set_cons_zero, List.set_cons_succ]
      refine anyH_pureG 4 (d := 27) (op := .move (.tmp 5)) (gd := none) (.slice a18 n18 c18) (by rfl) (fun o ho => wanted_plain ho _) (by kernel_rfl) (by kernel_rfl) (by kernel_rfl) (fun _ _ _ h => h) (fun o ho W hW => by unfold execOp; simp only [ho]; go_simp) HS7.out ?_
      simp only [Act.put, List.setIfInBounds_toArray, List.set_cons_zero, List.set_cons_succ]
      refine anyH_pureG 5 (d := 28) (op := .move (.tmp 6)) (gd := none) (.slice a22 n22 c22) (by rfl) (fun o ho => wanted_plain ho _) (by kernel_rfl) (by kernel_rfl) (by kernel_rfl) (fun _ _ _ h => h) (fun o ho W hW => by unfold execOp; simp only [ho]; go_simp) HS7.out ?_
      simp only [Act.put, List.setIfInBounds_toArray, List.set_cons_zero, List.set_cons_succ]
      refine anyH_pureG 6 (d := 29) (op := .move (.tmp 4)) (gd := none) (.slice none 0 0) (by rfl) (fun o ho => wanted_plain ho _) (by kernel_rfl) (by kernel_rfl) (by kernel_rfl) (fun _ _ _ h => h) (fun o ho W hW => by unfold execOp; simp only [ho]; go_simp) HS7.out ?_
      simp only [Act.put, List.setIfInBounds_toArray, List.set_cons_zero, List.set_cons_succ]
      refine anyH_pureG 7 (d := 30) (op := .fieldAddr 31 (.tmp 1) 4) (gd := none) (.pointer (some ⟨g, 35, none⟩)) (by rfl) (fun o ho => wanted_plain ho _) (by kernel_rfl) (by kernel_rfl) (by kernel_rfl) (fun _ _ _ h => h) (fun o ho W hW => by unfold execOp; simp only [ho]; go_simp) HS7.out ?_
      simp only [Act.put, List.setIfInBounds_toArray, List.set_cons_zero, List.set_cons_succ]
      refine anyH_loadG 8 (d := 31) (ty := 3) (x := (.tmp 30)) (gd := none) (p := .pointer (some ⟨g, 35, none⟩)) (.int .i64 (M : Int)) (by rfl) (fun o ho => wanted_plain ho _) (by kernel_rfl) (by kernel_rfl) (by kernel_rfl) (fun _ _ _ h => h) (by rfl) (fun W hW => by have c35 := hW.1.c35 HD.out; go_simp) HS7.out ?_
      simp only [Act.put, List.setIfInBounds_toArray, List.set_cons_zero, List.set_cons_succ]
      refine anyH_twoT 3 9 (d1 := some 26) (op1 := .buildSlice 25 1 #[(0, (.tmp 25))]) (d2 := some 32) (op2 := .call { callee := .value (.func 25), args := #[(.tmp 31)], argTypes := #[3] }) (by kernel_rfl) (by rfl) (by rfl) (fun o hod hoo => ?_) (fun o hod hoo => ?_)
      · refine wp_layT (.tmp 25) hoo 2 (by rfl) ?_
        obtain ⟨wx1, hwx1⟩ : ∃ W, W = w7.alloc (.cells #[.int .u8 ((2 : Nat) : Int)] 5) := ⟨_, rfl⟩
        obtain ⟨q, hq⟩ : ∃ q, q = w7.heap.size := ⟨_, rfl⟩
        have hb1 : Below w7.heap.size w7 wx1 := by rw [hwx1]; exact (Below.refl _ _).alloc (Nat.le_refl _) _
        have HR1 := Lib.hid (show Rd wx1 (some ⟨q, 0, none⟩) 1 [2] from by rw [hwx1, hq]; exact lay_one w7 2 (by omega))
        have HS1 := Lib.hid (HS7.out.step hb1)
        have HTR7y1 := Lib.hid (HTR7.out.below hb1)
        have HTG7y1 := Lib.hid (HTG7.out.below hb1)
        rw [← hwx1, ← hq]
        clear hwx1 hq hb1
        refine ⟨HS1.out, ?_⟩
        rw [hod]
        simp only [Act.put, List.setIfInBounds_toArray, List.set_cons_zero, List.set_cons_succ]
        refine anyH_oneT 9 (d1 := some 32) (op1 := .call { callee := .value (.func 25), args := #[(.tmp 31)], argTypes := #[3] }) (by kernel_rfl) (by rfl) (fun o hod hoo => ?_)
        refine wp_callT hoo (by go_simp) (by go_simp) (HPM.out wx1) ?_
        rintro e wx2 ⟨a32, n32, c32, rfl, hl2, hlc2, hcm2, hn2, hr2, ho2, hb2⟩
        have HR2 := Lib.hid hr2
        have HNM := Lib.hid hn2
        have hL2 : n32 = 8 := by rw [← hl2, Numm.put_len]
        have HS2 := Lib.hid (HS1.out.step hb2)
        have HTR7y1y2 := Lib.hid (HTR7y1.out.below hb2)
        have HTG7y1y2 := Lib.hid (HTG7y1.out.below hb2)
        have HR1y2 := Lib.hid (HR1.out.below hb2)
        clear hl2 hlc2 hcm2 hn2 hr2 ho2 hb2
        subst hL2
        refine ⟨_, rfl, HS2.out, ?_⟩
        rw [hod]
        simp only [Act.put, List.setIfInBounds_toArray, List.set_cons_zero, List.set_cons_succ]
        refine anyH_oneT 10 (d1 := some 33) (op1 := .buildSlice 75 5 #[(0, (.tmp 26)), (1, (.tmp 27)), (2, (.tmp 28)), (3, (.tmp 29)), (4, (.tmp 32))]) (by kernel_rfl) (by rfl) (fun o hod hoo => ?_)
        have hok : ∀ s ∈ [((some ⟨q, 0, none⟩, 1, 1, [2]) : Sl), (a18, n18, c18, txL (sB repo)), (a22, n22, c22, txL (sB tag)), (none, 0, 0, []), (a32, 8, c32, Numm.put M 8)], SlOk wx2 s := by
          intro s hs
          simp only [List.mem_cons, List.not_mem_nil, or_false] at hs
          rcases hs with rfl | rfl | rfl | rfl | rfl
          · exact ⟨HR1y2.out, fun e => by cases e⟩
          · exact ⟨HTR7y1y2.out, HNNR.out⟩
          · exact ⟨HTG7y1y2.out, HNNG.out⟩
          · exact ⟨⟨rfl, by simp, .inl rfl⟩, fun _ => rfl⟩
          · exact ⟨HR2.out, HNM.out⟩
        have htot : (catS [((some ⟨q, 0, none⟩, 1, 1, [2]) : Sl), (a18, n18, c18, txL (sB repo)), (a22, n22, c22, txL (sB tag)), (none, 0, 0, []), (a32, 8, c32, Numm.put M 8)]).length ≤ 140737488355328 := by
          have h1 := HD.out.1
          have h2 := HTLR.out
          have h3 := HTLG.out
          simp only [catS, slz, List.map_cons, List.map_nil, List.flatten_cons, List.flatten_nil, List.length_append, Numm.put_len, List.length_cons, List.length_nil, h1]
          omega
        have HCAT := Lib.hid (concat_row [((some ⟨q, 0, none⟩, 1, 1, [2]) : Sl), (a18, n18, c18, txL (sB repo)), (a22, n22, c22, txL (sB tag)), (none, 0, 0, []), (a32, 8, c32, Numm.put M 8)] #[.slice (some ⟨q, 0, none⟩) 1 1, .slice a18 n18 c18, .slice a22 n22 c22, .slice none 0 0, .slice a32 8 c32] 5 wx2 rfl rfl (by omega) hok htot)
        refine wp_lay5R (.tmp 26) (.tmp 27) (.tmp 28) (.tmp 29) (.tmp 32) hoo (some ⟨q, 0, none⟩, 1, 1, [2]) (a18, n18, c18, txL (sB repo)) (a22, n22, c22, txL (sB tag)) (none, 0, 0, []) (a32, 8, c32, Numm.put M 8) rfl rfl rfl rfl rfl ?_
        have hb9 : Below wx2.heap.size wx2 (wx2.alloc (.cells #[slv (some ⟨q, 0, none⟩, 1, 1, [2]), slv (a18, n18, c18, txL (sB repo)), slv (a22, n22, c22, txL (sB tag)), slv (none, 0, 0, []), slv (a32, 8, c32, Numm.put M 8)] 25)) := (Below.refl _ _).alloc (Nat.le_refl _) _
        refine ⟨HS2.out.step hb9, ?_⟩
        rw [hod]
        simp only [Act.put, List.setIfInBounds_toArray, List.set_cons_zero, List.set_cons_succ]
        refine anyH_oneT 11 (d1 := some 34) (op1 := .call { callee := .value (.func 24), args := #[(.tmp 33)], argTypes := #[75] }) (by kernel_rfl) (by rfl) (fun o hod hoo => ?_)
        refine wp_callT hoo (by go_simp) (by go_simp) HCAT.out ?_
        rintro e wq ⟨vq, rfl, hoq, hbq⟩
        have HSQ := Lib.hid (HS2.out.step hbq)
        have HOQ := Lib.hid hoq
        have hszq := HS2.out.2.size
        clear hoq hbq hb9 hok htot
        refine ⟨_, rfl, HSQ.out, ?_⟩
        rw [hod]
        simp only [Act.put, List.setIfInBounds_toArray, List.set_cons_zero, List.set_cons_succ]
        refine anyH_pureG 12 (d := 2) (op := .assign (.tmp 34)) (gd := none) vq (by rfl) (fun o ho => wanted_plain ho _) (by kernel_rfl) (by kernel_rfl) (by kernel_rfl) (fun _ _ _ h => h) (fun o ho W hW => by unfold execOp; simp only [ho]; go_simp) HSQ.out ?_
        simp only [Act.put, List.setIfInBounds_toArray, List.set_cons_zero, List.set_cons_succ]
        refine anyH_pureG 13 (d := 3) (op := .assign (.const (.int .i64 0))) (gd := none) (.int .i64 0) (by rfl) (fun o ho => wanted_plain ho _) (by kernel_rfl) (by kernel_rfl) (by kernel_rfl) (fun _ _ _ h => h) (fun o ho W hW => by unfold execOp; simp only [ho]; go_simp) HSQ.out ?_
        simp only [Act.put, List.setIfInBounds_toArray, List.set_cons_zero, List.set_cons_succ]
        refine wpAnyH_done (by kernel_rfl) ?_ _
        go_wp2_with fail
        go_ret2
        exact ⟨_, rfl, own_mono (by simpa [catS, slz, encL] using HOQ.out) hszq, HSQ.out.2⟩
      · refine wp_callT hoo (by go_simp) (by go_simp) (HPM.out w7) ?_
        rintro e wx3 ⟨a32, n32, c32, rfl, hl3, hlc3, hcm3, hn3, hr3, ho3, hb3⟩
        have HR3 := Lib.hid hr3
        have HNM := Lib.hid hn3
        have hL3 : n32 = 8 := by rw [← hl3, Numm.put_len]
        have HS3 := Lib.hid (HS7.out.step hb3)
        have HTR7y3 := Lib.hid (HTR7.out.below hb3)
        have HTG7y3 := Lib.hid (HTG7.out.below hb3)
        clear hl3 hlc3 hcm3 hn3 hr3 ho3 hb3
        subst hL3
        refine ⟨_, rfl, HS3.out, ?_⟩
        rw [hod]
        simp only [Act.put, List.setIfInBounds_toArray, List.set_cons_zero, List.set_cons_succ]
        refine anyH_oneT 3 (d1 := some 26) (op1 := .buildSlice 25 1 #[(0, (.tmp 25))]) (by kernel_rfl) (by rfl) (fun o hod hoo => ?_)
        refine wp_layT (.tmp 25) hoo 2 (by rfl) ?_
        obtain ⟨wx4, hwx4⟩ : ∃ W, W = wx3.alloc (.cells #[.int .u8 ((2 : Nat) : Int)] 5) := ⟨_, rfl⟩
        obtain ⟨q, hq⟩ : ∃ q, q = wx3.heap.size := ⟨_, rfl⟩
        have hb4 : Below wx3.heap.size wx3 wx4 := by rw [hwx4]; exact (Below.refl _ _).alloc (Nat.le_refl _) _
        have HR4 := Lib.hid (show Rd wx4 (some ⟨q, 0, none⟩) 1 [2] from by rw [hwx4, hq]; exact lay_one wx3 2 (by omega))
        have HS4 := Lib.hid (HS3.out.step hb4)
        have HTR7y3y4 := Lib.hid (HTR7y3.out.below hb4)
        have HTG7y3y4 := Lib.hid (HTG7y3.out.below hb4)
        have HR3y4 := Lib.hid (HR3.out.below hb4)
        rw [← hwx4, ← hq]
        clear hwx4 hq hb4
        refine ⟨HS4.out, ?_⟩
        rw [hod]
        simp only [Act.put, List.setIfInBounds_toArray, List.set_cons_zero, List.set_cons_succ]
        refine anyH_oneT 10 (d1 := some 33) (op1 := .buildSlice 75 5 #[(0, (.tmp 26)), (1, (.tmp 27)), (2, (.tmp 28)), (3, (.tmp 29)), (4, (.tmp 32))]) (by kernel_rfl) (by rfl) (fun o hod hoo => ?_)
        have hok : ∀ s ∈ [((some ⟨q, 0, none⟩, 1, 1, [2]) : Sl), (a18, n18, c18, txL (sB repo)), (a22, n22, c22, txL (sB tag)), (none, 0, 0, []), (a32, 8, c32, Numm.put M 8)], SlOk wx4 s := by
          intro s hs
          simp only [List.mem_cons, List.not_mem_nil, or_false] at hs
          rcases hs with rfl | rfl | rfl | rfl | rfl
          · exact ⟨HR4.out, fun e => by cases e⟩
          · exact ⟨HTR7y3y4.out, HNNR.out⟩
          · exact ⟨HTG7y3y4.out, HNNG.out⟩
          · exact ⟨⟨rfl, by simp, .inl rfl⟩, fun _ => rfl⟩
          · exact ⟨HR3y4.out, HNM.out⟩
        have htot : (catS [((some ⟨q, 0, none⟩, 1, 1, [2]) : Sl), (a18, n18, c18, txL (sB repo)), (a22, n22, c22, txL (sB tag)), (none, 0, 0, []), (a32, 8, c32, Numm.put M 8)]).length ≤ 140737488355328 := by
          have h1 := HD.out.1
          have h2 := HTLR.out
          have h3 := HTLG.out
          simp only [catS, slz, List.map_cons, List.map_nil, List.flatten_cons, List.flatten_nil, List.length_append, Numm.put_len, List.length_cons, List.length_nil, h1]
          omega
        have HCAT := Lib.hid (concat_row [((some ⟨q, 0, none⟩, 1, 1, [2]) : Sl), (a18, n18, c18, txL (sB repo)), (a22, n22, c22, txL (sB tag)), (none, 0, 0, []), (a32, 8, c32, Numm.put M 8)] #[.slice (some ⟨q, 0, none⟩) 1 1, .slice a18 n18 c18, .slice a22 n22 c22, .slice none 0 0, .slice a32 8 c32] 5 wx4 rfl rfl (by omega) hok htot)
        refine wp_lay5R (.tmp 26) (.tmp 27) (.tmp 28) (.tmp 29) (.tmp 32) hoo (some ⟨q, 0, none⟩, 1, 1, [2]) (a18, n18, c18, txL (sB repo)) (a22, n22, c22, txL (sB tag)) (none, 0, 0, []) (a32, 8, c32, Numm.put M 8) rfl rfl rfl rfl rfl ?_
        have hb9 : Below wx4.heap.size wx4 (wx4.alloc (.cells #[slv (some ⟨q, 0, none⟩, 1, 1, [2]), slv (a18, n18, c18, txL (sB repo)), slv (a22, n22, c22, txL (sB tag)), slv (none, 0, 0, []), slv (a32, 8, c32, Numm.put M 8)] 25)) := (Below.refl _ _).alloc (Nat.le_refl _) _
        refine ⟨HS4.out.step hb9, ?_⟩
        rw [hod]
        simp only [Act.put, List.setIfInBounds_toArray, List.set_cons_zero, List.set_cons_succ]
        refine anyH_oneT 11 (d1 := some 34) (op1 := .call { callee := .value (.func 24), args := #[(.tmp 33)], argTypes := #[75] }) (by kernel_rfl) (by rfl) (fun o hod hoo => ?_)
        refine wp_callT hoo (by go_simp) (by go_simp) HCAT.out ?_
        rintro e wq ⟨vq, rfl, hoq, hbq⟩
        have HSQ := Lib.hid (HS4.out.step hbq)
        have HOQ := Lib.hid hoq
        have hszq := HS4.out.2.size
        clear hoq hbq hb9 hok htot
        refine ⟨_, rfl, HSQ.out, ?_⟩
        rw [hod]
        simp only [Act.put, List.setIfInBounds_toArray, List.set_cons_zero, List.set_cons_succ]
        refine anyH_pureG 12 (d := 2) (op := .assign (.tmp 34)) (gd := none) vq (by rfl) (fun o ho => wanted_plain ho _) (by kernel_rfl) (by kernel_rfl) (by kernel_rfl) (fun _ _ _ h => h) (fun o ho W hW => by unfold execOp; simp only [ho]; go_simp) HSQ.out ?_
        simp only [Act.put, List.setIfInBounds_toArray, List.set_cons_zero, List.set_cons_succ]
        refine anyH_pureG 13 (d := 3) (op := .assign (.const (.int .i64 0))) (gd := none) (.int .i64 0) (by rfl) (fun o ho => wanted_plain ho _) (by kernel_rfl) (by kernel_rfl) (by kernel_rfl) (fun _ _ _ h => h) (fun o ho W hW => by unfold execOp; simp only [ho]; go_simp) HSQ.out ?_
        simp only [Act.put, List.setIfInBounds_toArray, List.set_cons_zero, List.set_cons_succ]
        refine wpAnyH_done (by kernel_rfl) ?_ _
        go_wp2_with fail
        go_ret2
        exact ⟨_, rfl, own_mono (by simpa [catS, slz, encL] using HOQ.out) hszq, HSQ.out.2⟩
  · refine wp_toBytesR (.tmp 20) hoo tag (by rfl) HZG.out ?_
    rintro b21 c21 wy8 hr8 hc8 hg8 hb8
    have HR8 := Lib.hid hr8
    have HS8 := Lib.hid (HS.out.step hb8)
    clear hr8 hc8 hg8 hb8
    refine ⟨HS8.out, ?_⟩
    rw [hod]
    simp only [Act.put, List.setIfInBounds_toArray, List.set_cons_zero, List.set_cons_succ]
    refine anyH_oneT 2 (d1 := some 17) (op1 := .convert 9 25 (.tmp 16)) (by kernel_rfl) (by rfl) (fun o hod hoo => ?_)
    refine wp_toBytesR (.tmp 16) hoo repo (by rfl) HZR.out ?_
    rintro b17 c17 wy9 hr9 hc9 hg9 hb9
    have HR9 := Lib.hid hr9
    have HS9 := Lib.hid (HS8.out.step hb9)
    have HR8x9 := Lib.hid (HR8.out.below hb9)
    clear hr9 hc9 hg9 hb9
    refine ⟨HS9.out, ?_⟩
    rw [hod]
    simp only [Act.put, List.setIfInBounds_toArray, List.set_cons_zero, List.set_cons_succ]
    refine anyH_oneT 3 (d1 := some 18) (op1 := .call { callee := .value (.func 23), args := #[(.tmp 17)], argTypes := #[25] }) (by kernel_rfl) (by rfl) (fun o hod hoo => ?_)
    refine wp_callT hoo (by go_simp) (by go_simp) ((text_c (some ⟨b17, 0, none⟩) repo.length c17 (sB repo) wy9 HR9.out (fun e => by cases e) HZR.out).mono (RetB.form HTBR.out)) ?_
    rintro e wy10 ⟨a18, n18, c18, rfl, hl10, hlc10, hcm10, hn10, hr10, ho10, hb10⟩
    have HR10 := Lib.hid hr10
    have HNNR := Lib.hid hn10
    have HLLR := Lib.hid hl10
    have HS10 := Lib.hid (HS9.out.step hb10)
    have HR8x9x10 := Lib.hid (HR8x9.out.below hb10)
    have HR9x10 := Lib.hid (HR9.out.below hb10)
    clear hl10 hlc10 hcm10 hn10 hr10 ho10 hb10
    refine ⟨_, rfl, HS10.out, ?_⟩
    rw [hod]
    simp only [Act.put, List.setIfInBounds_toArray, List.set_cons_zero, List.set_cons_succ]
    refine anyH_oneT 7 (d1 := some 22) (op1 := .call { callee := .value (.func 23), args := #[(.tmp 21)], argTypes := #[25] }) (by kernel_rfl) (by rfl) (fun o hod hoo => ?_)
    refine wp_callT hoo (by go_simp) (by go_simp) ((text_c (some ⟨b21, 0, none⟩) tag.length c21 (sB tag) wy10 HR8x9x10.out (fun e => by cases e) HZG.out).mono (RetB.form HTBG.out)) ?_
    rintro e wy11 ⟨a22, n22, c22, rfl, hl11, hlc11, hcm11, hn11, hr11, ho11, hb11⟩
    have HR11 := Lib.hid hr11
    have HNNG := Lib.hid hn11
    have HLLG := Lib.hid hl11
    have HS11 := Lib.hid (HS10.out.step hb11)
    have HR8x9x10x11 := Lib.hid (HR8x9x10.out.below hb11)
    have HR9x10x11 := Lib.hid (HR9x10.out.below hb11)
    have HR10x11 := Lib.hid (HR10.out.below hb11)
    clear hl11 hlc11 hcm11 hn11 hr11 ho11 hb11
    refine ⟨_, rfl, HS11.out, ?_⟩
    rw [hod]
    simp only [Act.put, List.setIfInBounds_toArray, List.set_cons_zero, List.set_cons_succ]
    refine anyH_pureG 8 (d := 5) (op := .assign (.tmp 18)) (gd := none) (.slice a18 n18 c18) (by rfl) (fun o ho => wanted_plain ho _) (by kernel_rfl) (by kernel_rfl) (by kernel_rfl) (fun _ _ _ h => h) (fun o ho W hW => by unfold execOp; simp only [ho]; go_simp) HS11.out ?_
    simp only [Act.put, List.setIfInBounds_toArray, List.set_cons_zero, List.set_cons_succ]
    refine anyH_pureG 9 (d := 6) (op := .assign (.tmp 22)) (gd := none) (.slice a22 n22 c22) (by rfl) (fun o ho => wanted_plain ho _) (by kernel_rfl) (by kernel_rfl) (by kernel_rfl) (fun _ _ _ h => h) (fun o ho W hW => by unfold execOp; simp only [ho]; go_simp) HS11.out ?_
    simp only [Act.put, List.setIfInBounds_toArray, List.set_cons_zero, List.set_cons_succ]
    refine wpAnyH_done (by kernel_rfl) ?_ _
    go_upto_region 7 with fail
    refine anyH_begin (S := Bx w g 31 (recC ⟨2, repo, tag, dig, M⟩)) (by kernel_rfl) ?_
    obtain ⟨w7, hw7⟩ : ∃ W, W = wy11.drew := ⟨_, rfl⟩
    have hb7 : Below wy11.heap.size wy11 w7 := by rw [hw7]; exact below_drewN' _ wy11 1
    have HS7 := Lib.hid (HS11.out.step hb7)
    have HTR7 := Lib.hid (show Rd w7 a18 n18 (txL (sB repo)) from by rw [← HXR.out]; exact HR10x11.out.below hb7)
    have HTG7 := Lib.hid (show Rd w7 a22 n22 (txL (sB tag)) from by rw [← HXG.out]; exact HR11.out.below hb7)
    rw [← hw7]
    clear hw7 hb7
    refine anyH_pureG 0 (d := 23) (op := .fieldAddr 31 (.tmp 1) 0) (gd := none) (.pointer (some ⟨g, 0, none⟩)) (by rfl) (fun o ho => wanted_plain ho _) (by kernel_rfl) (by kernel_rfl) (by kernel_rfl) (fun _ _ _ h => h) (fun o ho W hW => by unfold execOp; simp only [ho]; go_simp) HS7.out ?_
    simp only [Act.put, List.setIfInBounds_toArray, List.set_cons_zero, List.set_cons_succ]
    refine anyH_loadG 1 (d := 24) (ty := 3) (x := (.tmp 23)) (gd := none) (p := .pointer (some ⟨g, 0, none⟩)) (.int .i64 2) (by rfl) (fun o ho => wanted_plain ho _) (by kernel_rfl) (by kernel_rfl) (by kernel_rfl) (fun _ _ _ h => h) (by rfl) (fun W hW => by have c0 := hW.1.c0; go_simp) HS7.out ?_
    simp only [Act.put, List.setIfInBounds_toArray, List.set_cons_zero, List.set_cons_succ]
    refine anyH_pureG 2 (d := 25) (op := .convert 3 5 (.tmp 24)) (gd := none) (.int .u8 2) (by rfl) (fun o ho => wanted_plain ho _) (by kernel_rfl) (by kernel_rfl) (by kernel_rfl) (fun _ _ _ h => h) (fun o ho W hW => by unfold execOp; simp only [ho]; go_simp; try (first | rfl | decide | kernel_rfl)) HS7.out ?_
    simp only [Act.put, List.setIfInBounds_toArray, List.set_cons_zero, List.set_cons_succ]
    refine anyH_pureG 4 (d := 27) (op := .move (.tmp 5)) (gd := none) (.slice a18 n18 c18) (by rfl) (fun o ho => wanted_plain ho _) (by kernel_rfl) (by kernel_rfl) (by kernel_rfl) (fun _ _ _ h => h) (fun o ho W hW => by unfold execOp; simp only [ho]; go_simp) HS7.out ?_
    simp only [Act.put, List.setIfInBounds_toArray, List.set_cons_zero, List.set_cons_succ]
    refine anyH_pureG 5 (d := 28) (op := .move (.tmp 6)) (gd := none) (.slice a22 n22 c22) (by rfl) (fun o ho => wanted_plain ho _) (by kernel_rfl) (by kernel_rfl) (by kernel_rfl) (fun _ _ _ h => h) (fun o ho W hW => by unfold execOp; simp only [ho]; go_simp) HS7.out ?_
    simp only [Act.put, List.setIfInBounds_toArray, List.set_cons_zero, List.set_cons_succ]
    refine anyH_pureG 6 (d := 29) (op := .move (.tmp 4)) (gd := none) (.slice none 0 0) (by rfl) (fun o ho => wanted_plain ho _) (by kernel_rfl) (by kernel_rfl) (by kernel_rfl) (fun _ _ _ h => h) (fun o ho W hW => by unfold execOp; simp only [ho]; go_simp) HS7.out ?_
    simp only [Act.put, List.setIfInBounds_toArray, List.set_cons_zero, List.set_cons_succ]
    refine anyH_pureG 7 (d := 30) (op := .fieldAddr 31 (.tmp 1) 4) (gd := none) (.pointer (some ⟨g, 35, none⟩)) (by rfl) (fun o ho => wanted_plain ho _) (by kernel_rfl) (by kernel_rfl) (by kernel_rfl) (fun _ _ _ h => h) (fun o ho W hW => by unfold execOp; simp only [ho]; go_simp) HS7.out ?_
    simp only [Act.put, List.setIfInBounds_toArray, List.set_cons_zero, List.set_cons_succ]
    refine anyH_loadG 8 (d := 31) (ty := 3) (x := (.tmp 30)) (gd := none) (p := .pointer (some ⟨g, 35, none⟩)) (.int .i64 (M : Int)) (by rfl) (fun o ho => wanted_plain ho _) (by kernel_rfl) (by kernel_rfl) (by kernel_rfl) (fun _ _ _ h => h) (by rfl) (fun W hW => by have c35 := hW.1.c35 HD.out; go_simp) HS7.out ?_
    simp only [Act.put, List.setIfInBounds_toArray, List.set_cons_zero, List.set_cons_succ]
    refine anyH_twoT 3 9 (d1 := some 26) (op1 := .buildSlice 25 1 #[(0, (.tmp 25))]) (d2 := some 32) (op2 := .call { callee := .value (.func 25), args := #[(.tmp 31)], argTypes := #[3] }) (by kernel_rfl) (by rfl) (by rfl) (fun o hod hoo => ?_) (fun o hod hoo => ?_)
    · refine wp_layT (.tmp 25) hoo 2 (by rfl) ?_
      obtain ⟨wx1, hwx1⟩ : ∃ W, W = w7.alloc (.cells #[.int .u8 ((2 : Nat) : Int)] 5) := ⟨_, rfl⟩
      obtain ⟨q, hq⟩ : ∃ q, q = w7.heap.size := ⟨_, rfl⟩
      have hb1 : Below w7.heap.size w7 wx1 := by rw [hwx1]; exact (Below.refl _ _).alloc (Nat.le_refl _) _
      have HR1 := Lib.hid (show Rd wx1 (some ⟨q, 0, none⟩) 1 [2] from by rw [hwx1, hq]; exact lay_one w7 2 (by omega))
      have HS1 := Lib.hid (HS7.out.step hb1)
      have HTR7y1 := Lib.hid (HTR7.out.below hb1)
      have HTG7y1 := Lib.hid (HTG7.out.below hb1)
      rw [← hwx1, ← hq]
      clear hwx1 hq hb1
      refine ⟨HS1.out, ?_⟩
      rw [hod]
      simp only [Act.put, List.setIfInBounds_toArray, List.set_cons_zero, List.set_cons_succ]
      refine anyH_oneT 9 (d1 := some 32) (op1 := .call { callee := .value (.func 25), args := #[(.tmp 31)], argTypes := #[3] }) (by kernel_rfl) (by rfl) (fun o hod hoo => ?_)
      refine wp_callT hoo (by go_simp) (by go_simp) (HPM.out wx1) ?_
      rintro e wx2 ⟨a32, n32, c32, rfl, hl2, hlc2, hcm2, hn2, hr2, ho2, hb2⟩
      have HR2 := Lib.hid hr2
      have HNM := Lib.hid hn2
      have hL2 : n32 = 8 := by rw [← hl2, Numm.put_len]
      have HS2 := Lib.hid (HS1.out.step hb2)
      have HTR7y1y2 := Lib.hid (HTR7y1.out.below hb2)
      have HTG7y1y2 := Lib.hid (HTG7y1.out.below hb2)
      have HR1y2 := Lib.hid (HR1.out.below hb2)
      clear hl2 hlc2 hcm2 hn2 hr2 ho2 hb2
      subst hL2
      refine ⟨_, rfl, HS2.out, ?_⟩
      rw [hod]
      simp only [Act.put, List.setIfInBounds_toArray, List.set_cons_zero, List.set_cons_succ]
      refine anyH_oneT 10 (d1 := some 33) (op1 := .buildSlice 75 5 #[(0, (.tmp 26)), (1, (.tmp 27)), (2, (.tmp 28)), (3, (.tmp 29)), (4, (.tmp 32))]) (by kernel_rfl) (by rfl) (fun o hod hoo => ?_)
      have hok : ∀ s ∈ [((some ⟨q, 0, none⟩, 1, 1, [2]) : Sl), (a18, n18, c18, txL (sB repo)), (a22, n22, c22, txL (sB tag)), (none, 0, 0, []), (a32, 8, c32, Numm.put M 8)], SlOk wx2 s := by
        intro s hs
        simp only [List.mem_cons, List.not_mem_nil, or_false] at hs
        rcases hs with rfl | rfl | rfl | rfl | rfl
        · exact ⟨HR1y2.out, fun e => by cases e⟩
        · exact ⟨HTR7y1y2.out, HNNR.out⟩
        · exact ⟨HTG7y1y2.out, HNNG.out⟩
        · exact ⟨⟨rfl, by simp, .inl rfl⟩, fun _ => rfl⟩
        · exact ⟨HR2.out, HNM.out⟩
      have htot : (catS [((some ⟨q, 0, none⟩, 1, 1, [2]) : Sl), (a18, n18, c18, txL (sB repo)), (a22, n22, c22, txL (sB tag)), (none, 0, 0, []), (a32, 8, c32, Numm.put M 8)]).length ≤ 140737488355328 := by
        have h1 := HD.out.1
        have h2 := HTLR.out
        have h3 := HTLG.out
        simp only [catS, slz, List.map_cons, List.map_nil, List.flatten_cons, List.flatten_nil, List.length_append, Numm.put_len, List.length_cons, List.length_nil, h1]
        omega
      have HCAT := Lib.hid (concat_row [((some ⟨q, 0, none⟩, 1, 1, [2]) : Sl), (a18, n18, c18, txL (sB repo)), (a22, n22, c22, txL (sB tag)), (none, 0, 0, []), (a32, 8, c32, Numm.put M 8)] #[.slice (some ⟨q, 0, none⟩) 1 1, .slice a18 n18 c18, .slice a22 n22 c22, .slice none 0 0, .slice a32 8 c32] 5 wx2 rfl rfl (by omega) hok htot)
      refine wp_lay5R (.tmp 26) (.tmp 27) (.tmp 28) (.tmp 29) (.tmp 32) hoo (some ⟨q, 0, none⟩, 1, 1, [2]) (a18, n18, c18, txL (sB repo)) (a22, n22, c22, txL (sB tag)) (none, 0, 0, []) (a32, 8, c32, Numm.put M 8) rfl rfl rfl rfl rfl ?_
      have hb9 : Below wx2.heap.size wx2 (wx2.alloc (.cells #[slv (some ⟨q, 0, none⟩, 1, 1, [2]), slv (a18, n18, c18, txL (sB repo)), slv (a22, n22, c22, txL (sB tag)), slv (none, 0, 0, []), slv (a32, 8, c32, Numm.put M 8)] 25)) := (Below.refl _ _).alloc (Nat.le_refl _) _
      refine ⟨HS2.out.step hb9, ?_⟩
      rw [hod]
      simp only [Act.put, List.setIfInBounds_toArray, List.set_cons_zero, List.set_cons_succ]
      refine anyH_oneT 11 (d1 := some 34) (op1 := .call { callee := .value (.func 24), args := #[(.tmp 33)], argTypes := #[75] }) (by kernel_rfl) (by rfl) (fun o hod hoo => ?_)
      refine wp_callT hoo (by go_simp) (by go_simp) HCAT.out ?_
      rintro e wq ⟨vq, rfl, hoq, hbq⟩
      have HSQ := Lib.hid (HS2.out.step hbq)
      have HOQ := Lib.hid hoq
      have hszq := HS2.out.2.size
      clear hoq hbq hb9 hok htot
      refine ⟨_, rfl, HSQ.out, ?_⟩
      rw [hod]
      simp only [Act.put, List.setIfInBounds_toArray, List.set_cons_zero, List.set_cons_succ]
      refine anyH_pureG 12 (d := 2) (op := .assign (.tmp 34)) (gd := none) vq (by rfl) (fun o ho => wanted_plain ho _) (by kernel_rfl) (by kernel_rfl) (by kernel_rfl) (fun _ _ _ h => h) (fun o ho W hW => by unfold execOp; simp only [ho]; go_simp) HSQ.out ?_
      simp only [Act.put, List.setIfInBounds_toArray, List.set_cons_zero, List.set_cons_succ]
      refine anyH_pureG 13 (d := 3) (op := .assign (.const (.int .i64 0))) (gd := none) (.int .i64 0) (by rfl) (fun o ho => wanted_plain ho _) (by kernel_rfl) (by kernel_rfl) (by kernel_rfl) (fun _ _ _ h => h) (fun o ho W hW => by unfold execOp; simp only [ho]; go_simp) HSQ.out ?_
      simp only [Act.put, List.setIfInBounds_toArray, List.set_cons_zero, List.set_cons_succ]
      refine wpAnyH_done (by kernel_rfl) ?_ _
      go_wp2_with fail
      go_ret2
      exact ⟨_, rfl, own_mono (by simpa [catS, slz, encL] using HOQ.out) hszq, HSQ.out.2⟩
    · refine wp_callT hoo (by go_simp) (by go_simp) (HPM.out w7) ?_
      rintro e wx3 ⟨a32, n32, c32, rfl, hl3, hlc3, hcm3, hn3, hr3, ho3, hb3⟩
      have HR3 := Lib.hid hr3
      have HNM := Lib.hid hn3
      have hL3 : n32 = 8 := by rw [← hl3, Numm.put_len]
      have HS3 := Lib.hid (HS7.out.step hb3)
      have HTR7y3 := Lib.hid (HTR7.out.below hb3)
      have HTG7y3 := Lib.hid (HTG7.out.below hb3)
      clear hl3 hlc3 hcm3 hn3 hr3 ho3 hb3
      subst hL3
      refine ⟨_, rfl, HS3.out, ?_⟩
      rw [hod]
      simp only [Act.put, List.setIfInBounds_toArray, List.set_cons_zero, List.set_cons_succ]
      refine anyH_oneT 3 (d1 := some 26) (op1 := .buildSlice 25 1 #[(0, (.tmp 25))]) (by kernel_rfl) (by rfl) (fun o hod hoo => ?_)
      refine wp_layT (.tmp 25) hoo 2 (by rfl) ?_
      obtain ⟨wx4, hwx4⟩ : ∃ W, W = wx3.alloc (.cells #[.int .u8 ((2 : Nat) : Int)] 5) := ⟨_, rfl⟩
      obtain ⟨q, hq⟩ : ∃ q, q = wx3.heap.size := ⟨_, rfl⟩
      have hb4 : Below wx3.heap.size wx3 wx4 := by rw [hwx4]; exact (Below.refl _ _).alloc (Nat.le_refl _) _
      have HR4 := Lib.hid (show Rd wx4 (some ⟨q, 0, none⟩) 1 [2] from by rw [hwx4, hq]; exact lay_one wx3 2 (by omega))
      have HS4 := Lib.hid (HS3.out.step hb4)
      have HTR7y3y4 := Lib.hid (HTR7y3.out.below hb4)
      have HTG7y3y4 := Lib.hid (HTG7y3.out.below hb4)
      have HR3y4 := Lib.hid (HR3.out.below hb4)
      rw [← hwx4, ← hq]
      clear hwx4 hq hb4
      refine ⟨HS4.out, ?_⟩
      rw [hod]
      simp only [Act.put, List.setIfInBounds_toArray, List.set_cons_zero, List.set_cons_succ]
      refine anyH_oneT 10 (d1 := some 33) (op1 := .buildSlice 75 5 #[(0, (.tmp 26)), (1, (.tmp 27)), (2, (.tmp 28)), (3, (.tmp 29)), (4, (.tmp 32))]) (by kernel_rfl) (by rfl) (fun o hod hoo => ?_)
      have hok : ∀ s ∈ [((some ⟨q, 0, none⟩, 1, 1, [2]) : Sl), (a18, n18, c18, txL (sB repo)), (a22, n22, c22, txL (sB tag)), (none, 0, 0, []), (a32, 8, c32, Numm.put M 8)], SlOk wx4 s := by
        intro s hs
        simp only [List.mem_cons, List.not_mem_nil, or_false] at hs
        rcases hs with rfl | rfl | rfl | rfl | rfl
        · exact ⟨HR4.out, fun e => by cases e⟩
        · exact ⟨HTR7y3y4.out, HNNR.out⟩
        · exact ⟨HTG7y3y4.out, HNNG.out⟩
        · exact ⟨⟨rfl, by simp, .inl rfl⟩, fun _ => rfl⟩
        · exact ⟨HR3y4.out, HNM.out⟩
      have htot : (catS [((some ⟨q, 0, none⟩, 1, 1, [2]) : Sl), (a18, n18, c18, txL (sB repo)), (a22, n22, c22, txL (sB tag)), (none, 0, 0, []), (a32, 8, c32, Numm.put M 8)]).length ≤ 140737488355328 := by
        have h1 := HD.out.1
        have h2 := HTLR.out
        have h3 := HTLG.out
        simp only [catS, slz, List.map_cons, List.map_nil, List.flatten_cons, List.flatten_nil, List.length_append, Numm.put_len, List.length_cons, List.length_nil, h1]
        omega
      have HCAT := Lib.hid (concat_row [((some ⟨q, 0, none⟩, 1, 1, [2]) : Sl), (a18, n18, c18, txL (sB repo)), (a22, n22, c22, txL (sB tag)), (none, 0, 0, []), (a32, 8, c32, Numm.put M 8)] #[.slice (some ⟨q, 0, none⟩) 1 1, .slice a18 n18 c18, .slice a22 n22 c22, .slice none 0 0, .slice a32 8 c32] 5 wx4 rfl rfl (by omega) hok htot)
      refine wp_lay5R (.tmp 26) (.tmp 27) (.tmp 28) (.tmp 29) (.tmp 32) hoo (some ⟨q, 0, none⟩, 1, 1, [2]) (a18, n18, c18, txL (sB repo)) (a22, n22, c22, txL (sB tag)) (none, 0, 0, []) (a32, 8, c32, Numm.put M 8) rfl rfl rfl rfl rfl ?_
      have hb9 : Below wx4.heap.size wx4 (wx4.alloc (.cells #[slv (some ⟨q, 0, none⟩, 1, 1, [2]), slv (a18, n18, c18, txL (sB repo)), slv (a22, n22, c22, txL (sB tag)), slv (none, 0, 0, []), slv (a32, 8, c32, Numm.put M 8)] 25)) := (Below.refl _ _).alloc (Nat.le_refl _) _
      refine ⟨HS4.out.step hb9, ?_⟩
      rw [hod]
      simp only [Act.put, List.setIfInBounds_toArray, List.set_cons_zero, List.set_cons_succ]
      refine anyH_oneT 11 (d1 := some 34) (op1 := .call { callee := .value (.func 24), args := #[(.tmp 33)], argTypes := #[75] }) (by kernel_rfl) (by rfl) (fun o hod hoo => ?_)
      refine wp_callT hoo (by go_simp) (by go_simp) HCAT.out ?_
      rintro e wq ⟨vq, rfl, hoq, hbq⟩
      have HSQ := Lib.hid (HS4.out.step hbq)
      have HOQ := Lib.hid hoq
      have hszq := HS4.out.2.size
      clear hoq hbq hb9 hok htot
      refine ⟨_, rfl, HSQ.out, ?_⟩
      rw [hod]
      simp only [Act.put, List.setIfInBounds_toArray, List.set_cons_zero, List.set_cons_succ]
      refine anyH_pureG 12 (d := 2) (op := .assign (.tmp 34)) (gd := none) vq (by rfl) (fun o ho => wanted_plain ho _) (by kernel_rfl) (by kernel_rfl) (by kernel_rfl) (fun _ _ _ h => h) (fun o ho W hW => by unfold execOp; simp only [ho]; go_simp) HSQ.out ?_
      simp only [Act.put, List.setIfInBounds_toArray, List.set_cons_zero, List.set_cons_succ]
      refine anyH_pureG 13 (d := 3) (op := .assign (.const (.int .i64 0))) (gd := none) (.int .i64 0) (by rfl) (fun o ho => wanted_plain ho _) (by kernel_rfl) (by kernel_rfl) (by kernel_rfl) (fun _ _ _ h => h) (fun o ho W hW => by unfold execOp; simp only [ho]; go_simp) HSQ.out ?_
      simp only [Act.put, List.setIfInBounds_toArray, List.set_cons_zero, List.set_cons_succ]
      refine wpAnyH_done (by kernel_rfl) ?_ _
      go_wp2_with fail
      go_ret2
      exact ⟨_, rfl, own_mono (by simpa [catS, slz, encL] using HOQ.out) hszq, HSQ.out.2⟩
end Go.Proofs.YtjjkfbebaoikbaaDoor.Rc
