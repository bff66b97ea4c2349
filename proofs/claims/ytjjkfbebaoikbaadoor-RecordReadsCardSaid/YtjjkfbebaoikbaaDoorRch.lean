/-
  The document's head of any bytes.
-/
import Derived.Test.YtjjkfbebaoikbaaDoorRcg
namespace Go.Proofs.YtjjkfbebaoikbaaDoor.Rc
open Go.RowKit Go.Proofs.Nm Go.Proofs.YtjjkfbebaoikbaaDoor
set_option linter.unusedVariables false
/-- two boxes, the result's and one more -/
structure D2 (w : World) (g j : Nat) (t : TypeId) (C D : Array Value) (W : World) : Prop where
  a : RW W g t C
  b : RW W j t D
  ne : g ≠ j
  below : Below w.heap.size w W
  ga : w.heap.size ≤ g
  gb : w.heap.size ≤ j
theorem D2.mk' {w W : World} {g : Nat} {t : TypeId} {C D : Array Value} (h : Bq w g t C W) : D2 w g W.heap.size t C D (W.alloc (.cells D t (0, 0))) :=
  ⟨h.1.below ((Below.refl _ _).alloc (Nat.le_refl _) _), RW.new _ _ _, by have := h.1.lt; omega, h.2.1.trans (((Below.refl _ _).alloc (Nat.le_refl _) _).mono h.2.1.size), h.2.2, h.2.1.size⟩
theorem D2.step {w W W' : World} {g j : Nat} {t : TypeId} {C D : Array Value} (h : D2 w g j t C D W) (hb : Below W.heap.size W W') : D2 w g j t C D W' := ⟨h.a.below hb, h.b.below hb, h.ne, h.below.trans (hb.mono h.below.size), h.ga, h.gb⟩
theorem D2.cell {w W : World} {g j : Nat} {t : TypeId} {C D : Array Value} (h : D2 w g j t C D W) (i : Nat) (v : Value) : D2 w g j t C (D.setIfInBounds i v) (W.setCell ⟨j, i, none⟩ v) :=
  ⟨(heap_setCell_other W ⟨j, i, none⟩ g v h.ne).trans h.a, heap_setCell_same W j i D t v h.b, h.ne, h.below.setCell (p := ⟨j, i, none⟩) h.gb v, h.ga, h.gb⟩
theorem D2.row {w W : World} {g j : Nat} {t : TypeId} {C D E : Array Value} (h : D2 w g j t C D W) : D2 w g j t C E (W.setRow j E) :=
  ⟨(setRow_other W j g E h.ne).trans h.a, h.b.setRow, h.ne, h.below.setRow h.gb _, h.ga, h.gb⟩
theorem D2.res {w W : World} {g j : Nat} {t : TypeId} {C D E : Array Value} (h : D2 w g j t C D W) : Bq w g t E (W.setRow g E) := ⟨h.a.setRow, h.below.setRow h.ga _, h.ga⟩
theorem cells_set (y : List Nat) (k z : Nat) : (cellsOf y).set k (.int .u8 (z : Int)) = cellsOf (y.set k z) := by simp [cellsOf, List.map_set]
theorem hdC_set (n t : Int) (y : List Nat) (k z : Nat) (hk : k < y.length) : (hdC ⟨n, y, t⟩).setIfInBounds (1 + k) (.int .u8 (z : Int)) = hdC ⟨n, y.set k z, t⟩ := by
  apply Array.toList_inj.1
  rw [Array.toList_setIfInBounds]
  show (Value.int .i64 n :: (cellsOf y ++ [.int .i64 t])).set (1 + k) _ = Value.int .i64 n :: (cellsOf (y.set k z) ++ [.int .i64 t])
  rw [Nat.add_comm 1 k, List.set_cons_succ, List.set_append_left _ _ (by rw [cellsOf_length]; exact hk), cells_set]
/-- so far as a list was copied into 32 zeros -/
def yk (x : List Nat) (k : Nat) : List Nat := x.take k ++ List.replicate (32 - k) 0
theorem yk_len (x : List Nat) (k : Nat) (h1 : k ≤ 32) (h2 : k ≤ x.length) : (yk x k).length = 32 := by unfold yk; rw [List.length_append, List.length_take, List.length_replicate]; omega
theorem yk_step (x : List Nat) (k : Nat) (h1 : k < 32) (h2 : k < x.length) : (yk x k).set k (x.getD k 0) = yk x (k + 1) := by
  unfold yk
  have hl : (x.take k).length = k := by rw [List.length_take]; omega
  rw [List.set_append_right _ _ (by omega), hl, Nat.sub_self, show 32 - k = (32 - (k + 1)) + 1 by omega, List.replicate_succ, List.set_cons_zero, List.take_succ_eq_append_getElem h2, getD_at _ _ h2, List.append_assoc]
  rfl
theorem yk_zero (x : List Nat) : yk x 0 = zs32 := rfl
theorem yk_ok {x : List Nat} (hx : ∀ z ∈ x, z < 256) {k : Nat} (h1 : k ≤ 32) (h2 : k ≤ x.length) : dOk (yk x k) := by
  refine ⟨yk_len x k h1 h2, fun z hz => ?_⟩
  unfold yk at hz
  rcases List.mem_append.1 hz with h | h
  · exact hx z (List.mem_of_mem_take h)
  · rw [List.eq_of_mem_replicate h]; omega
theorem built_qh0 : Tryd.prog.built 46 [] = some (hdC hd0) := by kernel_rfl
theorem built_qh (n t : Int) : Tryd.prog.built 46 [(0, .int .i64 n), (2, .int .i64 t)] = some (hdC ⟨n, zs32, t⟩) := by kernel_rfl
set_option maxRecDepth 100000 in
set_option maxHeartbeats 4000000 in
theorem rdecH_len (a : Option Addr) (len cap : Nat) (zs : List Nat) (w : World) (h : Rd w a len zs) (hl : len ≠ 49) :
    Calls Tryd.prog 20 #[.slice a len cap] w fun e w' => e = .returned (.tuple #[.agg (hdC hd0), .int .i64 10]) ∧ Below w.heap.size w w' := by
  have HI := Lib.hid (show (Tryd.prog.info? 46).map (·.size) = some (hdC hd0).size from by rw [hdC_size hd0_ok]; exact info_qh)
  have HBU := Lib.hid built_qh0
  obtain ⟨C, hC⟩ : ∃ C, C = hdC hd0 := ⟨_, rfl⟩
  have HO := Lib.hid (hdC_one hd0)
  have HZ := Lib.hid (hdC_size hd0_ok)
  have HCC := Lib.hid hC
  rw [← hC] at HI HBU HO HZ ⊢
  have hl2 : ¬ (len : Int) = 49 := by omega
  clear hC h hl
  go_enter Tryd.func20, Tryd.ntmps20
  go_upto_region 1 with (fail)
  obtain ⟨g, hg⟩ : ∃ g, g = w.heap.size := ⟨_, rfl⟩
  refine gen_codeR (F := Bq w g 46 C) (by rw [hg, HCC.out]; exact Bq.new _ _ _) ?_
  rw [← hg]
  intro w0 hb0
  have H0 := Lib.hid hb0
  clear hg hb0
  clear HCC
  go_wp2_with (first | (refine wpList_buildR 46 _ (by rfl) (by rfl) C (by simp only [List.map_toArray, List.map_cons, List.map_nil]; exact HBU.out) ?_) | (refine wpList_store_row (by rfl) 46 _ _ (by rfl) g C (by rfl) (by rfl) 46 C H0.out.1 HI.out rfl HO.out ?_))
  exact bodyPost_ret (results_row_tmpR rfl _ _ g 46 C (0, 0) _ (by rfl) H0.out.1.setRow Tryd.underlying46 HI.out) rfl ⟨rfl, H0.out.set.2.1⟩
set_option maxRecDepth 100000 in
set_option maxHeartbeats 8000000 in
theorem rdecH_mark (a : Option Addr) (cap : Nat) (zs : List Nat) (w : World) (h : Rd w a 49 zs) (hcap : 49 ≤ cap) (hl : ¬ zs.getD 0 0 = 7) :
    Calls Tryd.prog 20 #[.slice a 49 cap] w fun e w' => e = .returned (.tuple #[.agg (hdC hd0), .int .i64 10]) ∧ Below w.heap.size w w' := by
  obtain ⟨b, off, rfl⟩ : ∃ b off, a = some ⟨b, off, none⟩ := by
    rcases h.2.2 with h0 | ⟨b, off, e, _⟩
    · omega
    · exact ⟨b, off, e⟩
  have HR := Lib.hid h
  have HBL := Lib.hid (show b < w.heap.size from by
    rcases h.2.2 with h0 | ⟨b', off', e, hlt, _⟩
    · omega
    · cases e; exact hlt)
  have HGN := Lib.hid fun W (hW : Below w.heap.size w W) => refGet_c (some ⟨b, off + 1, none⟩) 8 (cap - 1) ((zs.drop 1).take 8) W (rd_at (HR.out.below hW) 1 8 (by omega)) (by omega)
  have HGT := Lib.hid fun W (hW : Below w.heap.size w W) => refGet_c (some ⟨b, off + 41, none⟩) 8 (cap - 41) (zs.drop 41) W ((HR.out.below hW).drop 41) (by omega)
  have HI := Lib.hid (show (Tryd.prog.info? 46).map (·.size) = some (hdC hd0).size from by rw [hdC_size hd0_ok]; exact info_qh)
  have HBU := Lib.hid built_qh0
  obtain ⟨C, hC⟩ : ∃ C, C = hdC hd0 := ⟨_, rfl⟩
  have HO := Lib.hid (hdC_one hd0)
  have HZ := Lib.hid (hdC_size hd0_ok)
  have HCC := Lib.hid hC
  rw [← hC] at HI HBU HO HZ ⊢
  obtain ⟨n, hn2⟩ : ∃ n, n = Numm.num 0 ((zs.drop 1).take 8) := ⟨_, rfl⟩
  obtain ⟨m, hm2⟩ : ∃ n, n = Numm.num 0 (zs.drop 41) := ⟨_, rfl⟩
  obtain ⟨z0, hz0⟩ : ∃ z, z = zs.getD 0 0 := ⟨_, rfl⟩
  have HZ0 := Lib.hid hz0
  rw [← hn2] at HGN
  rw [← hm2] at HGT
  rw [← hz0] at hl
  have i0 : ¬ (z0 : Int) = 7 := by omega
  clear hC h hz0 hn2 hm2 hl
  go_enter Tryd.func20, Tryd.ntmps20
  go_upto_region 1 with (fail)
  obtain ⟨g, hg⟩ : ∃ g, g = w.heap.size := ⟨_, rfl⟩
  refine gen_codeR (F := Bq w g 46 C) (by rw [hg, HCC.out]; exact Bq.new _ _ _) ?_
  rw [← hg]
  intro w0 hb0
  have H0 := Lib.hid hb0
  clear hg hb0
  have c0 : w0.cell? ⟨b, off, none⟩ = some (.int .u8 ((z0 : Nat) : Int)) := by
    rcases (HR.out.below H0.out.2.1).2.2 with h0 | ⟨b', off', e, _, hc⟩
    · omega
    · cases e
      rw [HZ0.out]
      exact hc 0 (by omega)
  have HN := Lib.hid (HGN.out w0 H0.out.2.1)
  have HT := Lib.hid (HGT.out w0 H0.out.2.1)
  clear HGN HGT
  go_wp2_with (first | (refine wpList_runR (by rfl) _ (exec_midR (len := 49) (cap := cap) (k := 1) (M := 9) (j := 8) (by omega) (by omega) (by omega) (by omega) (by rfl) (by rfl) (by rfl) _ rfl _) ?_) | (refine wpList_runR (by rfl) _ (exec_midR (len := 49) (cap := cap) (k := 41) (M := 49) (j := 8) (by omega) (by omega) (by omega) (by omega) (by rfl) (by rfl) (by rfl) _ rfl _) ?_) | (go_at_call 37; (first | (with_reducible refine HN.out.mono ?_) | (with_reducible refine HT.out.mono ?_)); rintro e w4 ⟨rfl, rfl⟩) | (refine wpList_buildR 46 _ (by rfl) (by rfl) C (by simp only [List.map_toArray, List.map_cons, List.map_nil]; exact HBU.out) ?_) | (refine wpList_store_row (by rfl) 46 _ _ (by rfl) g C (by rfl) (by rfl) 46 C H0.out.1 HI.out rfl HO.out ?_))
  exact bodyPost_ret (results_row_tmpR rfl _ _ g 46 C (0, 0) _ (by rfl) H0.out.1.setRow Tryd.underlying46 HI.out) rfl ⟨rfl, H0.out.set.2.1⟩
set_option maxRecDepth 100000 in
set_option maxHeartbeats 8000000 in
theorem rdecH_n (a : Option Addr) (cap : Nat) (zs : List Nat) (w : World) (h : Rd w a 49 zs) (hcap : 49 ≤ cap) (hl : zs.getD 0 0 = 7) (hn : ¬ Numm.num 0 ((zs.drop 1).take 8) ≤ 1048576) :
    Calls Tryd.prog 20 #[.slice a 49 cap] w fun e w' => e = .returned (.tuple #[.agg (hdC hd0), .int .i64 10]) ∧ Below w.heap.size w w' := by
  obtain ⟨b, off, rfl⟩ : ∃ b off, a = some ⟨b, off, none⟩ := by
    rcases h.2.2 with h0 | ⟨b, off, e, _⟩
    · omega
    · exact ⟨b, off, e⟩
  have HR := Lib.hid h
  have HBL := Lib.hid (show b < w.heap.size from by
    rcases h.2.2 with h0 | ⟨b', off', e, hlt, _⟩
    · omega
    · cases e; exact hlt)
  have HGN := Lib.hid fun W (hW : Below w.heap.size w W) => refGet_c (some ⟨b, off + 1, none⟩) 8 (cap - 1) ((zs.drop 1).take 8) W (rd_at (HR.out.below hW) 1 8 (by omega)) (by omega)
  have HGT := Lib.hid fun W (hW : Below w.heap.size w W) => refGet_c (some ⟨b, off + 41, none⟩) 8 (cap - 41) (zs.drop 41) W ((HR.out.below hW).drop 41) (by omega)
  have HI := Lib.hid (show (Tryd.prog.info? 46).map (·.size) = some (hdC hd0).size from by rw [hdC_size hd0_ok]; exact info_qh)
  have HBU := Lib.hid built_qh0
  obtain ⟨C, hC⟩ : ∃ C, C = hdC hd0 := ⟨_, rfl⟩
  have HO := Lib.hid (hdC_one hd0)
  have HZ := Lib.hid (hdC_size hd0_ok)
  have HCC := Lib.hid hC
  rw [← hC] at HI HBU HO HZ ⊢
  obtain ⟨n, hn2⟩ : ∃ n, n = Numm.num 0 ((zs.drop 1).take 8) := ⟨_, rfl⟩
  obtain ⟨m, hm2⟩ : ∃ n, n = Numm.num 0 (zs.drop 41) := ⟨_, rfl⟩
  obtain ⟨z0, hz0⟩ : ∃ z, z = zs.getD 0 0 := ⟨_, rfl⟩
  have HZ0 := Lib.hid hz0
  rw [← hn2] at HGN
  rw [← hm2] at HGT
  rw [← hz0] at hl
  rw [← hn2] at hn
  have i1 : (1048576 : Int) < (n : Int) := by omega
  clear hC h hz0 hn2 hm2 hn
  go_enter Tryd.func20, Tryd.ntmps20
  go_upto_region 1 with (fail)
  obtain ⟨g, hg⟩ : ∃ g, g = w.heap.size := ⟨_, rfl⟩
  refine gen_codeR (F := Bq w g 46 C) (by rw [hg, HCC.out]; exact Bq.new _ _ _) ?_
  rw [← hg]
  intro w0 hb0
  have H0 := Lib.hid hb0
  clear hg hb0
  have c0 : w0.cell? ⟨b, off, none⟩ = some (.int .u8 ((z0 : Nat) : Int)) := by
    rcases (HR.out.below H0.out.2.1).2.2 with h0 | ⟨b', off', e, _, hc⟩
    · omega
    · cases e
      rw [HZ0.out]
      exact hc 0 (by omega)
  have HN := Lib.hid (HGN.out w0 H0.out.2.1)
  have HT := Lib.hid (HGT.out w0 H0.out.2.1)
  clear HGN HGT
  rw [hl] at c0
  clear hl
  go_wp2_with (first | (refine wpList_runR (by rfl) _ (exec_midR (len := 49) (cap := cap) (k := 1) (M := 9) (j := 8) (by omega) (by omega) (by omega) (by omega) (by rfl) (by rfl) (by rfl) _ rfl _) ?_) | (refine wpList_runR (by rfl) _ (exec_midR (len := 49) (cap := cap) (k := 41) (M := 49) (j := 8) (by omega) (by omega) (by omega) (by omega) (by rfl) (by rfl) (by rfl) _ rfl _) ?_) | (go_at_call 37; (first | (with_reducible refine HN.out.mono ?_) | (with_reducible refine HT.out.mono ?_)); rintro e w4 ⟨rfl, rfl⟩) | (refine wpList_buildR 46 _ (by rfl) (by rfl) C (by simp only [List.map_toArray, List.map_cons, List.map_nil]; exact HBU.out) ?_) | (refine wpList_store_row (by rfl) 46 _ _ (by rfl) g C (by rfl) (by rfl) 46 C H0.out.1 HI.out rfl HO.out ?_))
  exact bodyPost_ret (results_row_tmpR rfl _ _ g 46 C (0, 0) _ (by rfl) H0.out.1.setRow Tryd.underlying46 HI.out) rfl ⟨rfl, H0.out.set.2.1⟩
set_option maxRecDepth 100000 in
set_option maxHeartbeats 8000000 in
theorem rdecH_t (a : Option Addr) (cap : Nat) (zs : List Nat) (w : World) (h : Rd w a 49 zs) (hcap : 49 ≤ cap) (hl : zs.getD 0 0 = 7) (hn : Numm.num 0 ((zs.drop 1).take 8) ≤ 1048576) (ht : ¬ Numm.num 0 (zs.drop 41) ≤ 1099511627776) :
    Calls Tryd.prog 20 #[.slice a 49 cap] w fun e w' => e = .returned (.tuple #[.agg (hdC hd0), .int .i64 10]) ∧ Below w.heap.size w w' := by
  obtain ⟨b, off, rfl⟩ : ∃ b off, a = some ⟨b, off, none⟩ := by
    rcases h.2.2 with h0 | ⟨b, off, e, _⟩
    · omega
    · exact ⟨b, off, e⟩
  have HR := Lib.hid h
  have HBL := Lib.hid (show b < w.heap.size from by
    rcases h.2.2 with h0 | ⟨b', off', e, hlt, _⟩
    · omega
    · cases e; exact hlt)
  have HGN := Lib.hid fun W (hW : Below w.heap.size w W) => refGet_c (some ⟨b, off + 1, none⟩) 8 (cap - 1) ((zs.drop 1).take 8) W (rd_at (HR.out.below hW) 1 8 (by omega)) (by omega)
  have HGT := Lib.hid fun W (hW : Below w.heap.size w W) => refGet_c (some ⟨b, off + 41, none⟩) 8 (cap - 41) (zs.drop 41) W ((HR.out.below hW).drop 41) (by omega)
  have HI := Lib.hid (show (Tryd.prog.info? 46).map (·.size) = some (hdC hd0).size from by rw [hdC_size hd0_ok]; exact info_qh)
  have HBU := Lib.hid built_qh0
  obtain ⟨C, hC⟩ : ∃ C, C = hdC hd0 := ⟨_, rfl⟩
  have HO := Lib.hid (hdC_one hd0)
  have HZ := Lib.hid (hdC_size hd0_ok)
  have HCC := Lib.hid hC
  rw [← hC] at HI HBU HO HZ ⊢
  obtain ⟨n, hn2⟩ : ∃ n, n = Numm.num 0 ((zs.drop 1).take 8) := ⟨_, rfl⟩
  obtain ⟨m, hm2⟩ : ∃ n, n = Numm.num 0 (zs.drop 41) := ⟨_, rfl⟩
  obtain ⟨z0, hz0⟩ : ∃ z, z = zs.getD 0 0 := ⟨_, rfl⟩
  have HZ0 := Lib.hid hz0
  rw [← hn2] at HGN
  rw [← hm2] at HGT
  rw [← hz0] at hl
  rw [← hn2] at hn
  rw [← hm2] at ht
  have i1 : ¬ (1048576 : Int) < (n : Int) := by omega
  have i2 : (1099511627776 : Int) < (m : Int) := by omega
  clear hC h hz0 hn2 hm2 hn ht
  go_enter Tryd.func20, Tryd.ntmps20
  go_upto_region 1 with (fail)
  obtain ⟨g, hg⟩ : ∃ g, g = w.heap.size := ⟨_, rfl⟩
  refine gen_codeR (F := Bq w g 46 C) (by rw [hg, HCC.out]; exact Bq.new _ _ _) ?_
  rw [← hg]
  intro w0 hb0
  have H0 := Lib.hid hb0
  clear hg hb0
  have c0 : w0.cell? ⟨b, off, none⟩ = some (.int .u8 ((z0 : Nat) : Int)) := by
    rcases (HR.out.below H0.out.2.1).2.2 with h0 | ⟨b', off', e, _, hc⟩
    · omega
    · cases e
      rw [HZ0.out]
      exact hc 0 (by omega)
  have HN := Lib.hid (HGN.out w0 H0.out.2.1)
  have HT := Lib.hid (HGT.out w0 H0.out.2.1)
  clear HGN HGT
  rw [hl] at c0
  clear hl
  go_wp2_with (first | (refine wpList_runR (by rfl) _ (exec_midR (len := 49) (cap := cap) (k := 1) (M := 9) (j := 8) (by omega) (by omega) (by omega) (by omega) (by rfl) (by rfl) (by rfl) _ rfl _) ?_) | (refine wpList_runR (by rfl) _ (exec_midR (len := 49) (cap := cap) (k := 41) (M := 49) (j := 8) (by omega) (by omega) (by omega) (by omega) (by rfl) (by rfl) (by rfl) _ rfl _) ?_) | (go_at_call 37; (first | (with_reducible refine HN.out.mono ?_) | (with_reducible refine HT.out.mono ?_)); rintro e w4 ⟨rfl, rfl⟩) | (refine wpList_buildR 46 _ (by rfl) (by rfl) C (by simp only [List.map_toArray, List.map_cons, List.map_nil]; exact HBU.out) ?_) | (refine wpList_store_row (by rfl) 46 _ _ (by rfl) g C (by rfl) (by rfl) 46 C H0.out.1 HI.out rfl HO.out ?_))
  exact bodyPost_ret (results_row_tmpR rfl _ _ g 46 C (0, 0) _ (by rfl) H0.out.1.setRow Tryd.underlying46 HI.out) rfl ⟨rfl, H0.out.set.2.1⟩
set_option maxRecDepth 100000 in
set_option maxHeartbeats 8000000 in
theorem rdecH_ok (a : Option Addr) (cap : Nat) (zs : List Nat) (w : World) (h : Rd w a 49 zs) (hcap : 49 ≤ cap) (hl : zs.getD 0 0 = 7) (hn : Numm.num 0 ((zs.drop 1).take 8) ≤ 1048576) (ht : Numm.num 0 (zs.drop 41) ≤ 1099511627776) :
    Calls Tryd.prog 20 #[.slice a 49 cap] w fun e w' => e = .returned (.tuple #[.agg (hdC ⟨(Numm.num 0 ((zs.drop 1).take 8) : Nat), (zs.drop 9).take 32, (Numm.num 0 (zs.drop 41) : Nat)⟩), .int .i64 0]) ∧ Below w.heap.size w w' := by
  obtain ⟨b, off, rfl⟩ : ∃ b off, a = some ⟨b, off, none⟩ := by
    rcases h.2.2 with h0 | ⟨b, off, e, _⟩
    · omega
    · exact ⟨b, off, e⟩
  have HR := Lib.hid h
  have HBL := Lib.hid (show b < w.heap.size from by
    rcases h.2.2 with h0 | ⟨b', off', e, hlt, _⟩
    · omega
    · cases e; exact hlt)
  have HGN := Lib.hid fun W (hW : Below w.heap.size w W) => refGet_c (some ⟨b, off + 1, none⟩) 8 (cap - 1) ((zs.drop 1).take 8) W (rd_at (HR.out.below hW) 1 8 (by omega)) (by omega)
  have HGT := Lib.hid fun W (hW : Below w.heap.size w W) => refGet_c (some ⟨b, off + 41, none⟩) 8 (cap - 41) (zs.drop 41) W ((HR.out.below hW).drop 41) (by omega)
  have HI := Lib.hid (show (Tryd.prog.info? 46).map (·.size) = some (hdC hd0).size from by rw [hdC_size hd0_ok]; exact info_qh)
  have HBU := Lib.hid built_qh0
  obtain ⟨C, hC⟩ : ∃ C, C = hdC hd0 := ⟨_, rfl⟩
  have HO := Lib.hid (hdC_one hd0)
  have HZ := Lib.hid (hdC_size hd0_ok)
  have HCC := Lib.hid hC
  rw [← hC] at HI HBU HO HZ
  have HXL := Lib.hid (show ((zs.drop 9).take 32).length = 32 from by rw [List.length_take, List.length_drop, h.1]; rfl)
  have HXB := Lib.hid (show ∀ z ∈ (zs.drop 9).take 32, z < 256 from fun z hz => h.2.1 z (List.mem_of_mem_drop (List.mem_of_mem_take hz)))
  have HRX := Lib.hid fun W (hW : Below w.heap.size w W) => rd_at (HR.out.below hW) 9 32 (by omega)
  obtain ⟨n, hn2⟩ : ∃ n, n = Numm.num 0 ((zs.drop 1).take 8) := ⟨_, rfl⟩
  obtain ⟨m, hm2⟩ : ∃ n, n = Numm.num 0 (zs.drop 41) := ⟨_, rfl⟩
  obtain ⟨z0, hz0⟩ : ∃ z, z = zs.getD 0 0 := ⟨_, rfl⟩
  have HZ0 := Lib.hid hz0
  rw [← hn2] at HGN
  rw [← hm2] at HGT
  rw [← hz0] at hl
  rw [← hn2] at hn
  rw [← hm2] at ht
  obtain ⟨x, hx2⟩ : ∃ x, x = (zs.drop 9).take 32 := ⟨_, rfl⟩
  rw [← hx2] at HXL HXB HRX
  rw [← hn2, ← hm2, ← hx2]
  clear hx2
  have i1 : ¬ (1048576 : Int) < (n : Int) := by omega
  have i2 : ¬ (1099511627776 : Int) < (m : Int) := by omega
  have i3 : wrap64 (n : Int) = (n : Int) := IntWalk.wrap64_in _ (by omega)
  have i4 : wrap64 (m : Int) = (m : Int) := IntWalk.wrap64_in _ (by omega)
  clear hC h hz0 hn2 hm2 hn ht
  have HIX := Lib.hid (show (Tryd.prog.info? 46).map (·.size) = some (hdC ⟨n, x, m⟩).size from by rw [hdC_size ⟨HXL.out, HXB.out⟩]; exact info_qh)
  have HOX := Lib.hid (hdC_one ⟨n, x, m⟩)
  have HZX := Lib.hid (hdC_size (r := ⟨n, x, m⟩) ⟨HXL.out, HXB.out⟩)
  obtain ⟨D, hD⟩ : ∃ D, D = hdC ⟨n, x, m⟩ := ⟨_, rfl⟩
  rw [← hD] at HIX HOX HZX ⊢
  have HDD := Lib.hid hD
  clear hD
  have HBX := Lib.hid (built_qh n m)
  have HIE := Lib.hid (show (Tryd.prog.info? 46).map (·.size) = some (hdC ⟨n, zs32, m⟩).size from by rw [hdC_size dOk_zs]; exact info_qh)
  have HOE := Lib.hid (hdC_one ⟨n, zs32, m⟩)
  have HZE := Lib.hid (hdC_size (r := ⟨n, zs32, m⟩) dOk_zs)
  obtain ⟨E, hE⟩ : ∃ E, E = hdC ⟨n, zs32, m⟩ := ⟨_, rfl⟩
  rw [← hE] at HBX HIE HOE HZE
  have HEE := Lib.hid hE
  clear hE
  go_enter Tryd.func20, Tryd.ntmps20
  go_upto_region 1 with (fail)
  obtain ⟨g, hg⟩ : ∃ g, g = w.heap.size := ⟨_, rfl⟩
  refine gen_codeR (F := Bq w g 46 C) (by rw [hg, HCC.out]; exact Bq.new _ _ _) ?_
  rw [← hg]
  intro w0 hb0
  have H0 := Lib.hid hb0
  clear hg hb0
  have c0 : w0.cell? ⟨b, off, none⟩ = some (.int .u8 ((z0 : Nat) : Int)) := by
    rcases (HR.out.below H0.out.2.1).2.2 with h0 | ⟨b', off', e, _, hc⟩
    · omega
    · cases e
      rw [HZ0.out]
      exact hc 0 (by omega)
  have HN := Lib.hid (HGN.out w0 H0.out.2.1)
  have HT := Lib.hid (HGT.out w0 H0.out.2.1)
  clear HGN HGT
  rw [hl] at c0
  clear hl
  have HNB := Lib.hid (show RW (w0.alloc (.cells C 46 (0, 0))) w0.heap.size 46 C from RW.new _ _ _)
  rw [HCC.out] at HNB
  go_wp2_with (first | (refine wpList_runR (by rfl) _ (exec_midR (len := 49) (cap := cap) (k := 1) (M := 9) (j := 8) (by omega) (by omega) (by omega) (by omega) (by rfl) (by rfl) (by rfl) _ rfl _) ?_) | (refine wpList_runR (by rfl) _ (exec_midR (len := 49) (cap := cap) (k := 41) (M := 49) (j := 8) (by omega) (by omega) (by omega) (by omega) (by rfl) (by rfl) (by rfl) _ rfl _) ?_) | (go_at_call 37; (first | (with_reducible refine HN.out.mono ?_) | (with_reducible refine HT.out.mono ?_)); rintro e w4 ⟨rfl, rfl⟩) | (refine wpList_buildR 46 _ (by rfl) (by rfl) E (by simp only [List.map_toArray, List.map_cons, List.map_nil]; exact HBX.out) ?_) | (refine wpList_store_row (by rfl) 46 _ _ (by rfl) w0.heap.size E (by rfl) (by rfl) 46 (hdC hd0) (by exact HNB.out) HIE.out (by rw [hdC_size hd0_ok, HZE.out]) HOE.out ?_))
  obtain ⟨j, hj⟩ : ∃ j, j = w0.heap.size := ⟨_, rfl⟩
  refine gen_codeR (F := D2 w g j 46 C (hdC ⟨n, yk x 0, m⟩)) (by rw [hj, yk_zero, ← HEE.out]; exact (D2.mk' (D := hdC hd0) H0.out).row) ?_
  rw [← hj]
  intro w1 hd1
  have H1 := Lib.hid hd1
  clear hj hd1 H0 HNB HN HT c0 HZ0
  go_loopw [9] (fun i wr => ∃ k : Nat, k ≤ 32 ∧ i = .int .i64 k ∧ Hid (D2 w g j 46 C (hdC ⟨n, yk x k, m⟩) wr)) (fun i _ => 32 - (intOf i).toNat)
  case atStart => exact ⟨0, by omega, rfl, H1⟩
  case round =>
    clear H1
    obtain ⟨k, hk, rfl, HP⟩ := hrel
    by_cases hkl : k < 32
    · have hcl : wr.cell? ⟨b, off + (9 + k), none⟩ = some (.int .u8 ((x.getD k 0 : Nat) : Int)) := by
        rcases (HRX.out wr HP.out.below).2.2 with h0 | ⟨b', off', e, _, hc⟩
        · omega
        · cases e
          have := hc k hkl
          rwa [Nat.add_assoc] at this
      have hdt : wr.cell? ⟨j, 1 + k, none⟩ = some (.int .u8 (((yk x k).getD k 0 : Nat) : Int)) := HP.out.b.rootAt k _ (by
        show (cellsOf (yk x k))[k]? = _
        rw [cellsOf_get _ _ (by rw [yk_len x k (by omega) (by rw [HXL.out]; omega)]; exact hkl), getD_at _ _ (by rw [yk_len x k (by omega) (by rw [HXL.out]; omega)]; exact hkl)])
      have hfz := HP.out.b.fz (1 + k)
      have HS := Lib.hid (show D2 w g j 46 C (hdC ⟨n, yk x (k + 1), m⟩) (wr.setCell ⟨j, 1 + k, none⟩ (.int .u8 ((x.getD k 0 : Nat) : Int))) from by
        have h := HP.out.cell (1 + k) (.int .u8 ((x.getD k 0 : Nat) : Int))
        rw [hdC_set _ _ _ _ _ (by rw [yk_len x k (by omega) (by rw [HXL.out]; omega)]; exact hkl), yk_step x k hkl (by rw [HXL.out]; exact hkl)] at h
        exact h)
      obtain ⟨z, hz⟩ : ∃ z, z = x.getD k 0 := ⟨_, rfl⟩
      obtain ⟨y, hy⟩ : ∃ y, y = (yk x k).getD k 0 := ⟨_, rfl⟩
      rw [← hz] at hcl HS
      rw [← hy] at hdt
      have hov : (9 : Int) + (k : Int) < 49 := by omega
      clear hz hy
      go_wp2_with fail
      go_roundw
      case rel => exact ⟨k + 1, by omega, by go_num, HS⟩
      case measure => simp [intOf]; omega
    · obtain rfl : k = 32 := by omega
      have HQ := Lib.hid (show D2 w g j 46 C D wr from by
        have e : yk x 32 = x := by unfold yk; rw [List.take_of_length_le (by rw [HXL.out]; omega), Nat.sub_self, List.replicate_zero, List.append_nil]
        have h := HP.out
        rw [e, ← HDD.out] at h
        exact h)
      clear HP hkl hk
      go_wp2_with (first | (refine wpList_loadg 46 _ (by rfl) (by rfl) (.pointer (some ⟨j, 0, none⟩)) (by rfl) (.agg D) (HQ.out.b.load Tryd.underlying46 HIX.out) ?_) | (refine wpList_store_row (by rfl) 46 _ _ (by rfl) g D (by rfl) (by rfl) 46 C HQ.out.a HIX.out (by rw [HZX.out, HZ.out]) HOX.out ?_))
      exact bodyPost_ret (results_row_tmpR rfl _ _ g 46 D (0, 0) _ (by rfl) HQ.out.a.setRow Tryd.underlying46 HIX.out) rfl ⟨rfl, HQ.out.res.2.1⟩
/-- the document's head of any bytes -/
theorem rdecH_c (a : Option Addr) (len cap : Nat) (zs : List Nat) (w : World) (h : Rd w a len zs) (hcap : len ≤ cap) :
    Calls Tryd.prog 20 #[.slice a len cap] w (DH w (hdecL zs)) := by
  have no : hdecL zs = none → Calls Tryd.prog 20 #[.slice a len cap] w (fun e w' => e = .returned (.tuple #[.agg (hdC hd0), .int .i64 10]) ∧ Below w.heap.size w w') → Calls Tryd.prog 20 #[.slice a len cap] w (DH w (hdecL zs)) := fun hn hc => by
    rw [hn]
    exact hc
  have hzl := h.1
  by_cases h1 : len = 49
  · subst h1
    by_cases h2 : zs.getD 0 0 = 7
    · by_cases h3 : Numm.num 0 ((zs.drop 1).take 8) ≤ 1048576
      · by_cases h4 : Numm.num 0 (zs.drop 41) ≤ 1099511627776
        · have e : hdecL zs = some ⟨(Numm.num 0 ((zs.drop 1).take 8) : Nat), (zs.drop 9).take 32, (Numm.num 0 (zs.drop 41) : Nat)⟩ := if_pos ⟨hzl, h2, h3, h4⟩
          rw [e]
          exact rdecH_ok a cap zs w h hcap h2 h3 h4
        · exact no (if_neg fun hh => h4 hh.2.2.2) (rdecH_t a cap zs w h hcap h2 h3 h4)
      · exact no (if_neg fun hh => h3 hh.2.2.1) (rdecH_n a cap zs w h hcap h2 h3)
    · exact no (if_neg fun hh => h2 hh.2.1) (rdecH_mark a cap zs w h hcap h2)
  · exact no (if_neg fun hh => h1 (by rw [← hzl]; exact hh.1)) (rdecH_len a len cap zs w h h1)
end Go.Proofs.YtjjkfbebaoikbaaDoor.Rc
