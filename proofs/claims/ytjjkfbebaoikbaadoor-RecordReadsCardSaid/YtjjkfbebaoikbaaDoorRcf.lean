/-
  The program's head of any bytes.
-/
import Derived.Test.YtjjkfbebaoikbaaDoorRce
namespace Go.Proofs.YtjjkfbebaoikbaaDoor.Rc
open Go.RowKit Go.Proofs.Nm Go.Proofs.YtjjkfbebaoikbaaDoor
set_option linter.unusedVariables false
/-- the box of a result -/
def Bq (w : World) (g : Nat) (t : TypeId) (C : Array Value) (W : World) : Prop := RW W g t C ∧ Below w.heap.size w W ∧ w.heap.size ≤ g
theorem Bq.new (w : World) (t : TypeId) (C : Array Value) : Bq w w.heap.size t C (w.alloc (.cells C t (0, 0))) := ⟨RW.new _ _ _, (Below.refl _ w).alloc (Nat.le_refl _) _, Nat.le_refl _⟩
theorem Bq.step {w W W' : World} {g : Nat} {t : TypeId} {C : Array Value} (h : Bq w g t C W) (hb : Below W.heap.size W W') : Bq w g t C W' := ⟨h.1.below hb, h.2.1.trans (hb.mono h.2.1.size), h.2.2⟩
theorem Bq.set {w W : World} {g : Nat} {t : TypeId} {C D : Array Value} (h : Bq w g t C W) : Bq w g t D (W.setRow g D) := ⟨h.1.setRow, h.2.1.setRow h.2.2 _, h.2.2⟩
theorem results_row_tmpR {P : Program} {fn : Func} {p u : Tmp} {ty : TypeId} (h : fn.results = #[.cell p ty, .tmp u]) (tmps : Array Value) (w : World) (g : Nat) (t : TypeId) (cs : Array Value) (fr : Nat × Nat) (fs : Array Field)
    (hp : tmps.getD p undef = .pointer (some ⟨g, 0, none⟩)) (hg : w.heap[g]? = some (.cells cs t fr)) (hu : P.underlying ty = some (.struct fs)) (hi : (P.info? ty).map (·.size) = some cs.size) :
    (results fn tmps).run P w = .ok (.tuple #[.agg cs, tmps.getD u undef]) w := by
  rw [results_cell_tmp h]
  have hp' : tmps[p]?.getD undef = .pointer (some ⟨g, 0, none⟩) := by simpa using hp
  simp [hp', asAddr, run_loadVar_row w g t ty cs fr _ hg hu rfl hi, Result.andThen]
def hd0 : Hdv := ⟨0, zs32, 0⟩
theorem hd0_ok : dOk hd0.root := dOk_zs
theorem built_h0 : Tryd.prog.built 48 [] = some (hdC hd0) := by kernel_rfl
theorem built_ph (n t : Int) (x : List Nat) (hx : x.length = 32) : Tryd.prog.built 48 [(0, .int .i64 n), (1, .agg (cellsOf x).toArray), (2, .int .i64 t)] = some (hdC ⟨n, x, t⟩) := by
  obtain ⟨f, rfl⟩ := list32n hx
  clear hx
  kernel_rfl
theorem wpList_buildR {P : Program} {ops : Array Oper} {Q : Exit → Act → World → Prop} {rest : List Oper} {o : Oper} {a : Act} {w : World} (t : TypeId) (fs : Array (Nat × Operand)) (ho : o.op = .build t fs) (hw : Region.wanted o (yielded ops a.tmps) = true) (C : Array Value)
    (hb : P.built t (fs.map fun (i, z) => (i, a.eval z)).toList = some C) (h : wpList P ops Q rest (a.put o.dst (.agg C)) w) : wpList P ops Q (o :: rest) a w := by
  rw [wpList, if_pos hw]
  refine .inl ?_
  unfold Oper.wp execOp
  simp only [ho, Sem.run_bind, run_build w t _ _ hb, Result.andThen_ok, Sem.run_pure]
  exact h
/-- x[k:M], x[k:] where the slice begins at a known place -/
theorem exec_midR {b off len cap k M j : Nat} (hk : k ≤ M) (hM : M ≤ cap) (hj : M - k = j) (hc : k < cap) {A : Act} {x y z : Operand} (hx : A.eval x = .slice (some ⟨b, off, none⟩) len cap) (hy : A.eval y = .int .i64 (k : Int)) (hz : A.eval z = .int .i64 (M : Int)) (o : Oper) (ho : o.op = .slice 25 x (some y) (some z) none) (W : World) :
    (execOp A.eval o).run Tryd.prog W = .ok (.value (.slice (some ⟨b, off + k, none⟩) j (cap - k))) W := by
  subst hj
  unfold execOp
  simp only [ho, hx, hy, hz, Option.map_none, Option.map_some]
  rw [Sem.run_bind, run_midAt W _ len cap k M hk hM]
  have e : sla (some ⟨b, off, none⟩) cap k = some ⟨b, off + k, none⟩ := by unfold sla; rw [if_neg (by omega)]; simp [Addr.add]
  rw [e]
  rfl
theorem exec_cutR {b off len cap k j : Nat} (hk : k ≤ len) (hj : len - k = j) (hc : k < cap) {A : Act} {x y : Operand} (hx : A.eval x = .slice (some ⟨b, off, none⟩) len cap) (hy : A.eval y = .int .i64 (k : Int)) (o : Oper) (ho : o.op = .slice 25 x (some y) none none) (W : World) :
    (execOp A.eval o).run Tryd.prog W = .ok (.value (.slice (some ⟨b, off + k, none⟩) j (cap - k))) W := by
  subst hj
  unfold execOp
  simp only [ho, hx, hy, Option.map_none, Option.map_some]
  rw [Sem.run_bind, run_cutAt W _ len cap k hk]
  have e : sla (some ⟨b, off, none⟩) cap k = some ⟨b, off + k, none⟩ := by unfold sla; rw [if_neg (by omega)]; simp [Addr.add]
  rw [e]
  rfl
theorem exec_arrR {ty : TypeId} (hu : Tryd.prog.underlying ty = some (.array 32 5)) {b off c : Nat} {A : Act} {x : Operand} (hx : A.eval x = .slice (some ⟨b, off, none⟩) 32 c) (o : Oper) (ho : o.op = .sliceToArrayPointer ty x) (W : World) : (execOp A.eval o).run Tryd.prog W = .ok (.value (.pointer (some ⟨b, off, none⟩))) W := by
  have h : (Instr.arrayAt ty (.slice (some ⟨b, off, none⟩) 32 c)).run Tryd.prog W = .ok (.pointer (some ⟨b, off, none⟩)) W := by
    unfold Instr.arrayAt
    rw [Sem.run_bind, run_underlying hu]
    simp [Result.andThen]
  unfold execOp
  simp only [ho, hx, h, Sem.run_bind, Result.andThen_ok, Sem.run_pure]
theorem rd_range {W : World} {b off n : Nat} {zs : List Nat} (h : Rd W (some ⟨b, off, none⟩) n zs) (hn : 0 < n) : W.rangeAt b off (cellsOf zs) := fun j u hu => by
  have hj := (List.getElem?_eq_some_iff.1 hu).1
  rw [cellsOf_length] at hj
  rcases h.2.2 with h0 | ⟨b', off', e, _, hc⟩
  · omega
  · cases e
    rw [hc j (by rw [← h.1]; exact hj)]
    rw [cellsOf_get zs j hj] at hu
    exact hu
theorem rd_at {W : World} {b off n : Nat} {zs : List Nat} (h : Rd W (some ⟨b, off, none⟩) n zs) (k j : Nat) (hk : k + j ≤ n) : Rd W (some ⟨b, off + k, none⟩) j ((zs.drop k).take j) := (h.drop k).take j (by omega)
/-- what DecodeHead answers -/
def DH (w : World) (r : Option Hdv) (e : Ending) (w' : World) : Prop := e = .returned (.tuple #[.agg (hdC (r.getD hd0)), .int .i64 (if r.isSome then 0 else 10)]) ∧ Below w.heap.size w w'
set_option maxRecDepth 100000 in
set_option maxHeartbeats 4000000 in
theorem decH_len (a : Option Addr) (len cap : Nat) (zs : List Nat) (w : World) (h : Rd w a len zs) (hl : len ≠ 49) :
    Calls Tryd.prog 19 #[.slice a len cap] w fun e w' => e = .returned (.tuple #[.agg (hdC hd0), .int .i64 10]) ∧ Below w.heap.size w w' := by
  have HI := Lib.hid (show (Tryd.prog.info? 48).map (·.size) = some (hdC hd0).size from by rw [hdC_size hd0_ok]; exact info_ph)
  have HBU := Lib.hid built_h0
  obtain ⟨C, hC⟩ : ∃ C, C = hdC hd0 := ⟨_, rfl⟩
  have HO := Lib.hid (hdC_one hd0)
  have HZ := Lib.hid (hdC_size hd0_ok)
  have HCC := Lib.hid hC
  rw [← hC] at HI HBU HO HZ ⊢
  have hl2 : ¬ (len : Int) = 49 := by omega
  clear hC h hl
  go_enter Tryd.func19, Tryd.ntmps19
  go_upto_region 1 with (fail)
  obtain ⟨g, hg⟩ : ∃ g, g = w.heap.size := ⟨_, rfl⟩
  refine gen_codeR (F := Bq w g 48 C) (by rw [hg, HCC.out]; exact Bq.new _ _ _) ?_
  rw [← hg]
  intro w0 hb0
  have H0 := Lib.hid hb0
  clear hg hb0 HCC
  go_wp2_with (first | (refine wpList_buildR 48 _ (by rfl) (by rfl) C (by simp only [List.map_toArray, List.map_cons, List.map_nil]; exact HBU.out) ?_) | (refine wpList_store_row (by rfl) 48 _ _ (by rfl) g C (by rfl) (by rfl) 48 C H0.out.1 HI.out rfl HO.out ?_))
  exact bodyPost_ret (results_row_tmpR rfl _ _ g 48 C (0, 0) _ (by rfl) H0.out.1.setRow Tryd.underlying48 HI.out) rfl ⟨rfl, H0.out.set.2.1⟩
set_option maxRecDepth 100000 in
set_option maxHeartbeats 4000000 in
theorem decH_mark (a : Option Addr) (cap : Nat) (zs : List Nat) (w : World) (h : Rd w a 49 zs) (hl : zs.getD 0 0 ≠ 7) :
    Calls Tryd.prog 19 #[.slice a 49 cap] w fun e w' => e = .returned (.tuple #[.agg (hdC hd0), .int .i64 10]) ∧ Below w.heap.size w w' := by
  obtain ⟨b, off, rfl⟩ : ∃ b off, a = some ⟨b, off, none⟩ := by
    rcases h.2.2 with h0 | ⟨b, off, e, _⟩
    · omega
    · exact ⟨b, off, e⟩
  have hb0 : b < w.heap.size := by
    rcases h.2.2 with h0 | ⟨b', off', e, hlt, _⟩
    · omega
    · cases e; exact hlt
  have HR := Lib.hid h
  have HBL := Lib.hid hb0
  have HI := Lib.hid (show (Tryd.prog.info? 48).map (·.size) = some (hdC hd0).size from by rw [hdC_size hd0_ok]; exact info_ph)
  have HBU := Lib.hid built_h0
  obtain ⟨C, hC⟩ : ∃ C, C = hdC hd0 := ⟨_, rfl⟩
  have HO := Lib.hid (hdC_one hd0)
  have HZ := Lib.hid (hdC_size hd0_ok)
  have HCC := Lib.hid hC
  rw [← hC] at HI HBU HO HZ ⊢
  clear hC h hb0
  go_enter Tryd.func19, Tryd.ntmps19
  go_upto_region 1 with (fail)
  obtain ⟨g, hg⟩ : ∃ g, g = w.heap.size := ⟨_, rfl⟩
  refine gen_codeR (F := Bq w g 48 C) (by rw [hg, HCC.out]; exact Bq.new _ _ _) ?_
  rw [← hg]
  intro w0 hb0
  have H0 := Lib.hid hb0
  clear hg hb0 HCC
  have c0 : w0.cell? ⟨b, off, none⟩ = some (.int .u8 ((zs.getD 0 0 : Nat) : Int)) := by
    rcases (HR.out.below H0.out.2.1).2.2 with h0 | ⟨b', off', e, _, hc⟩
    · omega
    · cases e; exact hc 0 (by omega)
  obtain ⟨z, hz⟩ : ∃ z, z = zs.getD 0 0 := ⟨_, rfl⟩
  rw [← hz] at c0 hl
  have hl2 : ¬ (z : Int) = 7 := by omega
  clear hz hl
  go_wp2_with (first | (refine wpList_buildR 48 _ (by rfl) (by rfl) C (by simp only [List.map_toArray, List.map_cons, List.map_nil]; exact HBU.out) ?_) | (refine wpList_store_row (by rfl) 48 _ _ (by rfl) g C (by rfl) (by rfl) 48 C H0.out.1 HI.out rfl HO.out ?_))
  exact bodyPost_ret (results_row_tmpR rfl _ _ g 48 C (0, 0) _ (by rfl) H0.out.1.setRow Tryd.underlying48 HI.out) rfl ⟨rfl, H0.out.set.2.1⟩
set_option maxRecDepth 100000 in
set_option maxHeartbeats 8000000 in
theorem decH_n (a : Option Addr) (cap : Nat) (zs : List Nat) (w : World) (h : Rd w a 49 zs) (hcap : 49 ≤ cap) (hl : zs.getD 0 0 = 7) (hn : ¬ Numm.num 0 ((zs.drop 1).take 8) ≤ 1048576) (ht : Numm.num 0 (zs.drop 41) ≤ 1099511627776) :
    Calls Tryd.prog 19 #[.slice a 49 cap] w fun e w' => e = .returned (.tuple #[.agg (hdC hd0), .int .i64 10]) ∧ Below w.heap.size w w' := by
  obtain ⟨b, off, rfl⟩ : ∃ b off, a = some ⟨b, off, none⟩ := by
    rcases h.2.2 with h0 | ⟨b, off, e, _⟩
    · omega
    · exact ⟨b, off, e⟩
  have hb0 : b < w.heap.size := by
    rcases h.2.2 with h0 | ⟨b', off', e, hlt, _⟩
    · omega
    · cases e; exact hlt
  have HR := Lib.hid h
  have HBL := Lib.hid hb0
  have HI := Lib.hid (show (Tryd.prog.info? 48).map (·.size) = some (hdC hd0).size from by rw [hdC_size hd0_ok]; exact info_ph)
  have HBU := Lib.hid built_h0
  obtain ⟨C, hC⟩ : ∃ C, C = hdC hd0 := ⟨_, rfl⟩
  have HO := Lib.hid (hdC_one hd0)
  have HZ := Lib.hid (hdC_size hd0_ok)
  have HCC := Lib.hid hC
  rw [← hC] at HI HBU HO HZ ⊢
  have HRN := Lib.hid fun W (hW : Below w.heap.size w W) => readNum_c (some ⟨b, off + 1, none⟩) (cap - 1) ((zs.drop 1).take 8) 1048576 W (rd_at (HR.out.below hW) 1 8 (by omega)) (by omega)
  have HRT := Lib.hid fun W (hW : Below w.heap.size w W) => readNum_c (some ⟨b, off + 41, none⟩) (cap - 41) (zs.drop 41) 1099511627776 W ((HR.out.below hW).drop 41) (by omega)
  have HRX := Lib.hid fun W (hW : Below w.heap.size w W) => rd_range (rd_at (HR.out.below hW) 9 32 (by omega)) (by omega)
  have HXL := Lib.hid (show ((zs.drop 9).take 32).length = 32 from by rw [List.length_take, List.length_drop, h.1]; rfl)
  have HXB := Lib.hid (show ∀ z ∈ (zs.drop 9).take 32, z < 256 from fun z hz => h.2.1 z (List.mem_of_mem_drop (List.mem_of_mem_take hz)))
  simp only [if_neg hn, decide_eq_false hn, Int.cast_ofNat_Int] at HRN
  simp only [if_pos ht, decide_eq_true ht, Int.cast_ofNat_Int] at HRT
  obtain ⟨n, hn2⟩ : ∃ n, n = Numm.num 0 ((zs.drop 1).take 8) := ⟨_, rfl⟩
  obtain ⟨m, hm2⟩ : ∃ n, n = Numm.num 0 (zs.drop 41) := ⟨_, rfl⟩
  obtain ⟨x, hx2⟩ : ∃ x, x = (zs.drop 9).take 32 := ⟨_, rfl⟩
  rw [← hm2] at HRT
  rw [← hx2] at HRX HXL HXB
  clear hC h hb0 hn ht hn2 hm2 hx2
  go_enter Tryd.func19, Tryd.ntmps19
  go_upto_region 1 with (fail)
  obtain ⟨g, hg⟩ : ∃ g, g = w.heap.size := ⟨_, rfl⟩
  refine gen_codeR (F := Bq w g 48 C) (by rw [hg, HCC.out]; exact Bq.new _ _ _) ?_
  rw [← hg]
  intro w0 hb0
  have H0 := Lib.hid hb0
  clear hg hb0 HCC
  have c0 : w0.cell? ⟨b, off, none⟩ = some (.int .u8 ((zs.getD 0 0 : Nat) : Int)) := by
    rcases (HR.out.below H0.out.2.1).2.2 with h0 | ⟨b', off', e, _, hc⟩
    · omega
    · cases e; exact hc 0 (by omega)
  rw [hl] at c0
  clear hl
  go_upto_region 3 with fail
  have HS0 := Lib.hid (show Bq w g 48 C w0.drew from H0.out.step (below_drewN' _ w0 1))
  refine anyH_begin (S := Bq w g 48 C) (by kernel_rfl) ?_
  obtain ⟨w2, hw2⟩ : ∃ w2, w2 = w0.drew := ⟨_, rfl⟩
  have HS := Lib.hid (show Bq w g 48 C w2 from by rw [hw2]; exact HS0.out)
  rw [← hw2]
  clear hw2 HS0 H0 c0
  refine anyH_pureG 0 (d := 21) (op := .move (.tmp 0)) (gd := none) (.slice (some ⟨b, off, none⟩) 49 cap) (by rfl) (fun o ho => wanted_plain ho _) (by kernel_rfl) (by kernel_rfl) (by kernel_rfl) (fun _ _ _ h => h) (fun o ho W hW => by unfold execOp; simp only [ho]; go_simp) HS.out ?_
  simp only [Act.put, List.setIfInBounds_toArray, List.set_cons_zero, List.set_cons_succ]
  refine anyH_pureG 1 (d := 22) (op := .slice 25 (.tmp 21) (some (.const (.int .i64 1))) (some (.const (.int .i64 9))) none) (gd := none) (.slice (some ⟨b, off + 1, none⟩) 8 (cap - 1)) (by rfl) (fun o ho => wanted_plain ho _) (by kernel_rfl) (by kernel_rfl) (by kernel_rfl) (fun _ _ _ h => h) (fun o ho W hW => exec_midR (len := 49) (cap := cap) (k := 1) (M := 9) (j := 8) (by omega) (by omega) (by omega) (by omega) (by rfl) (by rfl) (by rfl) o ho W) HS.out ?_
  simp only [Act.put, List.setIfInBounds_toArray, List.set_cons_zero, List.set_cons_succ]
  refine anyH_pureG 2 (d := 23) (op := .move (.tmp 0)) (gd := none) (.slice (some ⟨b, off, none⟩) 49 cap) (by rfl) (fun o ho => wanted_plain ho _) (by kernel_rfl) (by kernel_rfl) (by kernel_rfl) (fun _ _ _ h => h) (fun o ho W hW => by unfold execOp; simp only [ho]; go_simp) HS.out ?_
  simp only [Act.put, List.setIfInBounds_toArray, List.set_cons_zero, List.set_cons_succ]
  refine anyH_pureG 3 (d := 24) (op := .slice 25 (.tmp 23) (some (.const (.int .i64 9))) (some (.const (.int .i64 41))) none) (gd := none) (.slice (some ⟨b, off + 9, none⟩) 32 (cap - 9)) (by rfl) (fun o ho => wanted_plain ho _) (by kernel_rfl) (by kernel_rfl) (by kernel_rfl) (fun _ _ _ h => h) (fun o ho W hW => exec_midR (len := 49) (cap := cap) (k := 9) (M := 41) (j := 32) (by omega) (by omega) (by omega) (by omega) (by rfl) (by rfl) (by rfl) o ho W) HS.out ?_
  simp only [Act.put, List.setIfInBounds_toArray, List.set_cons_zero, List.set_cons_succ]
  refine anyH_pureG 4 (d := 25) (op := .move (.tmp 0)) (gd := none) (.slice (some ⟨b, off, none⟩) 49 cap) (by rfl) (fun o ho => wanted_plain ho _) (by kernel_rfl) (by kernel_rfl) (by kernel_rfl) (fun _ _ _ h => h) (fun o ho W hW => by unfold execOp; simp only [ho]; go_simp) HS.out ?_
  simp only [Act.put, List.setIfInBounds_toArray, List.set_cons_zero, List.set_cons_succ]
  refine anyH_pureG 5 (d := 26) (op := .slice 25 (.tmp 25) (some (.const (.int .i64 41))) none none) (gd := none) (.slice (some ⟨b, off + 41, none⟩) 8 (cap - 41)) (by rfl) (fun o ho => wanted_plain ho _) (by kernel_rfl) (by kernel_rfl) (by kernel_rfl) (fun _ _ _ h => h) (fun o ho W hW => exec_cutR (len := 49) (cap := cap) (k := 41) (j := 8) (by omega) (by omega) (by omega) (by rfl) (by rfl) o ho W) HS.out ?_
  simp only [Act.put, List.setIfInBounds_toArray, List.set_cons_zero, List.set_cons_succ]
  refine anyH_pureG 6 (d := 4) (op := .assign (.tmp 22)) (gd := none) (.slice (some ⟨b, off + 1, none⟩) 8 (cap - 1)) (by rfl) (fun o ho => wanted_plain ho _) (by kernel_rfl) (by kernel_rfl) (by kernel_rfl) (fun _ _ _ h => h) (fun o ho W hW => by unfold execOp; simp only [ho]; go_simp) HS.out ?_
  simp only [Act.put, List.setIfInBounds_toArray, List.set_cons_zero, List.set_cons_succ]
  refine anyH_pureG 7 (d := 5) (op := .assign (.tmp 24)) (gd := none) (.slice (some ⟨b, off + 9, none⟩) 32 (cap - 9)) (by rfl) (fun o ho => wanted_plain ho _) (by kernel_rfl) (by kernel_rfl) (by kernel_rfl) (fun _ _ _ h => h) (fun o ho W hW => by unfold execOp; simp only [ho]; go_simp) HS.out ?_
  simp only [Act.put, List.setIfInBounds_toArray, List.set_cons_zero, List.set_cons_succ]
  refine anyH_pureG 8 (d := 6) (op := .assign (.tmp 26)) (gd := none) (.slice (some ⟨b, off + 41, none⟩) 8 (cap - 41)) (by rfl) (fun o ho => wanted_plain ho _) (by kernel_rfl) (by kernel_rfl) (by kernel_rfl) (fun _ _ _ h => h) (fun o ho W hW => by unfold execOp; simp only [ho]; go_simp) HS.out ?_
  simp only [Act.put, List.setIfInBounds_toArray, List.set_cons_zero, List.set_cons_succ]
  refine wpAnyH_done (by kernel_rfl) ?_ _
  have HN2 := Lib.hid (HRN.out w2 HS.out.2.1)
  have HT2 := Lib.hid (HRT.out w2 HS.out.2.1)
  have HX2 := Lib.hid (HRX.out w2 HS.out.2.1)
  clear HRN HRT HRX
  have H0 := HS
  go_wp2_with (first | (go_at_call 35; (first | (with_reducible refine HN2.out.mono ?_) | (with_reducible refine HT2.out.mono ?_)); rintro e w4 ⟨rfl, rfl⟩) | (refine wpList_buildR 48 _ (by rfl) (by rfl) C (by simp only [List.map_toArray, List.map_cons, List.map_nil]; exact HBU.out) ?_) | (refine wpList_store_row (by rfl) 48 _ _ (by rfl) g C (by rfl) (by rfl) 48 C H0.out.1 HI.out rfl HO.out ?_))
  exact bodyPost_ret (results_row_tmpR rfl _ _ g 48 C (0, 0) _ (by rfl) H0.out.1.setRow Tryd.underlying48 HI.out) rfl ⟨rfl, H0.out.set.2.1⟩
set_option maxRecDepth 100000 in
set_option maxHeartbeats 8000000 in
theorem decH_nt (a : Option Addr) (cap : Nat) (zs : List Nat) (w : World) (h : Rd w a 49 zs) (hcap : 49 ≤ cap) (hl : zs.getD 0 0 = 7) (hn : ¬ Numm.num 0 ((zs.drop 1).take 8) ≤ 1048576) (ht : ¬ Numm.num 0 (zs.drop 41) ≤ 1099511627776) :
    Calls Tryd.prog 19 #[.slice a 49 cap] w fun e w' => e = .returned (.tuple #[.agg (hdC hd0), .int .i64 10]) ∧ Below w.heap.size w w' := by
  obtain ⟨b, off, rfl⟩ : ∃ b off, a = some ⟨b, off, none⟩ := by
    rcases h.2.2 with h0 | ⟨b, off, e, _⟩
    · omega
    · exact ⟨b, off, e⟩
  have hb0 : b < w.heap.size := by
    rcases h.2.2 with h0 | ⟨b', off', e, hlt, _⟩
    · omega
    · cases e; exact hlt
  have HR := Lib.hid h
  have HBL := Lib.hid hb0
  have HI := Lib.hid (show (Tryd.prog.info? 48).map (·.size) = some (hdC hd0).size from by rw [hdC_size hd0_ok]; exact info_ph)
  have HBU := Lib.hid built_h0
  obtain ⟨C, hC⟩ : ∃ C, C = hdC hd0 := ⟨_, rfl⟩
  have HO := Lib.hid (hdC_one hd0)
  have HZ := Lib.hid (hdC_size hd0_ok)
  have HCC := Lib.hid hC
  rw [← hC] at HI HBU HO HZ ⊢
  have HRN := Lib.hid fun W (hW : Below w.heap.size w W) => readNum_c (some ⟨b, off + 1, none⟩) (cap - 1) ((zs.drop 1).take 8) 1048576 W (rd_at (HR.out.below hW) 1 8 (by omega)) (by omega)
  have HRT := Lib.hid fun W (hW : Below w.heap.size w W) => readNum_c (some ⟨b, off + 41, none⟩) (cap - 41) (zs.drop 41) 1099511627776 W ((HR.out.below hW).drop 41) (by omega)
  have HRX := Lib.hid fun W (hW : Below w.heap.size w W) => rd_range (rd_at (HR.out.below hW) 9 32 (by omega)) (by omega)
  have HXL := Lib.hid (show ((zs.drop 9).take 32).length = 32 from by rw [List.length_take, List.length_drop, h.1]; rfl)
  have HXB := Lib.hid (show ∀ z ∈ (zs.drop 9).take 32, z < 256 from fun z hz => h.2.1 z (List.mem_of_mem_drop (List.mem_of_mem_take hz)))
  simp only [if_neg hn, decide_eq_false hn, Int.cast_ofNat_Int] at HRN
  simp only [if_neg ht, decide_eq_false ht, Int.cast_ofNat_Int] at HRT
  obtain ⟨n, hn2⟩ : ∃ n, n = Numm.num 0 ((zs.drop 1).take 8) := ⟨_, rfl⟩
  obtain ⟨m, hm2⟩ : ∃ n, n = Numm.num 0 (zs.drop 41) := ⟨_, rfl⟩
  obtain ⟨x, hx2⟩ : ∃ x, x = (zs.drop 9).take 32 := ⟨_, rfl⟩
  rw [← hx2] at HRX HXL HXB
  clear hC h hb0 hn ht hn2 hm2 hx2
  go_enter Tryd.func19, Tryd.ntmps19
  go_upto_region 1 with (fail)
  obtain ⟨g, hg⟩ : ∃ g, g = w.heap.size := ⟨_, rfl⟩
  refine gen_codeR (F := Bq w g 48 C) (by rw [hg, HCC.out]; exact Bq.new _ _ _) ?_
  rw [← hg]
  intro w0 hb0
  have H0 := Lib.hid hb0
  clear hg hb0 HCC
  have c0 : w0.cell? ⟨b, off, none⟩ = some (.int .u8 ((zs.getD 0 0 : Nat) : Int)) := by
    rcases (HR.out.below H0.out.2.1).2.2 with h0 | ⟨b', off', e, _, hc⟩
    · omega
    · cases e; exact hc 0 (by omega)
  rw [hl] at c0
  clear hl
  go_upto_region 3 with fail
  have HS0 := Lib.hid (show Bq w g 48 C w0.drew from H0.out.step (below_drewN' _ w0 1))
  refine anyH_begin (S := Bq w g 48 C) (by kernel_rfl) ?_
  obtain ⟨w2, hw2⟩ : ∃ w2, w2 = w0.drew := ⟨_, rfl⟩
  have HS := Lib.hid (show Bq w g 48 C w2 from by rw [hw2]; exact HS0.out)
  rw [← hw2]
  clear hw2 HS0 H0 c0
  refine anyH_pureG 0 (d := 21) (op := .move (.tmp 0)) (gd := none) (.slice (some ⟨b, off, none⟩) 49 cap) (by rfl) (fun o ho => wanted_plain ho _) (by kernel_rfl) (by kernel_rfl) (by kernel_rfl) (fun _ _ _ h => h) (fun o ho W hW => by unfold execOp; simp only [ho]; go_simp) HS.out ?_
  simp only [Act.put, List.setIfInBounds_toArray, List.set_cons_zero, List.set_cons_succ]
  refine anyH_pureG 1 (d := 22) (op := .slice 25 (.tmp 21) (some (.const (.int .i64 1))) (some (.const (.int .i64 9))) none) (gd := none) (.slice (some ⟨b, off + 1, none⟩) 8 (cap - 1)) (by rfl) (fun o ho => wanted_plain ho _) (by kernel_rfl) (by kernel_rfl) (by kernel_rfl) (fun _ _ _ h => h) (fun o ho W hW => exec_midR (len := 49) (cap := cap) (k := 1) (M := 9) (j := 8) (by omega) (by omega) (by omega) (by omega) (by rfl) (by rfl) (by rfl) o ho W) HS.out ?_
  simp only [Act.put, List.setIfInBounds_toArray, List.set_cons_zero, List.set_cons_succ]
  refine anyH_pureG 2 (d := 23) (op := .move (.tmp 0)) (gd := none) (.slice (some ⟨b, off, none⟩) 49 cap) (by rfl) (fun o ho => wanted_plain ho _) (by kernel_rfl) (by kernel_rfl) (by kernel_rfl) (fun _ _ _ h => h) (fun o ho W hW => by unfold execOp; simp only [ho]; go_simp) HS.out ?_
  simp only [Act.put, List.setIfInBounds_toArray, List.set_cons_zero, List.set_cons_succ]
  refine anyH_pureG 3 (d := 24) (op := .slice 25 (.tmp 23) (some (.const (.int .i64 9))) (some (.const (.int .i64 41))) none) (gd := none) (.slice (some ⟨b, off + 9, none⟩) 32 (cap - 9)) (by rfl) (fun o ho => wanted_plain ho _) (by kernel_rfl) (by kernel_rfl) (by kernel_rfl) (fun _ _ _ h => h) (fun o ho W hW => exec_midR (len := 49) (cap := cap) (k := 9) (M := 41) (j := 32) (by omega) (by omega) (by omega) (by omega) (by rfl) (by rfl) (by rfl) o ho W) HS.out ?_
  simp only [Act.put, List.setIfInBounds_toArray, List.set_cons_zero, List.set_cons_succ]
  refine anyH_pureG 4 (d := 25) (op := .move (.tmp 0)) (gd := none) (.slice (some ⟨b, off, none⟩) 49 cap) (by rfl) (fun o ho => wanted_plain ho _) (by kernel_rfl) (by kernel_rfl) (by kernel_rfl) (fun _ _ _ h => h) (fun o ho W hW => by unfold execOp; simp only [ho]; go_simp) HS.out ?_
  simp only [Act.put, List.setIfInBounds_toArray, List.set_cons_zero, List.set_cons_succ]
  refine anyH_pureG 5 (d := 26) (op := .slice 25 (.tmp 25) (some (.const (.int .i64 41))) none none) (gd := none) (.slice (some ⟨b, off + 41, none⟩) 8 (cap - 41)) (by rfl) (fun o ho => wanted_plain ho _) (by kernel_rfl) (by kernel_rfl) (by kernel_rfl) (fun _ _ _ h => h) (fun o ho W hW => exec_cutR (len := 49) (cap := cap) (k := 41) (j := 8) (by omega) (by omega) (by omega) (by rfl) (by rfl) o ho W) HS.out ?_
  simp only [Act.put, List.setIfInBounds_toArray, List.set_cons_zero, List.set_cons_succ]
  refine anyH_pureG 6 (d := 4) (op := .assign (.tmp 22)) (gd := none) (.slice (some ⟨b, off + 1, none⟩) 8 (cap - 1)) (by rfl) (fun o ho => wanted_plain ho _) (by kernel_rfl) (by kernel_rfl) (by kernel_rfl) (fun _ _ _ h => h) (fun o ho W hW => by unfold execOp; simp only [ho]; go_simp) HS.out ?_
  simp only [Act.put, List.setIfInBounds_toArray, List.set_cons_zero, List.set_cons_succ]
  refine anyH_pureG 7 (d := 5) (op := .assign (.tmp 24)) (gd := none) (.slice (some ⟨b, off + 9, none⟩) 32 (cap - 9)) (by rfl) (fun o ho => wanted_plain ho _) (by kernel_rfl) (by kernel_rfl) (by kernel_rfl) (fun _ _ _ h => h) (fun o ho W hW => by unfold execOp; simp only [ho]; go_simp) HS.out ?_
  simp only [Act.put, List.setIfInBounds_toArray, List.set_cons_zero, List.set_cons_succ]
  refine anyH_pureG 8 (d := 6) (op := .assign (.tmp 26)) (gd := none) (.slice (some ⟨b, off + 41, none⟩) 8 (cap - 41)) (by rfl) (fun o ho => wanted_plain ho _) (by kernel_rfl) (by kernel_rfl) (by kernel_rfl) (fun _ _ _ h => h) (fun o ho W hW => by unfold execOp; simp only [ho]; go_simp) HS.out ?_
  simp only [Act.put, List.setIfInBounds_toArray, List.set_cons_zero, List.set_cons_succ]
  refine wpAnyH_done (by kernel_rfl) ?_ _
  have HN2 := Lib.hid (HRN.out w2 HS.out.2.1)
  have HT2 := Lib.hid (HRT.out w2 HS.out.2.1)
  have HX2 := Lib.hid (HRX.out w2 HS.out.2.1)
  clear HRN HRT HRX
  have H0 := HS
  go_wp2_with (first | (go_at_call 35; (first | (with_reducible refine HN2.out.mono ?_) | (with_reducible refine HT2.out.mono ?_)); rintro e w4 ⟨rfl, rfl⟩) | (refine wpList_buildR 48 _ (by rfl) (by rfl) C (by simp only [List.map_toArray, List.map_cons, List.map_nil]; exact HBU.out) ?_) | (refine wpList_store_row (by rfl) 48 _ _ (by rfl) g C (by rfl) (by rfl) 48 C H0.out.1 HI.out rfl HO.out ?_))
  exact bodyPost_ret (results_row_tmpR rfl _ _ g 48 C (0, 0) _ (by rfl) H0.out.1.setRow Tryd.underlying48 HI.out) rfl ⟨rfl, H0.out.set.2.1⟩
set_option maxRecDepth 100000 in
set_option maxHeartbeats 8000000 in
theorem decH_t (a : Option Addr) (cap : Nat) (zs : List Nat) (w : World) (h : Rd w a 49 zs) (hcap : 49 ≤ cap) (hl : zs.getD 0 0 = 7) (hn : Numm.num 0 ((zs.drop 1).take 8) ≤ 1048576) (ht : ¬ Numm.num 0 (zs.drop 41) ≤ 1099511627776) :
    Calls Tryd.prog 19 #[.slice a 49 cap] w fun e w' => e = .returned (.tuple #[.agg (hdC hd0), .int .i64 10]) ∧ Below w.heap.size w w' := by
  obtain ⟨b, off, rfl⟩ : ∃ b off, a = some ⟨b, off, none⟩ := by
    rcases h.2.2 with h0 | ⟨b, off, e, _⟩
    · omega
    · exact ⟨b, off, e⟩
  have hb0 : b < w.heap.size := by
    rcases h.2.2 with h0 | ⟨b', off', e, hlt, _⟩
    · omega
    · cases e; exact hlt
  have HR := Lib.hid h
  have HBL := Lib.hid hb0
  have HI := Lib.hid (show (Tryd.prog.info? 48).map (·.size) = some (hdC hd0).size from by rw [hdC_size hd0_ok]; exact info_ph)
  have HBU := Lib.hid built_h0
  obtain ⟨C, hC⟩ : ∃ C, C = hdC hd0 := ⟨_, rfl⟩
  have HO := Lib.hid (hdC_one hd0)
  have HZ := Lib.hid (hdC_size hd0_ok)
  have HCC := Lib.hid hC
  rw [← hC] at HI HBU HO HZ ⊢
  have HRN := Lib.hid fun W (hW : Below w.heap.size w W) => readNum_c (some ⟨b, off + 1, none⟩) (cap - 1) ((zs.drop 1).take 8) 1048576 W (rd_at (HR.out.below hW) 1 8 (by omega)) (by omega)
  have HRT := Lib.hid fun W (hW : Below w.heap.size w W) => readNum_c (some ⟨b, off + 41, none⟩) (cap - 41) (zs.drop 41) 1099511627776 W ((HR.out.below hW).drop 41) (by omega)
  have HRX := Lib.hid fun W (hW : Below w.heap.size w W) => rd_range (rd_at (HR.out.below hW) 9 32 (by omega)) (by omega)
  have HXL := Lib.hid (show ((zs.drop 9).take 32).length = 32 from by rw [List.length_take, List.length_drop, h.1]; rfl)
  have HXB := Lib.hid (show ∀ z ∈ (zs.drop 9).take 32, z < 256 from fun z hz => h.2.1 z (List.mem_of_mem_drop (List.mem_of_mem_take hz)))
  simp only [if_pos hn, decide_eq_true hn, Int.cast_ofNat_Int] at HRN
  simp only [if_neg ht, decide_eq_false ht, Int.cast_ofNat_Int] at HRT
  obtain ⟨n, hn2⟩ : ∃ n, n = Numm.num 0 ((zs.drop 1).take 8) := ⟨_, rfl⟩
  obtain ⟨m, hm2⟩ : ∃ n, n = Numm.num 0 (zs.drop 41) := ⟨_, rfl⟩
  obtain ⟨x, hx2⟩ : ∃ x, x = (zs.drop 9).take 32 := ⟨_, rfl⟩
  rw [← hn2] at HRN
  rw [← hx2] at HRX HXL HXB
  clear hC h hb0 hn ht hn2 hm2 hx2
  go_enter Tryd.func19, Tryd.ntmps19
  go_upto_region 1 with (fail)
  obtain ⟨g, hg⟩ : ∃ g, g = w.heap.size := ⟨_, rfl⟩
  refine gen_codeR (F := Bq w g 48 C) (by rw [hg, HCC.out]; exact Bq.new _ _ _) ?_
  rw [← hg]
  intro w0 hb0
  have H0 := Lib.hid hb0
  clear hg hb0 HCC
  have c0 : w0.cell? ⟨b, off, none⟩ = some (.int .u8 ((zs.getD 0 0 : Nat) : Int)) := by
    rcases (HR.out.below H0.out.2.1).2.2 with h0 | ⟨b', off', e, _, hc⟩
    · omega
    · cases e; exact hc 0 (by omega)
  rw [hl] at c0
  clear hl
  go_upto_region 3 with fail
  have HS0 := Lib.hid (show Bq w g 48 C w0.drew from H0.out.step (below_drewN' _ w0 1))
  refine anyH_begin (S := Bq w g 48 C) (by kernel_rfl) ?_
  obtain ⟨w2, hw2⟩ : ∃ w2, w2 = w0.drew := ⟨_, rfl⟩
  have HS := Lib.hid (show Bq w g 48 C w2 from by rw [hw2]; exact HS0.out)
  rw [← hw2]
  clear hw2 HS0 H0 c0
  refine anyH_pureG 0 (d := 21) (op := .move (.tmp 0)) (gd := none) (.slice (some ⟨b, off, none⟩) 49 cap) (by rfl) (fun o ho => wanted_plain ho _) (by kernel_rfl) (by kernel_rfl) (by kernel_rfl) (fun _ _ _ h => h) (fun o ho W hW => by unfold execOp; simp only [ho]; go_simp) HS.out ?_
  simp only [Act.put, List.setIfInBounds_toArray, List.set_cons_zero, List.set_cons_succ]
  refine anyH_pureG 1 (d := 22) (op := .slice 25 (.tmp 21) (some (.const (.int .i64 1))) (some (.const (.int .i64 9))) none) (gd := none) (.slice (some ⟨b, off + 1, none⟩) 8 (cap - 1)) (by rfl) (fun o ho => wanted_plain ho _) (by kernel_rfl) (by kernel_rfl) (by kernel_rfl) (fun _ _ _ h => h) (fun o ho W hW => exec_midR (len := 49) (cap := cap) (k := 1) (M := 9) (j := 8) (by omega) (by omega) (by omega) (by omega) (by rfl) (by rfl) (by rfl) o ho W) HS.out ?_
  simp only [Act.put, List.setIfInBounds_toArray, List.set_cons_zero, List.set_cons_succ]
  refine anyH_pureG 2 (d := 23) (op := .move (.tmp 0)) (gd := none) (.slice (some ⟨b, off, none⟩) 49 cap) (by rfl) (fun o ho => wanted_plain ho _) (by kernel_rfl) (by kernel_rfl) (by kernel_rfl) (fun _ _ _ h => h) (fun o ho W hW => by unfold execOp; simp only [ho]; go_simp) HS.out ?_
  simp only [Act.put, List.setIfInBounds_toArray, List.set_cons_zero, List.set_cons_succ]
  refine anyH_pureG 3 (d := 24) (op := .slice 25 (.tmp 23) (some (.const (.int .i64 9))) (some (.const (.int .i64 41))) none) (gd := none) (.slice (some ⟨b, off + 9, none⟩) 32 (cap - 9)) (by rfl) (fun o ho => wanted_plain ho _) (by kernel_rfl) (by kernel_rfl) (by kernel_rfl) (fun _ _ _ h => h) (fun o ho W hW => exec_midR (len := 49) (cap := cap) (k := 9) (M := 41) (j := 32) (by omega) (by omega) (by omega) (by omega) (by rfl) (by rfl) (by rfl) o ho W) HS.out ?_
  simp only [Act.put, List.setIfInBounds_toArray, List.set_cons_zero, List.set_cons_succ]
  refine anyH_pureG 4 (d := 25) (op := .move (.tmp 0)) (gd := none) (.slice (some ⟨b, off, none⟩) 49 cap) (by rfl) (fun o ho => wanted_plain ho _) (by kernel_rfl) (by kernel_rfl) (by kernel_rfl) (fun _ _ _ h => h) (fun o ho W hW => by unfold execOp; simp only [ho]; go_simp) HS.out ?_
  simp only [Act.put, List.setIfInBounds_toArray, List.set_cons_zero, List.set_cons_succ]
  refine anyH_pureG 5 (d := 26) (op := .slice 25 (.tmp 25) (some (.const (.int .i64 41))) none none) (gd := none) (.slice (some ⟨b, off + 41, none⟩) 8 (cap - 41)) (by rfl) (fun o ho => wanted_plain ho _) (by kernel_rfl) (by kernel_rfl) (by kernel_rfl) (fun _ _ _ h => h) (fun o ho W hW => exec_cutR (len := 49) (cap := cap) (k := 41) (j := 8) (by omega) (by omega) (by omega) (by rfl) (by rfl) o ho W) HS.out ?_
  simp only [Act.put, List.setIfInBounds_toArray, List.set_cons_zero, List.set_cons_succ]
  refine anyH_pureG 6 (d := 4) (op := .assign (.tmp 22)) (gd := none) (.slice (some ⟨b, off + 1, none⟩) 8 (cap - 1)) (by rfl) (fun o ho => wanted_plain ho _) (by kernel_rfl) (by kernel_rfl) (by kernel_rfl) (fun _ _ _ h => h) (fun o ho W hW => by unfold execOp; simp only [ho]; go_simp) HS.out ?_
  simp only [Act.put, List.setIfInBounds_toArray, List.set_cons_zero, List.set_cons_succ]
  refine anyH_pureG 7 (d := 5) (op := .assign (.tmp 24)) (gd := none) (.slice (some ⟨b, off + 9, none⟩) 32 (cap - 9)) (by rfl) (fun o ho => wanted_plain ho _) (by kernel_rfl) (by kernel_rfl) (by kernel_rfl) (fun _ _ _ h => h) (fun o ho W hW => by unfold execOp; simp only [ho]; go_simp) HS.out ?_
  simp only [Act.put, List.setIfInBounds_toArray, List.set_cons_zero, List.set_cons_succ]
  refine anyH_pureG 8 (d := 6) (op := .assign (.tmp 26)) (gd := none) (.slice (some ⟨b, off + 41, none⟩) 8 (cap - 41)) (by rfl) (fun o ho => wanted_plain ho _) (by kernel_rfl) (by kernel_rfl) (by kernel_rfl) (fun _ _ _ h => h) (fun o ho W hW => by unfold execOp; simp only [ho]; go_simp) HS.out ?_
  simp only [Act.put, List.setIfInBounds_toArray, List.set_cons_zero, List.set_cons_succ]
  refine wpAnyH_done (by kernel_rfl) ?_ _
  have HN2 := Lib.hid (HRN.out w2 HS.out.2.1)
  have HT2 := Lib.hid (HRT.out w2 HS.out.2.1)
  have HX2 := Lib.hid (HRX.out w2 HS.out.2.1)
  clear HRN HRT HRX
  have H0 := HS
  go_wp2_with (first | (go_at_call 35; (first | (with_reducible refine HN2.out.mono ?_) | (with_reducible refine HT2.out.mono ?_)); rintro e w4 ⟨rfl, rfl⟩) | (refine wpList_buildR 48 _ (by rfl) (by rfl) C (by simp only [List.map_toArray, List.map_cons, List.map_nil]; exact HBU.out) ?_) | (refine wpList_store_row (by rfl) 48 _ _ (by rfl) g C (by rfl) (by rfl) 48 C H0.out.1 HI.out rfl HO.out ?_))
  exact bodyPost_ret (results_row_tmpR rfl _ _ g 48 C (0, 0) _ (by rfl) H0.out.1.setRow Tryd.underlying48 HI.out) rfl ⟨rfl, H0.out.set.2.1⟩
set_option maxRecDepth 100000 in
set_option maxHeartbeats 8000000 in
theorem decH_ok (a : Option Addr) (cap : Nat) (zs : List Nat) (w : World) (h : Rd w a 49 zs) (hcap : 49 ≤ cap) (hl : zs.getD 0 0 = 7) (hn : Numm.num 0 ((zs.drop 1).take 8) ≤ 1048576) (ht : Numm.num 0 (zs.drop 41) ≤ 1099511627776) :
    Calls Tryd.prog 19 #[.slice a 49 cap] w fun e w' => e = .returned (.tuple #[.agg (hdC ⟨(Numm.num 0 ((zs.drop 1).take 8) : Nat), (zs.drop 9).take 32, (Numm.num 0 (zs.drop 41) : Nat)⟩), .int .i64 0]) ∧ Below w.heap.size w w' := by
  obtain ⟨b, off, rfl⟩ : ∃ b off, a = some ⟨b, off, none⟩ := by
    rcases h.2.2 with h0 | ⟨b, off, e, _⟩
    · omega
    · exact ⟨b, off, e⟩
  have hb0 : b < w.heap.size := by
    rcases h.2.2 with h0 | ⟨b', off', e, hlt, _⟩
    · omega
    · cases e; exact hlt
  have HR := Lib.hid h
  have HBL := Lib.hid hb0
  have HI := Lib.hid (show (Tryd.prog.info? 48).map (·.size) = some (hdC hd0).size from by rw [hdC_size hd0_ok]; exact info_ph)
  have HBU := Lib.hid built_h0
  obtain ⟨C, hC⟩ : ∃ C, C = hdC hd0 := ⟨_, rfl⟩
  have HO := Lib.hid (hdC_one hd0)
  have HZ := Lib.hid (hdC_size hd0_ok)
  have HCC := Lib.hid hC
  rw [← hC] at HI HBU HO HZ
  have HRN := Lib.hid fun W (hW : Below w.heap.size w W) => readNum_c (some ⟨b, off + 1, none⟩) (cap - 1) ((zs.drop 1).take 8) 1048576 W (rd_at (HR.out.below hW) 1 8 (by omega)) (by omega)
  have HRT := Lib.hid fun W (hW : Below w.heap.size w W) => readNum_c (some ⟨b, off + 41, none⟩) (cap - 41) (zs.drop 41) 1099511627776 W ((HR.out.below hW).drop 41) (by omega)
  have HRX := Lib.hid fun W (hW : Below w.heap.size w W) => rd_range (rd_at (HR.out.below hW) 9 32 (by omega)) (by omega)
  have HXL := Lib.hid (show ((zs.drop 9).take 32).length = 32 from by rw [List.length_take, List.length_drop, h.1]; rfl)
  have HXB := Lib.hid (show ∀ z ∈ (zs.drop 9).take 32, z < 256 from fun z hz => h.2.1 z (List.mem_of_mem_drop (List.mem_of_mem_take hz)))
  simp only [if_pos hn, decide_eq_true hn, Int.cast_ofNat_Int] at HRN
  simp only [if_pos ht, decide_eq_true ht, Int.cast_ofNat_Int] at HRT
  obtain ⟨n, hn2⟩ : ∃ n, n = Numm.num 0 ((zs.drop 1).take 8) := ⟨_, rfl⟩
  obtain ⟨m, hm2⟩ : ∃ n, n = Numm.num 0 (zs.drop 41) := ⟨_, rfl⟩
  obtain ⟨x, hx2⟩ : ∃ x, x = (zs.drop 9).take 32 := ⟨_, rfl⟩
  rw [← hn2] at HRN
  rw [← hm2] at HRT
  rw [← hn2, ← hm2, ← hx2]
  rw [← hx2] at HRX HXL HXB
  clear hC h hb0 hn ht hn2 hm2 hx2
  have HIX := Lib.hid (show (Tryd.prog.info? 48).map (·.size) = some (hdC ⟨n, x, m⟩).size from by rw [hdC_size ⟨HXL.out, HXB.out⟩]; exact info_ph)
  have HOX := Lib.hid (hdC_one ⟨n, x, m⟩)
  have HZX := Lib.hid (hdC_size (r := ⟨n, x, m⟩) ⟨HXL.out, HXB.out⟩)
  have HBX := Lib.hid (built_ph n m x HXL.out)
  obtain ⟨D, hD⟩ : ∃ D, D = hdC ⟨n, x, m⟩ := ⟨_, rfl⟩
  rw [← hD] at HIX HOX HBX HZX ⊢
  clear hD
  go_enter Tryd.func19, Tryd.ntmps19
  go_upto_region 1 with (fail)
  obtain ⟨g, hg⟩ : ∃ g, g = w.heap.size := ⟨_, rfl⟩
  refine gen_codeR (F := Bq w g 48 C) (by rw [hg, HCC.out]; exact Bq.new _ _ _) ?_
  rw [← hg]
  intro w0 hb0
  have H0 := Lib.hid hb0
  clear hg hb0 HCC
  have c0 : w0.cell? ⟨b, off, none⟩ = some (.int .u8 ((zs.getD 0 0 : Nat) : Int)) := by
    rcases (HR.out.below H0.out.2.1).2.2 with h0 | ⟨b', off', e, _, hc⟩
    · omega
    · cases e; exact hc 0 (by omega)
  rw [hl] at c0
  clear hl
  go_upto_region 3 with fail
  have HS0 := Lib.hid (show Bq w g 48 C w0.drew from H0.out.step (below_drewN' _ w0 1))
  refine anyH_begin (S := Bq w g 48 C) (by kernel_rfl) ?_
  obtain ⟨w2, hw2⟩ : ∃ w2, w2 = w0.drew := ⟨_, rfl⟩
  have HS := Lib.hid (show Bq w g 48 C w2 from by rw [hw2]; exact HS0.out)
  rw [← hw2]
  clear hw2 HS0 H0 c0
  refine anyH_pureG 0 (d := 21) (op := .move (.tmp 0)) (gd := none) (.slice (some ⟨b, off, none⟩) 49 cap) (by rfl) (fun o ho => wanted_plain ho _) (by kernel_rfl) (by kernel_rfl) (by kernel_rfl) (fun _ _ _ h => h) (fun o ho W hW => by unfold execOp; simp only [ho]; go_simp) HS.out ?_
  simp only [Act.put, List.setIfInBounds_toArray, List.set_cons_zero, List.set_cons_succ]
  refine anyH_pureG 1 (d := 22) (op := .slice 25 (.tmp 21) (some (.const (.int .i64 1))) (some (.const (.int .i64 9))) none) (gd := none) (.slice (some ⟨b, off + 1, none⟩) 8 (cap - 1)) (by rfl) (fun o ho => wanted_plain ho _) (by kernel_rfl) (by kernel_rfl) (by kernel_rfl) (fun _ _ _ h => h) (fun o ho W hW => exec_midR (len := 49) (cap := cap) (k := 1) (M := 9) (j := 8) (by omega) (by omega) (by omega) (by omega) (by rfl) (by rfl) (by rfl) o ho W) HS.out ?_
  simp only [Act.put, List.setIfInBounds_toArray, List.set_cons_zero, List.set_cons_succ]
  refine anyH_pureG 2 (d := 23) (op := .move (.tmp 0)) (gd := none) (.slice (some ⟨b, off, none⟩) 49 cap) (by rfl) (fun o ho => wanted_plain ho _) (by kernel_rfl) (by kernel_rfl) (by kernel_rfl) (fun _ _ _ h => h) (fun o ho W hW => by unfold execOp; simp only [ho]; go_simp) HS.out ?_
  simp only [Act.put, List.setIfInBounds_toArray, List.set_cons_zero, List.set_cons_succ]
  refine anyH_pureG 3 (d := 24) (op := .slice 25 (.tmp 23) (some (.const (.int .i64 9))) (some (.const (.int .i64 41))) none) (gd := none) (.slice (some ⟨b, off + 9, none⟩) 32 (cap - 9)) (by rfl) (fun o ho => wanted_plain ho _) (by kernel_rfl) (by kernel_rfl) (by kernel_rfl) (fun _ _ _ h => h) (fun o ho W hW => exec_midR (len := 49) (cap := cap) (k := 9) (M := 41) (j := 32) (by omega) (by omega) (by omega) (by omega) (by rfl) (by rfl) (by rfl) o ho W) HS.out ?_
  simp only [Act.put, List.setIfInBounds_toArray, List.set_cons_zero, List.set_cons_succ]
  refine anyH_pureG 4 (d := 25) (op := .move (.tmp 0)) (gd := none) (.slice (some ⟨b, off, none⟩) 49 cap) (by rfl) (fun o ho => wanted_plain ho _) (by kernel_rfl) (by kernel_rfl) (by kernel_rfl) (fun _ _ _ h => h) (fun o ho W hW => by unfold execOp; simp only [ho]; go_simp) HS.out ?_
  simp only [Act.put, List.setIfInBounds_toArray, List.set_cons_zero, List.set_cons_succ]
  refine anyH_pureG 5 (d := 26) (op := .slice 25 (.tmp 25) (some (.const (.int .i64 41))) none none) (gd := none) (.slice (some ⟨b, off + 41, none⟩) 8 (cap - 41)) (by rfl) (fun o ho => wanted_plain ho _) (by kernel_rfl) (by kernel_rfl) (by kernel_rfl) (fun _ _ _ h => h) (fun o ho W hW => exec_cutR (len := 49) (cap := cap) (k := 41) (j := 8) (by omega) (by omega) (by omega) (by rfl) (by rfl) o ho W) HS.out ?_
  simp only [Act.put, List.setIfInBounds_toArray, List.set_cons_zero, List.set_cons_succ]
  refine anyH_pureG 6 (d := 4) (op := .assign (.tmp 22)) (gd := none) (.slice (some ⟨b, off + 1, none⟩) 8 (cap - 1)) (by rfl) (fun o ho => wanted_plain ho _) (by kernel_rfl) (by kernel_rfl) (by kernel_rfl) (fun _ _ _ h => h) (fun o ho W hW => by unfold execOp; simp only [ho]; go_simp) HS.out ?_
  simp only [Act.put, List.setIfInBounds_toArray, List.set_cons_zero, List.set_cons_succ]
  refine anyH_pureG 7 (d := 5) (op := .assign (.tmp 24)) (gd := none) (.slice (some ⟨b, off + 9, none⟩) 32 (cap - 9)) (by rfl) (fun o ho => wanted_plain ho _) (by kernel_rfl) (by kernel_rfl) (by kernel_rfl) (fun _ _ _ h => h) (fun o ho W hW => by unfold execOp; simp only [ho]; go_simp) HS.out ?_
  simp only [Act.put, List.setIfInBounds_toArray, List.set_cons_zero, List.set_cons_succ]
  refine anyH_pureG 8 (d := 6) (op := .assign (.tmp 26)) (gd := none) (.slice (some ⟨b, off + 41, none⟩) 8 (cap - 41)) (by rfl) (fun o ho => wanted_plain ho _) (by kernel_rfl) (by kernel_rfl) (by kernel_rfl) (fun _ _ _ h => h) (fun o ho W hW => by unfold execOp; simp only [ho]; go_simp) HS.out ?_
  simp only [Act.put, List.setIfInBounds_toArray, List.set_cons_zero, List.set_cons_succ]
  refine wpAnyH_done (by kernel_rfl) ?_ _
  have HN2 := Lib.hid (HRN.out w2 HS.out.2.1)
  have HT2 := Lib.hid (HRT.out w2 HS.out.2.1)
  have HX2 := Lib.hid (HRX.out w2 HS.out.2.1)
  clear HRN HRT HRX
  go_wp2_with (first | (go_at_call 35; (first | (with_reducible refine HN2.out.mono ?_) | (with_reducible refine HT2.out.mono ?_)); rintro e w4 ⟨rfl, rfl⟩) | (refine wpList_runR (by rfl) _ (exec_arrR und_dg (by rfl) _ rfl _) ?_) | (refine wpList_runR (by rfl) _ (exec_ldMid HX2.out HXL.out und_dg info_dg (by rfl) _ rfl) ?_) | (refine wpList_buildR 48 _ (by rfl) (by rfl) D (by simp only [List.map_toArray, List.map_cons, List.map_nil]; exact HBX.out) ?_) | (refine wpList_store_row (by rfl) 48 _ _ (by rfl) g D (by rfl) (by rfl) 48 C HS.out.1 HIX.out (by rw [HZX.out, HZ.out]) HOX.out ?_))
  exact bodyPost_ret (results_row_tmpR rfl _ _ g 48 D (0, 0) _ (by rfl) HS.out.1.setRow Tryd.underlying48 HIX.out) rfl ⟨rfl, HS.out.set.2.1⟩
/-- the head of any bytes -/
theorem decH_c (a : Option Addr) (len cap : Nat) (zs : List Nat) (w : World) (h : Rd w a len zs) (hcap : len ≤ cap) :
    Calls Tryd.prog 19 #[.slice a len cap] w (DH w (hdecL zs)) := by
  have no : hdecL zs = none → Calls Tryd.prog 19 #[.slice a len cap] w (fun e w' => e = .returned (.tuple #[.agg (hdC hd0), .int .i64 10]) ∧ Below w.heap.size w w') → Calls Tryd.prog 19 #[.slice a len cap] w (DH w (hdecL zs)) := fun hn hc => by
    rw [hn]
    exact hc
  have hzl := h.1
  by_cases h1 : len = 49
  · subst h1
    by_cases h2 : zs.getD 0 0 = 7
    · by_cases h3 : Numm.num 0 ((zs.drop 1).take 8) ≤ 1048576
      · by_cases h4 : Numm.num 0 (zs.drop 41) ≤ 1099511627776
        · have e : hdecL zs = some ⟨(Numm.num 0 ((zs.drop 1).take 8) : Nat), (zs.drop 9).take 32, (Numm.num 0 (zs.drop 41) : Nat)⟩ := if_pos ⟨hzl, h2, h3, h4⟩
          rw [e]
          exact decH_ok a cap zs w h hcap h2 h3 h4
        · exact no (if_neg fun hh => h4 hh.2.2.2) (decH_t a cap zs w h hcap h2 h3 h4)
      · by_cases h4 : Numm.num 0 (zs.drop 41) ≤ 1099511627776
        · exact no (if_neg fun hh => h3 hh.2.2.1) (decH_n a cap zs w h hcap h2 h3 h4)
        · exact no (if_neg fun hh => h3 hh.2.2.1) (decH_nt a cap zs w h hcap h2 h3 h4)
    · exact no (if_neg fun hh => h2 hh.2.1) (decH_mark a cap zs w h h2)
  · exact no (if_neg fun hh => h1 (by rw [← hzl]; exact hh.1)) (decH_len a len cap zs w h h1)
end Go.Proofs.YtjjkfbebaoikbaaDoor.Rc
