/-
  The program's record of any bytes.
-/
import Derived.Test.YtjjkfbebaoikbaaDoorRci
import Derived.Laws.IdiomCopy
namespace Go.Proofs.YtjjkfbebaoikbaaDoor.Rc
open Go.RowKit Go.Proofs.Nm Go.Proofs.YtjjkfbebaoikbaaDoor
set_option linter.unusedVariables false
theorem exec_headS {a : Option Addr} {len cap k : Nat} (hk : k ≤ cap) {A : Act} {x y : Operand} (hx : A.eval x = .slice a len cap) (hy : A.eval y = .int .i64 (k : Int)) (o : Oper) (ho : o.op = .slice 25 x none (some y) none) (W : World) :
    (execOp A.eval o).run Tryd.prog W = .ok (.value (.slice a k cap)) W := by
  unfold execOp
  simp only [ho, hx, hy, Option.map_none, Option.map_some]
  rw [Sem.run_bind, run_headAt W a len cap k hk]
  rfl
theorem exec_copyR {P : Program} {a : Act} {o : Oper} {w w' : World} {x y : Operand} {t s : TypeId} {v u r : Value} (ho : o.op = .call { callee := .builtin .copy, args := #[x, y], argTypes := #[t, s] }) (hx : a.eval x = v) (hy : a.eval y = u)
    (hr : (Builtin.copy_ #[t, s] o.type #[v, u]).run P w = .ok r w') : (execOp a.eval o).run P w = .ok (.value r) w' := by
  unfold execOp
  simp only [ho]
  rw [Sem.run_bind]
  unfold resolve
  simp only [Sem.run_pure, Result.andThen_ok, invoke, builtin, List.map_toArray, List.map_cons, List.map_nil, hx, hy]
  rw [Sem.run_bind, hr]
  rfl
/-- an operation that has no other beside it, by its run -/
theorem anyH_runR {P : Program} {ops : Array Oper} {Q : Exit → Act → World → Prop} {md : Region.Mode} {S : World → Prop} (i : Nat) {d : Option Tmp} {op : Op} {v : Value} {w' : World} {fuel : Nat} {listed : Array Bool} {a : Act} {w : World} (h0 : Region.ready md ops listed = [i])
    (hi : (ops[i]?.map fun o => (o.dst, o.op, o.guard)) = some (d, op, none)) (hr : ∀ o : Oper, o.op = op → (execOp a.eval o).run P w = .ok (.value v) w') (hS : S w')
    (h : wpAnyH P md ops Q S fuel (listed.setIfInBounds i true) (a.put d v) w') : wpAnyH P md ops Q S (fuel + 1) listed a w := by
  refine anyH_oneT i h0 hi fun o hod hoo => ?_
  unfold Oper.wp
  rw [hr o hoo]
  rw [← hod] at h
  exact ⟨hS, h⟩
theorem recC_dig (k t : Int) (a b : List UInt8) (x y : List Nat) (hx : x.length = 32) (hy : y.length = 32) : ((recC ⟨k, a, b, x, t⟩).toList.take 3 ++ cellsOf y ++ (recC ⟨k, a, b, x, t⟩).toList.drop (3 + (cellsOf y).length)).toArray = recC ⟨k, a, b, y, t⟩ := by
  rw [recC_list, recC_list]
  simp only
  have e1 : ([Value.int .i64 k, Value.string (T a), Value.string (T b)] ++ (cellsOf x ++ [Value.int .i64 t])).drop (3 + (cellsOf y).length) = [Value.int .i64 t] := by
    rw [← List.append_assoc]
    exact List.drop_left' (by rw [List.length_append, cellsOf_length, cellsOf_length, hx, hy]; rfl)
  have e2 : ([Value.int .i64 k, Value.string (T a), Value.string (T b)] ++ (cellsOf x ++ [Value.int .i64 t])).take 3 = [Value.int .i64 k, Value.string (T a), Value.string (T b)] := rfl
  rw [e1, e2, List.append_assoc]
theorem recC_time (k t u : Int) (a b : List UInt8) (x : List Nat) (hx : x.length = 32) : (recC ⟨k, a, b, x, t⟩).setIfInBounds 35 (.int .i64 u) = recC ⟨k, a, b, x, u⟩ := by
  apply Array.toList_inj.1
  rw [Array.toList_setIfInBounds, recC_list, recC_list]
  simp only
  rw [List.set_append_right _ _ (by simp), List.set_append_right _ _ (by rw [cellsOf_length, hx]; simp), cellsOf_length, hx]
  rfl
/-- what Decode answers -/
def DR (w : World) (r : Option Rcv) (e : Ending) (w' : World) : Prop := e = .returned (.tuple #[.agg (recC (r.getD rc0)), .int .i64 (if r.isSome then 0 else 10)]) ∧ Below w.heap.size w w'
theorem nmL_at {zs rest : List Nat} {r : Rcv} (hz : ∀ z ∈ zs, z < 256) (h : nmL zs = some (r, rest)) : ∃ (k : Int) (a b : List UInt8), r = ⟨k, a, b, zs32, 0⟩ ∧ SzR r ∧ ∀ z ∈ rest, z < 256 := by
  obtain ⟨h1, h2, h3, h4, h5, h6, h7, h8⟩ := nmL_some hz h
  obtain ⟨k, a, b, x, t⟩ := r
  simp only at h1 h2
  subst h1 h2
  exact ⟨k, a, b, rfl, ⟨by simp only at h5 ⊢; omega, by simp only at h6 ⊢; omega⟩, h8⟩
set_option maxRecDepth 100000 in
set_option maxHeartbeats 8000000 in
theorem dec_none (a : Option Addr) (len cap : Nat) (zs : List Nat) (w : World) (h : Rd w a len zs) (hcap : len ≤ cap) (hm : len ≤ 140737488355328) (hm0 : cap ≤ 9223372036854775807) (hn : nmL zs = none) :
    Calls Tryd.prog 14 #[.slice a len cap] w (fun e w' => e = .returned (.tuple #[.agg (recC rc0), .int .i64 10]) ∧ Below w.heap.size w w') := by
  have HNM := Lib.hid fun W (hW : Below w.heap.size w W) => named_c a len cap zs W (h.below hW) hcap hm hm0
  rw [hn] at HNM
  unfold NM at HNM
  have HI := Lib.hid (show (Tryd.prog.info? 31).map (·.size) = some (recC rc0).size from by rw [recC_size rc0_ok]; exact info_p)
  have HBU := Lib.hid built_r0
  obtain ⟨C, hC⟩ : ∃ C, C = recC rc0 := ⟨_, rfl⟩
  have HO := Lib.hid (recC_one rc0)
  have HZ := Lib.hid (recC_size rc0_ok)
  have HCC := Lib.hid hC
  rw [← hC] at HI HBU HO HZ HNM ⊢
  clear hC
  clear h hn
  go_enter Tryd.func14, Tryd.ntmps14
  go_upto_region 1 with (fail)
  obtain ⟨g, hg⟩ : ∃ g, g = w.heap.size := ⟨_, rfl⟩
  refine gen_codeR (F := Bq w g 31 C) (by rw [hg, HCC.out]; exact Bq.new _ _ _) ?_
  rw [← hg]
  intro w0 hb0
  have H0 := Lib.hid hb0
  have HNC := Lib.hid (HNM.out w0 H0.out.2.1)
  clear hg hb0 HNM
  go_upto_region 2 with (first | (go_at_call 34; refine HNC.out.mono ?_; rintro e w1 ⟨rfl, hb⟩; have H1 := Lib.hid (H0.out.step hb); have HNB := Lib.hid (show RW (w1.alloc (.cells C 31 (0, 0))) w1.heap.size 31 C from RW.new _ _ _); rw [HCC.out] at HNB; clear hb) | (refine wpList_store_row (by rfl) 31 _ _ (by rfl) w1.heap.size C (by rfl) (by rfl) 31 (recC rc0) (by exact HNB.out) HI.out (by rw [recC_size rc0_ok, HZ.out]) HO.out ?_))
  obtain ⟨j, hj⟩ : ∃ j, j = w1.heap.size := ⟨_, rfl⟩
  refine gen_codeR (F := D2 w g j 31 C C) (by rw [hj]; exact (D2.mk' (D := recC rc0) H1.out).row) ?_
  rw [← hj]
  intro w2 hd2
  have H2 := Lib.hid hd2
  clear hj hd2 H0 H1 HNC HNB
  go_wp2_with (first | (refine wpList_buildR 31 _ (by rfl) (by rfl) C (by simp only [List.map_toArray, List.map_cons, List.map_nil]; exact HBU.out) ?_) | (refine wpList_store_row (by rfl) 31 _ _ (by rfl) g C (by rfl) (by rfl) 31 C H2.out.a HI.out rfl HO.out ?_))
  exact bodyPost_ret (results_row_tmpR rfl _ _ g 31 C (0, 0) _ (by rfl) H2.out.a.setRow Tryd.underlying31 HI.out) rfl ⟨rfl, H2.out.res.2.1⟩
theorem exec_ldRow {W : World} {g : Nat} {t : TypeId} {C : Array Value} {fs : Array Field} (h : RW W g t C) (hu : Tryd.prog.underlying t = some (.struct fs)) (hi : (Tryd.prog.info? t).map (·.size) = some C.size) {A : Act} {y : Operand} (hy : A.eval y = .pointer (some ⟨g, 0, none⟩)) (o : Oper) (ho : o.op = .load t y) :
    (execOp A.eval o).run Tryd.prog W = .ok (.value (.agg C)) W := by
  unfold execOp
  simp only [ho, hy, h.load hu hi, Sem.run_bind, Result.andThen_ok, Sem.run_pure]
/-- a result's box, and another one, whatever it has -/
def DS (w : World) (g j : Nat) (t : TypeId) (C : Array Value) (W : World) : Prop := ∃ D, D2 w g j t C D W
set_option maxRecDepth 100000 in
set_option maxHeartbeats 8000000 in
theorem dec1_len (a : Option Addr) (len cap : Nat) (zs : List Nat) (w : World) (h : Rd w a len zs) (hcap : len ≤ cap) (hm : len ≤ 140737488355328) (hm0 : cap ≤ 9223372036854775807) (repo tag : List UInt8) (rest : List Nat) (hn : nmL zs = some (⟨1, repo, tag, zs32, 0⟩, rest)) (hl : rest.length ≠ 40) :
    Calls Tryd.prog 14 #[.slice a len cap] w (fun e w' => e = .returned (.tuple #[.agg (recC rc0), .int .i64 10]) ∧ Below w.heap.size w w') := by
  have hbz := h.2.1
  have HR0 := Lib.hid h
  obtain ⟨-, -, -, -, hp5, hp6, -, hp8⟩ := nmL_some hbz hn
  simp only at hp5 hp6
  have HNM := Lib.hid fun W (hW : Below w.heap.size w W) => named_c a len cap zs W (h.below hW) hcap hm hm0
  rw [hn] at HNM
  unfold NM at HNM
  simp only at HNM
  have HIR := Lib.hid (show (Tryd.prog.info? 31).map (·.size) = some (recC ⟨1, repo, tag, zs32, 0⟩).size from by rw [recC_size dOk_zs]; exact info_p)
  have HOR := Lib.hid (recC_one ⟨1, repo, tag, zs32, 0⟩)
  have HZR := Lib.hid (recC_size (r := ⟨1, repo, tag, zs32, 0⟩) dOk_zs)
  obtain ⟨D0, hD0⟩ : ∃ D, D = recC ⟨1, repo, tag, zs32, 0⟩ := ⟨_, rfl⟩
  rw [← hD0] at HNM HIR HOR HZR
  have HD0 := Lib.hid hD0
  clear hD0
  have HI := Lib.hid (show (Tryd.prog.info? 31).map (·.size) = some (recC rc0).size from by rw [recC_size rc0_ok]; exact info_p)
  have HBU := Lib.hid built_r0
  obtain ⟨C, hC⟩ : ∃ C, C = recC rc0 := ⟨_, rfl⟩
  have HO := Lib.hid (recC_one rc0)
  have HZ := Lib.hid (recC_size rc0_ok)
  have HCC := Lib.hid hC
  rw [← hC] at HI HBU HO HZ ⊢
  clear hC
  have hl2 : ¬ (rest.length : Int) = 40 := by omega
  obtain ⟨L, hL⟩ : ∃ L, L = rest.length := ⟨_, rfl⟩
  rw [← hL] at HNM hl hl2
  clear hL hl
  clear h hn hbz hp5 hp6 hp8
  go_enter Tryd.func14, Tryd.ntmps14
  go_upto_region 1 with (fail)
  obtain ⟨g, hg⟩ : ∃ g, g = w.heap.size := ⟨_, rfl⟩
  refine gen_codeR (F := Bq w g 31 C) (by rw [hg, HCC.out]; exact Bq.new _ _ _) ?_
  rw [← hg]
  intro w0 hb0
  have H0 := Lib.hid hb0
  have HNC := Lib.hid (HNM.out w0 H0.out.2.1)
  clear hg hb0 HNM
  go_upto_region 2 with (first | (go_at_call 34; refine HNC.out.mono ?_; rintro e w1 ⟨a1, c1, rfl, hlc, hnil, hrd, hb⟩; have H1 := Lib.hid (H0.out.step hb); have HNL := Lib.hid hnil; have HNB := Lib.hid (show RW (w1.alloc (.cells C 31 (0, 0))) w1.heap.size 31 C from RW.new _ _ _); rw [HCC.out] at HNB; clear hb hrd hnil) | (refine wpList_store_row (by rfl) 31 _ _ (by rfl) w1.heap.size D0 (by rfl) (by rfl) 31 (recC rc0) (by exact HNB.out) HIR.out (by rw [recC_size rc0_ok, HZR.out]) HOR.out ?_))
  obtain ⟨j, hj⟩ : ∃ j, j = w1.heap.size := ⟨_, rfl⟩
  refine gen_codeR (F := D2 w g j 31 C (recC ⟨1, repo, tag, zs32, 0⟩)) (by rw [hj, ← HD0.out]; exact (D2.mk' (D := recC rc0) H1.out).row) ?_
  rw [← hj]
  intro w2 hd2
  have H2 := Lib.hid hd2
  have c0 := H2.out.b.c0
  clear hj hd2 HNC HNB
  go_wp2_with (first | (refine wpList_buildR 31 _ (by rfl) (by rfl) C (by simp only [List.map_toArray, List.map_cons, List.map_nil]; exact HBU.out) ?_) | (refine wpList_store_row (by rfl) 31 _ _ (by rfl) g C (by rfl) (by rfl) 31 C H2.out.a HI.out rfl HO.out ?_))
  exact bodyPost_ret (results_row_tmpR rfl _ _ g 31 C (0, 0) _ (by rfl) H2.out.a.setRow Tryd.underlying31 HI.out) rfl ⟨rfl, H2.out.res.2.1⟩
set_option maxRecDepth 100000 in
set_option maxHeartbeats 8000000 in
theorem dec1_num (a : Option Addr) (len cap : Nat) (zs : List Nat) (w : World) (h : Rd w a len zs) (hcap : len ≤ cap) (hm : len ≤ 140737488355328) (hm0 : cap ≤ 9223372036854775807) (repo tag : List UInt8) (rest : List Nat) (hn : nmL zs = some (⟨1, repo, tag, zs32, 0⟩, rest)) (hl : rest.length = 40) (hx : ¬ (Numm.num 0 (rest.drop 32)) ≤ 1099511627776) :
    Calls Tryd.prog 14 #[.slice a len cap] w (fun e w' => e = .returned (.tuple #[.agg (recC rc0), .int .i64 10]) ∧ Below w.heap.size w w') := by
  have hbz := h.2.1
  have HR0 := Lib.hid h
  obtain ⟨-, -, -, -, hp5, hp6, -, hp8⟩ := nmL_some hbz hn
  simp only at hp5 hp6
  have HNM := Lib.hid fun W (hW : Below w.heap.size w W) => named_c a len cap zs W (h.below hW) hcap hm hm0
  rw [hn] at HNM
  unfold NM at HNM
  simp only at HNM
  have HIR := Lib.hid (show (Tryd.prog.info? 31).map (·.size) = some (recC ⟨1, repo, tag, zs32, 0⟩).size from by rw [recC_size dOk_zs]; exact info_p)
  have HOR := Lib.hid (recC_one ⟨1, repo, tag, zs32, 0⟩)
  have HZR := Lib.hid (recC_size (r := ⟨1, repo, tag, zs32, 0⟩) dOk_zs)
  obtain ⟨D0, hD0⟩ : ∃ D, D = recC ⟨1, repo, tag, zs32, 0⟩ := ⟨_, rfl⟩
  rw [← hD0] at HNM HIR HOR HZR
  have HD0 := Lib.hid hD0
  clear hD0
  obtain ⟨m, hm2⟩ : ∃ m, m = (Numm.num 0 (rest.drop 32)) := ⟨_, rfl⟩
  have HM2 := Lib.hid hm2
  obtain ⟨y, hy⟩ : ∃ y, y = rest.take 32 := ⟨_, rfl⟩
  have HYL := Lib.hid (show y.length = 32 from by rw [hy]; rw [List.length_take]; omega)
  have HYB := Lib.hid (show ∀ z ∈ y, z < 256 from by rw [hy]; exact fun z hz => hp8 z (List.mem_of_mem_take hz))
  have HY := Lib.hid hy
  rw [← hm2] at hx
  clear hm2 hy
  have HI := Lib.hid (show (Tryd.prog.info? 31).map (·.size) = some (recC rc0).size from by rw [recC_size rc0_ok]; exact info_p)
  have HBU := Lib.hid built_r0
  obtain ⟨C, hC⟩ : ∃ C, C = recC rc0 := ⟨_, rfl⟩
  have HO := Lib.hid (recC_one rc0)
  have HZ := Lib.hid (recC_size rc0_ok)
  have HCC := Lib.hid hC
  rw [← hC] at HI HBU HO HZ ⊢
  clear hC
  obtain ⟨L, hL⟩ : ∃ L, L = rest.length := ⟨_, rfl⟩
  rw [← hL] at HNM hl
  subst hl
  have HL := Lib.hid hL
  clear hL
  clear h hn hbz hp5 hp6 hp8
  go_enter Tryd.func14, Tryd.ntmps14
  go_upto_region 1 with (fail)
  obtain ⟨g, hg⟩ : ∃ g, g = w.heap.size := ⟨_, rfl⟩
  refine gen_codeR (F := Bq w g 31 C) (by rw [hg, HCC.out]; exact Bq.new _ _ _) ?_
  rw [← hg]
  intro w0 hb0
  have H0 := Lib.hid hb0
  have HNC := Lib.hid (HNM.out w0 H0.out.2.1)
  clear hg hb0 HNM
  go_upto_region 2 with (first | (go_at_call 34; refine HNC.out.mono ?_; rintro e w1 ⟨a1, c1, rfl, hlc, hnil, hrd, hb⟩; have H1 := Lib.hid (H0.out.step hb); have HNL := Lib.hid hnil; have HRY := Lib.hid (fun W (hW : Below w.heap.size w W) => hrd W (HR0.out.below hW)); have HNB := Lib.hid (show RW (w1.alloc (.cells C 31 (0, 0))) w1.heap.size 31 C from RW.new _ _ _); rw [HCC.out] at HNB; clear hb hrd hnil) | (refine wpList_store_row (by rfl) 31 _ _ (by rfl) w1.heap.size D0 (by rfl) (by rfl) 31 (recC rc0) (by exact HNB.out) HIR.out (by rw [recC_size rc0_ok, HZR.out]) HOR.out ?_))
  obtain ⟨j, hj⟩ : ∃ j, j = w1.heap.size := ⟨_, rfl⟩
  refine gen_codeR (F := D2 w g j 31 C (recC ⟨1, repo, tag, zs32, 0⟩)) (by rw [hj, ← HD0.out]; exact (D2.mk' (D := recC rc0) H1.out).row) ?_
  rw [← hj]
  intro w2 hd2
  have H2 := Lib.hid hd2
  have c0 := H2.out.b.c0
  clear hj hd2 HNC HNB
  go_upto_region 9 with fail
  have HS0 := Lib.hid (show D2 w g j 31 C (recC ⟨1, repo, tag, zs32, 0⟩) w2.drew from H2.out.step (below_drewN' _ w2 1))
  refine anyH_begin (S := DS w g j 31 C) (by kernel_rfl) ?_
  obtain ⟨w3, hw3⟩ : ∃ w3, w3 = w2.drew := ⟨_, rfl⟩
  have H3 := Lib.hid (show D2 w g j 31 C (recC ⟨1, repo, tag, zs32, 0⟩) w3 from by rw [hw3]; exact HS0.out)
  have HS := Lib.hid (show DS w g j 31 C w3 from ⟨_, H3.out⟩)
  rw [← hw3]
  clear hw3 HS0 H2 c0
  refine anyH_pureG 0 (d := 26) (op := .fieldAddr 31 (.tmp 4) 3) (gd := none) (.pointer (some ⟨j, 3, none⟩)) (by rfl) (fun o ho => wanted_plain ho _) (by kernel_rfl) (by kernel_rfl) (by kernel_rfl) (fun _ _ _ h => h) (fun o ho W hW => by unfold execOp; simp only [ho]; go_simp) HS.out ?_
  simp only [Act.put, List.setIfInBounds_toArray, List.set_cons_zero, List.set_cons_succ]
  refine anyH_pureG 1 (d := 27) (op := .slice 29 (.tmp 26) none none none) (gd := none) (.slice (some ⟨j, 3, none⟩) 32 32) (by rfl) (fun o ho => wanted_plain ho _) (by kernel_rfl) (by kernel_rfl) (by kernel_rfl) (fun _ _ _ h => h) (fun o ho W hW => by unfold execOp; simp only [ho]; simp [run_digAll W j 3, Act.eval]) HS.out ?_
  simp only [Act.put, List.setIfInBounds_toArray, List.set_cons_zero, List.set_cons_succ]
  refine anyH_pureG 2 (d := 28) (op := .move (.tmp 5)) (gd := none) (.slice a1 40 c1) (by rfl) (fun o ho => wanted_plain ho _) (by kernel_rfl) (by kernel_rfl) (by kernel_rfl) (fun _ _ _ h => h) (fun o ho W hW => by unfold execOp; simp only [ho]; go_simp) HS.out ?_
  simp only [Act.put, List.setIfInBounds_toArray, List.set_cons_zero, List.set_cons_succ]
  refine anyH_pureG 3 (d := 29) (op := .move (.tmp 7)) (gd := none) (.int .i64 32) (by rfl) (fun o ho => wanted_plain ho _) (by kernel_rfl) (by kernel_rfl) (by kernel_rfl) (fun _ _ _ h => h) (fun o ho W hW => by unfold execOp; simp only [ho]; go_simp) HS.out ?_
  simp only [Act.put, List.setIfInBounds_toArray, List.set_cons_zero, List.set_cons_succ]
  refine anyH_pureG 4 (d := 30) (op := .slice 25 (.tmp 28) none (some (.tmp 29)) none) (gd := none) (.slice a1 32 c1) (by rfl) (fun o ho => wanted_plain ho _) (by kernel_rfl) (by kernel_rfl) (by kernel_rfl) (fun _ _ _ h => h) (fun o ho W hW => exec_headS (k := 32) (by omega) (by rfl) (by rfl) o ho W) HS.out ?_
  simp only [Act.put, List.setIfInBounds_toArray, List.set_cons_zero, List.set_cons_succ]
  obtain ⟨b1, o1, ha1⟩ : ∃ b o, a1 = some ⟨b, o, none⟩ := by
    rcases (HRY.out w0 H0.out.2.1).2.2 with h0 | ⟨b, o, e, _⟩
    · omega
    · exact ⟨b, o, e⟩
  subst ha1
  obtain ⟨w4, hrun, h4⟩ : ∃ w4, (∀ ty, (Builtin.copy_ #[25, 25] ty #[.slice (some ⟨j, 3, none⟩) 32 32, .slice (some ⟨b1, o1, none⟩) 32 c1]).run Tryd.prog w3 = .ok (.int .i64 32) w4) ∧ D2 w g j 31 C (recC ⟨1, repo, tag, y, 0⟩) w4 := by
    obtain ⟨i0, hi, hz0, hz1, hz2⟩ := info_parts byteInfo
    have hrd := (HRY.out w3 H3.out.below).take 32 (by omega)
    rw [← HY.out] at hrd
    refine ⟨w3.setRow j (recC ⟨1, repo, tag, y, 0⟩), fun ty => ?_, H3.out.row⟩
    have hrun := run_copy_row (P := Tryd.prog) w3 25 25 ty 5 j 3 32 32 ⟨b1, o1, none⟩ 32 c1 (recC ⟨1, repo, tag, zs32, 0⟩) 31 (cellsOf y) Tryd.underlying25 (by rw [hi]; simp [hz1]) H3.out.b (by rw [cellsOf_length, HYL.out]; rfl)
      (fun i v hv => by
        have hil := (List.getElem?_eq_some_iff.1 hv).1
        rw [cellsOf_length] at hil
        rw [cellsOf_get y i hil] at hv
        cases hv
        rw [Addr.add_mid]
        rcases hrd.2.2 with h0 | ⟨b', o', e, _, hc⟩
        · omega
        · cases e
          exact hc i (by rw [← HYL.out]; exact hil)) (by rw [cellsOf_length, HYL.out, recC_size dOk_zs]; omega) (cellsOf_one y)
    rw [recC_dig _ _ _ _ _ _ zs32_len HYL.out, cellsOf_length, HYL.out] at hrun
    exact hrun
  have H4 := Lib.hid h4
  refine anyH_runR 5 (d := some 31) (op := .call { callee := .builtin .copy, args := #[(.tmp 27), (.tmp 30)], argTypes := #[25, 25] }) (v := .int .i64 32) (w' := w4) (by kernel_rfl) (by rfl) (fun o ho => ?_) ⟨_, h4⟩ ?_
  · exact exec_copyR ho (by rfl) (by rfl) (hrun o.type)
  simp only [Act.put, List.setIfInBounds_toArray, List.set_cons_zero, List.set_cons_succ]
  refine wpAnyH_done (by kernel_rfl) ?_ _
  have c35 := H4.out.b.c35 ⟨HYL.out, HYB.out⟩
  have f35 := H4.out.b.fz 35
  simp only at c35
  have HS5 := Lib.hid (show D2 w g j 31 C (recC ⟨1, repo, tag, y, 0⟩) (w4.setCell ⟨j, 35, none⟩ (.int .i64 0)) from by
    have h := H4.out.cell 35 (.int .i64 0)
    rw [recC_time _ _ _ _ _ _ HYL.out] at h
    exact h)
  have HRN := Lib.hid (readNum_c (sla (some ⟨b1, o1, none⟩) c1 32) (c1 - 32) (rest.drop 32) 1099511627776 w4 ((HRY.out w4 H4.out.below).cut c1 32 (by omega) hlc) (by omega))
  rw [← HM2.out] at HRN
  simp only [if_neg hx, decide_eq_false hx, Int.cast_ofNat_Int] at HRN
  obtain ⟨A4, hA4⟩ : ∃ A, A = sla (some ⟨b1, o1, none⟩) c1 32 := ⟨_, rfl⟩
  rw [← hA4] at HRN
  have HA4 := Lib.hid hA4
  clear hrun h4 hA4 H3 HS
  go_upto_region 11 with (first | (refine wpList_runR (by rfl) (.slice A4 8 (c1 - 32)) (by rw [HA4.out]; exact exec_cutS (a := some ⟨b1, o1, none⟩) (len := 40) (cap := c1) (k := 32) (by omega) (by rfl) (by rfl) _ rfl _) ?_) | (go_at_call 35; refine HRN.out.mono ?_; rintro e w5 ⟨rfl, rfl⟩))
  refine gen_codeR (F := D2 w g j 31 C (recC ⟨1, repo, tag, y, 0⟩)) HS5.out ?_
  intro w6 hd6
  have H6 := Lib.hid hd6
  clear hd6
  go_wp2_with (first | (refine wpList_buildR 31 _ (by rfl) (by rfl) C (by simp only [List.map_toArray, List.map_cons, List.map_nil]; exact HBU.out) ?_) | (refine wpList_store_row (by rfl) 31 _ _ (by rfl) g C (by rfl) (by rfl) 31 C H6.out.a HI.out rfl HO.out ?_))
  exact bodyPost_ret (results_row_tmpR rfl _ _ g 31 C (0, 0) _ (by rfl) H6.out.a.setRow Tryd.underlying31 HI.out) rfl ⟨rfl, H6.out.res.2.1⟩
set_option maxRecDepth 100000 in
set_option maxHeartbeats 8000000 in
theorem dec1_right (a : Option Addr) (len cap : Nat) (zs : List Nat) (w : World) (h : Rd w a len zs) (hcap : len ≤ cap) (hm : len ≤ 140737488355328) (hm0 : cap ≤ 9223372036854775807) (repo tag : List UInt8) (rest : List Nat) (hn : nmL zs = some (⟨1, repo, tag, zs32, 0⟩, rest)) (hl : rest.length = 40) (hx : (Numm.num 0 (rest.drop 32)) ≤ 1099511627776) (hr : rightB ⟨1, repo, tag, rest.take 32, ((Numm.num 0 (rest.drop 32)) : Nat)⟩ = false) :
    Calls Tryd.prog 14 #[.slice a len cap] w (fun e w' => e = .returned (.tuple #[.agg (recC rc0), .int .i64 10]) ∧ Below w.heap.size w w') := by
  have hbz := h.2.1
  have HR0 := Lib.hid h
  obtain ⟨-, -, -, -, hp5, hp6, -, hp8⟩ := nmL_some hbz hn
  simp only at hp5 hp6
  have HNM := Lib.hid fun W (hW : Below w.heap.size w W) => named_c a len cap zs W (h.below hW) hcap hm hm0
  rw [hn] at HNM
  unfold NM at HNM
  simp only at HNM
  have HIR := Lib.hid (show (Tryd.prog.info? 31).map (·.size) = some (recC ⟨1, repo, tag, zs32, 0⟩).size from by rw [recC_size dOk_zs]; exact info_p)
  have HOR := Lib.hid (recC_one ⟨1, repo, tag, zs32, 0⟩)
  have HZR := Lib.hid (recC_size (r := ⟨1, repo, tag, zs32, 0⟩) dOk_zs)
  obtain ⟨D0, hD0⟩ : ∃ D, D = recC ⟨1, repo, tag, zs32, 0⟩ := ⟨_, rfl⟩
  rw [← hD0] at HNM HIR HOR HZR
  have HD0 := Lib.hid hD0
  clear hD0
  obtain ⟨m, hm2⟩ : ∃ m, m = (Numm.num 0 (rest.drop 32)) := ⟨_, rfl⟩
  have HM2 := Lib.hid hm2
  obtain ⟨y, hy⟩ : ∃ y, y = rest.take 32 := ⟨_, rfl⟩
  have HYL := Lib.hid (show y.length = 32 from by rw [hy]; rw [List.length_take]; omega)
  have HYB := Lib.hid (show ∀ z ∈ y, z < 256 from by rw [hy]; exact fun z hz => hp8 z (List.mem_of_mem_take hz))
  have HY := Lib.hid hy
  rw [← hm2, ← hy] at hr
  have HRT := Lib.hid fun W => right_c ⟨1, repo, tag, y, m⟩ ⟨HYL.out, HYB.out⟩ ⟨by simp only; omega, by simp only; omega⟩ W
  rw [hr] at HRT
  have HIQ := Lib.hid (show (Tryd.prog.info? 31).map (·.size) = some (recC ⟨1, repo, tag, y, m⟩).size from by rw [recC_size ⟨HYL.out, HYB.out⟩]; exact info_p)
  have HOQ := Lib.hid (recC_one ⟨1, repo, tag, y, m⟩)
  have HZQ := Lib.hid (recC_size (r := ⟨1, repo, tag, y, m⟩) ⟨HYL.out, HYB.out⟩)
  rw [← hm2] at hx
  obtain ⟨D9, hD9⟩ : ∃ D, D = recC ⟨1, repo, tag, y, m⟩ := ⟨_, rfl⟩
  rw [← hD9] at HRT HIQ HOQ HZQ
  have HD9 := Lib.hid hD9
  clear hD9 hr
  clear hm2 hy
  have HI := Lib.hid (show (Tryd.prog.info? 31).map (·.size) = some (recC rc0).size from by rw [recC_size rc0_ok]; exact info_p)
  have HBU := Lib.hid built_r0
  obtain ⟨C, hC⟩ : ∃ C, C = recC rc0 := ⟨_, rfl⟩
  have HO := Lib.hid (recC_one rc0)
  have HZ := Lib.hid (recC_size rc0_ok)
  have HCC := Lib.hid hC
  rw [← hC] at HI HBU HO HZ ⊢
  clear hC
  obtain ⟨L, hL⟩ : ∃ L, L = rest.length := ⟨_, rfl⟩
  rw [← hL] at HNM hl
  subst hl
  have HL := Lib.hid hL
  clear hL
  clear h hn hbz hp5 hp6 hp8
  go_enter Tryd.func14, Tryd.ntmps14
  go_upto_region 1 with (fail)
  obtain ⟨g, hg⟩ : ∃ g, g = w.heap.size := ⟨_, rfl⟩
  refine gen_codeR (F := Bq w g 31 C) (by rw [hg, HCC.out]; exact Bq.new _ _ _) ?_
  rw [← hg]
  intro w0 hb0
  have H0 := Lib.hid hb0
  have HNC := Lib.hid (HNM.out w0 H0.out.2.1)
  clear hg hb0 HNM
  go_upto_region 2 with (first | (go_at_call 34; refine HNC.out.mono ?_; rintro e w1 ⟨a1, c1, rfl, hlc, hnil, hrd, hb⟩; have H1 := Lib.hid (H0.out.step hb); have HNL := Lib.hid hnil; have HRY := Lib.hid (fun W (hW : Below w.heap.size w W) => hrd W (HR0.out.below hW)); have HNB := Lib.hid (show RW (w1.alloc (.cells C 31 (0, 0))) w1.heap.size 31 C from RW.new _ _ _); rw [HCC.out] at HNB; clear hb hrd hnil) | (refine wpList_store_row (by rfl) 31 _ _ (by rfl) w1.heap.size D0 (by rfl) (by rfl) 31 (recC rc0) (by exact HNB.out) HIR.out (by rw [recC_size rc0_ok, HZR.out]) HOR.out ?_))
  obtain ⟨j, hj⟩ : ∃ j, j = w1.heap.size := ⟨_, rfl⟩
  refine gen_codeR (F := D2 w g j 31 C (recC ⟨1, repo, tag, zs32, 0⟩)) (by rw [hj, ← HD0.out]; exact (D2.mk' (D := recC rc0) H1.out).row) ?_
  rw [← hj]
  intro w2 hd2
  have H2 := Lib.hid hd2
  have c0 := H2.out.b.c0
  clear hj hd2 HNC HNB
  go_upto_region 9 with fail
  have HS0 := Lib.hid (show D2 w g j 31 C (recC ⟨1, repo, tag, zs32, 0⟩) w2.drew from H2.out.step (below_drewN' _ w2 1))
  refine anyH_begin (S := DS w g j 31 C) (by kernel_rfl) ?_
  obtain ⟨w3, hw3⟩ : ∃ w3, w3 = w2.drew := ⟨_, rfl⟩
  have H3 := Lib.hid (show D2 w g j 31 C (recC ⟨1, repo, tag, zs32, 0⟩) w3 from by rw [hw3]; exact HS0.out)
  have HS := Lib.hid (show DS w g j 31 C w3 from ⟨_, H3.out⟩)
  rw [← hw3]
  clear hw3 HS0 H2 c0
  refine anyH_pureG 0 (d := 26) (op := .fieldAddr 31 (.tmp 4) 3) (gd := none) (.pointer (some ⟨j, 3, none⟩)) (by rfl) (fun o ho => wanted_plain ho _) (by kernel_rfl) (by kernel_rfl) (by kernel_rfl) (fun _ _ _ h => h) (fun o ho W hW => by unfold execOp; simp only [ho]; go_simp) HS.out ?_
  simp only [Act.put, List.setIfInBounds_toArray, List.set_cons_zero, List.set_cons_succ]
  refine anyH_pureG 1 (d := 27) (op := .slice 29 (.tmp 26) none none none) (gd := none) (.slice (some ⟨j, 3, none⟩) 32 32) (by rfl) (fun o ho => wanted_plain ho _) (by kernel_rfl) (by kernel_rfl) (by kernel_rfl) (fun _ _ _ h => h) (fun o ho W hW => by unfold execOp; simp only [ho]; simp [run_digAll W j 3, Act.eval]) HS.out ?_
  simp only [Act.put, List.setIfInBounds_toArray, List.set_cons_zero, List.set_cons_succ]
  refine anyH_pureG 2 (d := 28) (op := .move (.tmp 5)) (gd := none) (.slice a1 40 c1) (by rfl) (fun o ho => wanted_plain ho _) (by kernel_rfl) (by kernel_rfl) (by kernel_rfl) (fun _ _ _ h => h) (fun o ho W hW => by unfold execOp; simp only [ho]; go_simp) HS.out ?_
  simp only [Act.put, List.setIfInBounds_toArray, List.set_cons_zero, List.set_cons_succ]
  refine anyH_pureG 3 (d := 29) (op := .move (.tmp 7)) (gd := none) (.int .i64 32) (by rfl) (fun o ho => wanted_plain ho _) (by kernel_rfl) (by kernel_rfl) (by kernel_rfl) (fun _ _ _ h => h) (fun o ho W hW => by unfold execOp; simp only [ho]; go_simp) HS.out ?_
  simp only [Act.put, List.setIfInBounds_toArray, List.set_cons_zero, List.set_cons_succ]
  refine anyH_pureG 4 (d := 30) (op := .slice 25 (.tmp 28) none (some (.tmp 29)) none) (gd := none) (.slice a1 32 c1) (by rfl) (fun o ho => wanted_plain ho _) (by kernel_rfl) (by kernel_rfl) (by kernel_rfl) (fun _ _ _ h => h) (fun o ho W hW => exec_headS (k := 32) (by omega) (by rfl) (by rfl) o ho W) HS.out ?_
  simp only [Act.put, List.setIfInBounds_toArray, List.set_cons_zero, List.set_cons_succ]
  obtain ⟨b1, o1, ha1⟩ : ∃ b o, a1 = some ⟨b, o, none⟩ := by
    rcases (HRY.out w0 H0.out.2.1).2.2 with h0 | ⟨b, o, e, _⟩
    · omega
    · exact ⟨b, o, e⟩
  subst ha1
  obtain ⟨w4, hrun, h4⟩ : ∃ w4, (∀ ty, (Builtin.copy_ #[25, 25] ty #[.slice (some ⟨j, 3, none⟩) 32 32, .slice (some ⟨b1, o1, none⟩) 32 c1]).run Tryd.prog w3 = .ok (.int .i64 32) w4) ∧ D2 w g j 31 C (recC ⟨1, repo, tag, y, 0⟩) w4 := by
    obtain ⟨i0, hi, hz0, hz1, hz2⟩ := info_parts byteInfo
    have hrd := (HRY.out w3 H3.out.below).take 32 (by omega)
    rw [← HY.out] at hrd
    refine ⟨w3.setRow j (recC ⟨1, repo, tag, y, 0⟩), fun ty => ?_, H3.out.row⟩
    have hrun := run_copy_row (P := Tryd.prog) w3 25 25 ty 5 j 3 32 32 ⟨b1, o1, none⟩ 32 c1 (recC ⟨1, repo, tag, zs32, 0⟩) 31 (cellsOf y) Tryd.underlying25 (by rw [hi]; simp [hz1]) H3.out.b (by rw [cellsOf_length, HYL.out]; rfl)
      (fun i v hv => by
        have hil := (List.getElem?_eq_some_iff.1 hv).1
        rw [cellsOf_length] at hil
        rw [cellsOf_get y i hil] at hv
        cases hv
        rw [Addr.add_mid]
        rcases hrd.2.2 with h0 | ⟨b', o', e, _, hc⟩
        · omega
        · cases e
          exact hc i (by rw [← HYL.out]; exact hil)) (by rw [cellsOf_length, HYL.out, recC_size dOk_zs]; omega) (cellsOf_one y)
    rw [recC_dig _ _ _ _ _ _ zs32_len HYL.out, cellsOf_length, HYL.out] at hrun
    exact hrun
  have H4 := Lib.hid h4
  refine anyH_runR 5 (d := some 31) (op := .call { callee := .builtin .copy, args := #[(.tmp 27), (.tmp 30)], argTypes := #[25, 25] }) (v := .int .i64 32) (w' := w4) (by kernel_rfl) (by rfl) (fun o ho => ?_) ⟨_, h4⟩ ?_
  · exact exec_copyR ho (by rfl) (by rfl) (hrun o.type)
  simp only [Act.put, List.setIfInBounds_toArray, List.set_cons_zero, List.set_cons_succ]
  refine wpAnyH_done (by kernel_rfl) ?_ _
  have c35 := H4.out.b.c35 ⟨HYL.out, HYB.out⟩
  have f35 := H4.out.b.fz 35
  simp only at c35
  have HS5 := Lib.hid (show D2 w g j 31 C (recC ⟨1, repo, tag, y, (m : Int)⟩) (w4.setCell ⟨j, 35, none⟩ (.int .i64 (m : Int))) from by
    have h := H4.out.cell 35 (.int .i64 (m : Int))
    rw [recC_time _ _ _ _ _ _ HYL.out] at h
    exact h)
  have HRN := Lib.hid (readNum_c (sla (some ⟨b1, o1, none⟩) c1 32) (c1 - 32) (rest.drop 32) 1099511627776 w4 ((HRY.out w4 H4.out.below).cut c1 32 (by omega) hlc) (by omega))
  rw [← HM2.out] at HRN
  simp only [if_pos hx, decide_eq_true hx, Int.cast_ofNat_Int] at HRN
  obtain ⟨A4, hA4⟩ : ∃ A, A = sla (some ⟨b1, o1, none⟩) c1 32 := ⟨_, rfl⟩
  rw [← hA4] at HRN
  have HA4 := Lib.hid hA4
  clear hrun h4 hA4 H3 HS
  go_upto_region 11 with (first | (refine wpList_runR (by rfl) (.slice A4 8 (c1 - 32)) (by rw [HA4.out]; exact exec_cutS (a := some ⟨b1, o1, none⟩) (len := 40) (cap := c1) (k := 32) (by omega) (by rfl) (by rfl) _ rfl _) ?_) | (go_at_call 35; refine HRN.out.mono ?_; rintro e w5 ⟨rfl, rfl⟩))
  refine gen_codeR (F := D2 w g j 31 C D9) (by rw [HD9.out]; exact HS5.out) ?_
  intro w6 hd6
  have H6 := Lib.hid hd6
  clear hd6
  go_wp2_with (first | (refine wpList_runR (by rfl) (.agg D9) (exec_ldRow H6.out.b Tryd.underlying31 HIQ.out (by rfl) _ rfl) ?_) | (go_at_call 11; (refine (HRT.out _).mono ?_); rintro e w7 ⟨rfl, hb⟩; have H7 := Lib.hid (H6.out.step hb); clear hb) | (refine wpList_buildR 31 _ (by rfl) (by rfl) C (by simp only [List.map_toArray, List.map_cons, List.map_nil]; exact HBU.out) ?_) | (refine wpList_store_row (by rfl) 31 _ _ (by rfl) g C (by rfl) (by rfl) 31 C H7.out.a HI.out rfl HO.out ?_))
  exact bodyPost_ret (results_row_tmpR rfl _ _ g 31 C (0, 0) _ (by rfl) H7.out.a.setRow Tryd.underlying31 HI.out) rfl ⟨rfl, H7.out.res.2.1⟩
set_option maxRecDepth 100000 in
set_option maxHeartbeats 8000000 in
theorem dec1_ok (a : Option Addr) (len cap : Nat) (zs : List Nat) (w : World) (h : Rd w a len zs) (hcap : len ≤ cap) (hm : len ≤ 140737488355328) (hm0 : cap ≤ 9223372036854775807) (repo tag : List UInt8) (rest : List Nat) (hn : nmL zs = some (⟨1, repo, tag, zs32, 0⟩, rest)) (hl : rest.length = 40) (hx : (Numm.num 0 (rest.drop 32)) ≤ 1099511627776) (hr : rightB ⟨1, repo, tag, rest.take 32, ((Numm.num 0 (rest.drop 32)) : Nat)⟩ = true) :
    Calls Tryd.prog 14 #[.slice a len cap] w (fun e w' => e = .returned (.tuple #[.agg (recC ⟨1, repo, tag, rest.take 32, ((Numm.num 0 (rest.drop 32)) : Nat)⟩), .int .i64 0]) ∧ Below w.heap.size w w') := by
  have hbz := h.2.1
  have HR0 := Lib.hid h
  obtain ⟨-, -, -, -, hp5, hp6, -, hp8⟩ := nmL_some hbz hn
  simp only at hp5 hp6
  have HNM := Lib.hid fun W (hW : Below w.heap.size w W) => named_c a len cap zs W (h.below hW) hcap hm hm0
  rw [hn] at HNM
  unfold NM at HNM
  simp only at HNM
  have HIR := Lib.hid (show (Tryd.prog.info? 31).map (·.size) = some (recC ⟨1, repo, tag, zs32, 0⟩).size from by rw [recC_size dOk_zs]; exact info_p)
  have HOR := Lib.hid (recC_one ⟨1, repo, tag, zs32, 0⟩)
  have HZR := Lib.hid (recC_size (r := ⟨1, repo, tag, zs32, 0⟩) dOk_zs)
  obtain ⟨D0, hD0⟩ : ∃ D, D = recC ⟨1, repo, tag, zs32, 0⟩ := ⟨_, rfl⟩
  rw [← hD0] at HNM HIR HOR HZR
  have HD0 := Lib.hid hD0
  clear hD0
  obtain ⟨m, hm2⟩ : ∃ m, m = (Numm.num 0 (rest.drop 32)) := ⟨_, rfl⟩
  have HM2 := Lib.hid hm2
  obtain ⟨y, hy⟩ : ∃ y, y = rest.take 32 := ⟨_, rfl⟩
  have HYL := Lib.hid (show y.length = 32 from by rw [hy]; rw [List.length_take]; omega)
  have HYB := Lib.hid (show ∀ z ∈ y, z < 256 from by rw [hy]; exact fun z hz => hp8 z (List.mem_of_mem_take hz))
  have HY := Lib.hid hy
  rw [← hm2, ← hy] at hr
  have HRT := Lib.hid fun W => right_c ⟨1, repo, tag, y, m⟩ ⟨HYL.out, HYB.out⟩ ⟨by simp only; omega, by simp only; omega⟩ W
  rw [hr] at HRT
  have HIQ := Lib.hid (show (Tryd.prog.info? 31).map (·.size) = some (recC ⟨1, repo, tag, y, m⟩).size from by rw [recC_size ⟨HYL.out, HYB.out⟩]; exact info_p)
  have HOQ := Lib.hid (recC_one ⟨1, repo, tag, y, m⟩)
  have HZQ := Lib.hid (recC_size (r := ⟨1, repo, tag, y, m⟩) ⟨HYL.out, HYB.out⟩)
  rw [← hm2, ← hy]
  rw [← hm2] at hx
  obtain ⟨D9, hD9⟩ : ∃ D, D = recC ⟨1, repo, tag, y, m⟩ := ⟨_, rfl⟩
  rw [← hD9] at HRT HIQ HOQ HZQ ⊢
  have HD9 := Lib.hid hD9
  clear hD9 hr
  clear hm2 hy
  have HI := Lib.hid (show (Tryd.prog.info? 31).map (·.size) = some (recC rc0).size from by rw [recC_size rc0_ok]; exact info_p)
  have HBU := Lib.hid built_r0
  obtain ⟨C, hC⟩ : ∃ C, C = recC rc0 := ⟨_, rfl⟩
  have HO := Lib.hid (recC_one rc0)
  have HZ := Lib.hid (recC_size rc0_ok)
  have HCC := Lib.hid hC
  rw [← hC] at HI HBU HO HZ
  clear hC
  obtain ⟨L, hL⟩ : ∃ L, L = rest.length := ⟨_, rfl⟩
  rw [← hL] at HNM hl
  subst hl
  have HL := Lib.hid hL
  clear hL
  clear h hn hbz hp5 hp6 hp8
  go_enter Tryd.func14, Tryd.ntmps14
  go_upto_region 1 with (fail)
  obtain ⟨g, hg⟩ : ∃ g, g = w.heap.size := ⟨_, rfl⟩
  refine gen_codeR (F := Bq w g 31 C) (by rw [hg, HCC.out]; exact Bq.new _ _ _) ?_
  rw [← hg]
  intro w0 hb0
  have H0 := Lib.hid hb0
  have HNC := Lib.hid (HNM.out w0 H0.out.2.1)
  clear hg hb0 HNM
  go_upto_region 2 with (first | (go_at_call 34; refine HNC.out.mono ?_; rintro e w1 ⟨a1, c1, rfl, hlc, hnil, hrd, hb⟩; have H1 := Lib.hid (H0.out.step hb); have HNL := Lib.hid hnil; have HRY := Lib.hid (fun W (hW : Below w.heap.size w W) => hrd W (HR0.out.below hW)); have HNB := Lib.hid (show RW (w1.alloc (.cells C 31 (0, 0))) w1.heap.size 31 C from RW.new _ _ _); rw [HCC.out] at HNB; clear hb hrd hnil) | (refine wpList_store_row (by rfl) 31 _ _ (by rfl) w1.heap.size D0 (by rfl) (by rfl) 31 (recC rc0) (by exact HNB.out) HIR.out (by rw [recC_size rc0_ok, HZR.out]) HOR.out ?_))
  obtain ⟨j, hj⟩ : ∃ j, j = w1.heap.size := ⟨_, rfl⟩
  refine gen_codeR (F := D2 w g j 31 C (recC ⟨1, repo, tag, zs32, 0⟩)) (by rw [hj, ← HD0.out]; exact (D2.mk' (D := recC rc0) H1.out).row) ?_
  rw [← hj]
  intro w2 hd2
  have H2 := Lib.hid hd2
  have c0 := H2.out.b.c0
  clear hj hd2 HNC HNB
  go_upto_region 9 with fail
  have HS0 := Lib.hid (show D2 w g j 31 C (recC ⟨1, repo, tag, zs32, 0⟩) w2.drew from H2.out.step (below_drewN' _ w2 1))
  refine anyH_begin (S := DS w g j 31 C) (by kernel_rfl) ?_
  obtain ⟨w3, hw3⟩ : ∃ w3, w3 = w2.drew := ⟨_, rfl⟩
  have H3 := Lib.hid (show D2 w g j 31 C (recC ⟨1, repo, tag, zs32, 0⟩) w3 from by rw [hw3]; exact HS0.out)
  have HS := Lib.hid (show DS w g j 31 C w3 from ⟨_, H3.out⟩)
  rw [← hw3]
  clear hw3 HS0 H2 c0
  refine anyH_pureG 0 (d := 26) (op := .fieldAddr 31 (.tmp 4) 3) (gd := none) (.pointer (some ⟨j, 3, none⟩)) (by rfl) (fun o ho => wanted_plain ho _) (by kernel_rfl) (by kernel_rfl) (by kernel_rfl) (fun _ _ _ h => h) (fun o ho W hW => by unfold execOp; simp only [ho]; go_simp) HS.out ?_
  simp only [Act.put, List.setIfInBounds_toArray, List.set_cons_zero, List.set_cons_succ]
  refine anyH_pureG 1 (d := 27) (op := .slice 29 (.tmp 26) none none none) (gd := none) (.slice (some ⟨j, 3, none⟩) 32 32) (by rfl) (fun o ho => wanted_plain ho _) (by kernel_rfl) (by kernel_rfl) (by kernel_rfl) (fun _ _ _ h => h) (fun o ho W hW => by unfold execOp; simp only [ho]; simp [run_digAll W j 3, Act.eval]) HS.out ?_
  simp only [Act.put, List.setIfInBounds_toArray, List.set_cons_zero, List.set_cons_succ]
  refine anyH_pureG 2 (d := 28) (op := .move (.tmp 5)) (gd := none) (.slice a1 40 c1) (by rfl) (fun o ho => wanted_plain ho _) (by kernel_rfl) (by kernel_rfl) (by kernel_rfl) (fun _ _ _ h => h) (fun o ho W hW => by unfold execOp; simp only [ho]; go_simp) HS.out ?_
  simp only [Act.put, List.setIfInBounds_toArray, List.set_cons_zero, List.set_cons_succ]
  refine anyH_pureG 3 (d := 29) (op := .move (.tmp 7)) (gd := none) (.int .i64 32) (by rfl) (fun o ho => wanted_plain ho _) (by kernel_rfl) (by kernel_rfl) (by kernel_rfl) (fun _ _ _ h => h) (fun o ho W hW => by unfold execOp; simp only [ho]; go_simp) HS.out ?_
  simp only [Act.put, List.setIfInBounds_toArray, List.set_cons_zero, List.set_cons_succ]
  refine anyH_pureG 4 (d := 30) (op := .slice 25 (.tmp 28) none (some (.tmp 29)) none) (gd := none) (.slice a1 32 c1) (by rfl) (fun o ho => wanted_plain ho _) (by kernel_rfl) (by kernel_rfl) (by kernel_rfl) (fun _ _ _ h => h) (fun o ho W hW => exec_headS (k := 32) (by omega) (by rfl) (by rfl) o ho W) HS.out ?_
  simp only [Act.put, List.setIfInBounds_toArray, List.set_cons_zero, List.set_cons_succ]
  obtain ⟨b1, o1, ha1⟩ : ∃ b o, a1 = some ⟨b, o, none⟩ := by
    rcases (HRY.out w0 H0.out.2.1).2.2 with h0 | ⟨b, o, e, _⟩
    · omega
    · exact ⟨b, o, e⟩
  subst ha1
  obtain ⟨w4, hrun, h4⟩ : ∃ w4, (∀ ty, (Builtin.copy_ #[25, 25] ty #[.slice (some ⟨j, 3, none⟩) 32 32, .slice (some ⟨b1, o1, none⟩) 32 c1]).run Tryd.prog w3 = .ok (.int .i64 32) w4) ∧ D2 w g j 31 C (recC ⟨1, repo, tag, y, 0⟩) w4 := by
    obtain ⟨i0, hi, hz0, hz1, hz2⟩ := info_parts byteInfo
    have hrd := (HRY.out w3 H3.out.below).take 32 (by omega)
    rw [← HY.out] at hrd
    refine ⟨w3.setRow j (recC ⟨1, repo, tag, y, 0⟩), fun ty => ?_, H3.out.row⟩
    have hrun := run_copy_row (P := Tryd.prog) w3 25 25 ty 5 j 3 32 32 ⟨b1, o1, none⟩ 32 c1 (recC ⟨1, repo, tag, zs32, 0⟩) 31 (cellsOf y) Tryd.underlying25 (by rw [hi]; simp [hz1]) H3.out.b (by rw [cellsOf_length, HYL.out]; rfl)
      (fun i v hv => by
        have hil := (List.getElem?_eq_some_iff.1 hv).1
        rw [cellsOf_length] at hil
        rw [cellsOf_get y i hil] at hv
        cases hv
        rw [Addr.add_mid]
        rcases hrd.2.2 with h0 | ⟨b', o', e, _, hc⟩
        · omega
        · cases e
          exact hc i (by rw [← HYL.out]; exact hil)) (by rw [cellsOf_length, HYL.out, recC_size dOk_zs]; omega) (cellsOf_one y)
    rw [recC_dig _ _ _ _ _ _ zs32_len HYL.out, cellsOf_length, HYL.out] at hrun
    exact hrun
  have H4 := Lib.hid h4
  refine anyH_runR 5 (d := some 31) (op := .call { callee := .builtin .copy, args := #[(.tmp 27), (.tmp 30)], argTypes := #[25, 25] }) (v := .int .i64 32) (w' := w4) (by kernel_rfl) (by rfl) (fun o ho => ?_) ⟨_, h4⟩ ?_
  · exact exec_copyR ho (by rfl) (by rfl) (hrun o.type)
  simp only [Act.put, List.setIfInBounds_toArray, List.set_cons_zero, List.set_cons_succ]
  refine wpAnyH_done (by kernel_rfl) ?_ _
  have c35 := H4.out.b.c35 ⟨HYL.out, HYB.out⟩
  have f35 := H4.out.b.fz 35
  simp only at c35
  have HS5 := Lib.hid (show D2 w g j 31 C (recC ⟨1, repo, tag, y, (m : Int)⟩) (w4.setCell ⟨j, 35, none⟩ (.int .i64 (m : Int))) from by
    have h := H4.out.cell 35 (.int .i64 (m : Int))
    rw [recC_time _ _ _ _ _ _ HYL.out] at h
    exact h)
  have HRN := Lib.hid (readNum_c (sla (some ⟨b1, o1, none⟩) c1 32) (c1 - 32) (rest.drop 32) 1099511627776 w4 ((HRY.out w4 H4.out.below).cut c1 32 (by omega) hlc) (by omega))
  rw [← HM2.out] at HRN
  simp only [if_pos hx, decide_eq_true hx, Int.cast_ofNat_Int] at HRN
  obtain ⟨A4, hA4⟩ : ∃ A, A = sla (some ⟨b1, o1, none⟩) c1 32 := ⟨_, rfl⟩
  rw [← hA4] at HRN
  have HA4 := Lib.hid hA4
  clear hrun h4 hA4 H3 HS
  go_upto_region 11 with (first | (refine wpList_runR (by rfl) (.slice A4 8 (c1 - 32)) (by rw [HA4.out]; exact exec_cutS (a := some ⟨b1, o1, none⟩) (len := 40) (cap := c1) (k := 32) (by omega) (by rfl) (by rfl) _ rfl _) ?_) | (go_at_call 35; refine HRN.out.mono ?_; rintro e w5 ⟨rfl, rfl⟩))
  refine gen_codeR (F := D2 w g j 31 C D9) (by rw [HD9.out]; exact HS5.out) ?_
  intro w6 hd6
  have H6 := Lib.hid hd6
  clear hd6
  go_wp2_with (first | (go_at_call 11; (refine (HRT.out _).mono ?_); rintro e w7 ⟨rfl, hb⟩; have H7 := Lib.hid (H6.out.step hb); clear hb) | (refine wpList_runR (by rfl) (.agg D9) (exec_ldRow H7.out.b Tryd.underlying31 HIQ.out (by rfl) _ rfl) ?_) | (refine wpList_runR (by rfl) (.agg D9) (exec_ldRow H6.out.b Tryd.underlying31 HIQ.out (by rfl) _ rfl) ?_) | (refine wpList_store_row (by rfl) 31 _ _ (by rfl) g D9 (by rfl) (by rfl) 31 C H7.out.a HIQ.out (by rw [HZQ.out, HZ.out]) HOQ.out ?_))
  exact bodyPost_ret (results_row_tmpR rfl _ _ g 31 D9 (0, 0) _ (by rfl) H7.out.a.setRow Tryd.underlying31 HIQ.out) rfl ⟨rfl, H7.out.res.2.1⟩
set_option maxRecDepth 100000 in
set_option maxHeartbeats 8000000 in
theorem dec0_len (a : Option Addr) (len cap : Nat) (zs : List Nat) (w : World) (h : Rd w a len zs) (hcap : len ≤ cap) (hm : len ≤ 140737488355328) (hm0 : cap ≤ 9223372036854775807) (k : Int) (hk : ¬ k = 1) (repo tag : List UInt8) (rest : List Nat) (hn : nmL zs = some (⟨k, repo, tag, zs32, 0⟩, rest)) (hl : rest.length ≠ 8) :
    Calls Tryd.prog 14 #[.slice a len cap] w (fun e w' => e = .returned (.tuple #[.agg (recC rc0), .int .i64 10]) ∧ Below w.heap.size w w') := by
  have hbz := h.2.1
  have HR0 := Lib.hid h
  obtain ⟨-, -, -, -, hp5, hp6, -, hp8⟩ := nmL_some hbz hn
  simp only at hp5 hp6
  have HNM := Lib.hid fun W (hW : Below w.heap.size w W) => named_c a len cap zs W (h.below hW) hcap hm hm0
  rw [hn] at HNM
  unfold NM at HNM
  simp only at HNM
  have HIR := Lib.hid (show (Tryd.prog.info? 31).map (·.size) = some (recC ⟨k, repo, tag, zs32, 0⟩).size from by rw [recC_size dOk_zs]; exact info_p)
  have HOR := Lib.hid (recC_one ⟨k, repo, tag, zs32, 0⟩)
  have HZR := Lib.hid (recC_size (r := ⟨k, repo, tag, zs32, 0⟩) dOk_zs)
  obtain ⟨D0, hD0⟩ : ∃ D, D = recC ⟨k, repo, tag, zs32, 0⟩ := ⟨_, rfl⟩
  rw [← hD0] at HNM HIR HOR HZR
  have HD0 := Lib.hid hD0
  clear hD0
  have HI := Lib.hid (show (Tryd.prog.info? 31).map (·.size) = some (recC rc0).size from by rw [recC_size rc0_ok]; exact info_p)
  have HBU := Lib.hid built_r0
  obtain ⟨C, hC⟩ : ∃ C, C = recC rc0 := ⟨_, rfl⟩
  have HO := Lib.hid (recC_one rc0)
  have HZ := Lib.hid (recC_size rc0_ok)
  have HCC := Lib.hid hC
  rw [← hC] at HI HBU HO HZ ⊢
  clear hC
  have hl2 : ¬ (rest.length : Int) = 8 := by omega
  obtain ⟨L, hL⟩ : ∃ L, L = rest.length := ⟨_, rfl⟩
  rw [← hL] at HNM hl hl2
  clear hL hl
  clear h hn hbz hp5 hp6 hp8
  go_enter Tryd.func14, Tryd.ntmps14
  go_upto_region 1 with (fail)
  obtain ⟨g, hg⟩ : ∃ g, g = w.heap.size := ⟨_, rfl⟩
  refine gen_codeR (F := Bq w g 31 C) (by rw [hg, HCC.out]; exact Bq.new _ _ _) ?_
  rw [← hg]
  intro w0 hb0
  have H0 := Lib.hid hb0
  have HNC := Lib.hid (HNM.out w0 H0.out.2.1)
  clear hg hb0 HNM
  go_upto_region 2 with (first | (go_at_call 34; refine HNC.out.mono ?_; rintro e w1 ⟨a1, c1, rfl, hlc, hnil, hrd, hb⟩; have H1 := Lib.hid (H0.out.step hb); have HNL := Lib.hid hnil; have HNB := Lib.hid (show RW (w1.alloc (.cells C 31 (0, 0))) w1.heap.size 31 C from RW.new _ _ _); rw [HCC.out] at HNB; clear hb hrd hnil) | (refine wpList_store_row (by rfl) 31 _ _ (by rfl) w1.heap.size D0 (by rfl) (by rfl) 31 (recC rc0) (by exact HNB.out) HIR.out (by rw [recC_size rc0_ok, HZR.out]) HOR.out ?_))
  obtain ⟨j, hj⟩ : ∃ j, j = w1.heap.size := ⟨_, rfl⟩
  refine gen_codeR (F := D2 w g j 31 C (recC ⟨k, repo, tag, zs32, 0⟩)) (by rw [hj, ← HD0.out]; exact (D2.mk' (D := recC rc0) H1.out).row) ?_
  rw [← hj]
  intro w2 hd2
  have H2 := Lib.hid hd2
  have c0 := H2.out.b.c0
  clear hj hd2 HNC HNB
  go_wp2_with (first | (refine wpList_buildR 31 _ (by rfl) (by rfl) C (by simp only [List.map_toArray, List.map_cons, List.map_nil]; exact HBU.out) ?_) | (refine wpList_store_row (by rfl) 31 _ _ (by rfl) g C (by rfl) (by rfl) 31 C H2.out.a HI.out rfl HO.out ?_))
  exact bodyPost_ret (results_row_tmpR rfl _ _ g 31 C (0, 0) _ (by rfl) H2.out.a.setRow Tryd.underlying31 HI.out) rfl ⟨rfl, H2.out.res.2.1⟩
set_option maxRecDepth 100000 in
set_option maxHeartbeats 8000000 in
theorem dec0_num (a : Option Addr) (len cap : Nat) (zs : List Nat) (w : World) (h : Rd w a len zs) (hcap : len ≤ cap) (hm : len ≤ 140737488355328) (hm0 : cap ≤ 9223372036854775807) (k : Int) (hk : ¬ k = 1) (repo tag : List UInt8) (rest : List Nat) (hn : nmL zs = some (⟨k, repo, tag, zs32, 0⟩, rest)) (hl : rest.length = 8) (hx : ¬ (Numm.num 0 (rest.drop 0)) ≤ 1099511627776) :
    Calls Tryd.prog 14 #[.slice a len cap] w (fun e w' => e = .returned (.tuple #[.agg (recC rc0), .int .i64 10]) ∧ Below w.heap.size w w') := by
  have hbz := h.2.1
  have HR0 := Lib.hid h
  obtain ⟨-, -, -, -, hp5, hp6, -, hp8⟩ := nmL_some hbz hn
  simp only at hp5 hp6
  have HNM := Lib.hid fun W (hW : Below w.heap.size w W) => named_c a len cap zs W (h.below hW) hcap hm hm0
  rw [hn] at HNM
  unfold NM at HNM
  simp only at HNM
  have HIR := Lib.hid (show (Tryd.prog.info? 31).map (·.size) = some (recC ⟨k, repo, tag, zs32, 0⟩).size from by rw [recC_size dOk_zs]; exact info_p)
  have HOR := Lib.hid (recC_one ⟨k, repo, tag, zs32, 0⟩)
  have HZR := Lib.hid (recC_size (r := ⟨k, repo, tag, zs32, 0⟩) dOk_zs)
  obtain ⟨D0, hD0⟩ : ∃ D, D = recC ⟨k, repo, tag, zs32, 0⟩ := ⟨_, rfl⟩
  rw [← hD0] at HNM HIR HOR HZR
  have HD0 := Lib.hid hD0
  clear hD0
  obtain ⟨m, hm2⟩ : ∃ m, m = (Numm.num 0 (rest.drop 0)) := ⟨_, rfl⟩
  have HM2 := Lib.hid hm2
  obtain ⟨y, hy⟩ : ∃ y, y = zs32 := ⟨_, rfl⟩
  have HYL := Lib.hid (show y.length = 32 from by rw [hy]; exact zs32_len)
  have HYB := Lib.hid (show ∀ z ∈ y, z < 256 from by rw [hy]; exact dOk_zs.2)
  have HY := Lib.hid hy
  rw [← hm2] at hx
  clear hm2 hy
  have HI := Lib.hid (show (Tryd.prog.info? 31).map (·.size) = some (recC rc0).size from by rw [recC_size rc0_ok]; exact info_p)
  have HBU := Lib.hid built_r0
  obtain ⟨C, hC⟩ : ∃ C, C = recC rc0 := ⟨_, rfl⟩
  have HO := Lib.hid (recC_one rc0)
  have HZ := Lib.hid (recC_size rc0_ok)
  have HCC := Lib.hid hC
  rw [← hC] at HI HBU HO HZ ⊢
  clear hC
  obtain ⟨L, hL⟩ : ∃ L, L = rest.length := ⟨_, rfl⟩
  rw [← hL] at HNM hl
  subst hl
  have HL := Lib.hid hL
  clear hL
  clear h hn hbz hp5 hp6 hp8
  go_enter Tryd.func14, Tryd.ntmps14
  go_upto_region 1 with (fail)
  obtain ⟨g, hg⟩ : ∃ g, g = w.heap.size := ⟨_, rfl⟩
  refine gen_codeR (F := Bq w g 31 C) (by rw [hg, HCC.out]; exact Bq.new _ _ _) ?_
  rw [← hg]
  intro w0 hb0
  have H0 := Lib.hid hb0
  have HNC := Lib.hid (HNM.out w0 H0.out.2.1)
  clear hg hb0 HNM
  go_upto_region 2 with (first | (go_at_call 34; refine HNC.out.mono ?_; rintro e w1 ⟨a1, c1, rfl, hlc, hnil, hrd, hb⟩; have H1 := Lib.hid (H0.out.step hb); have HNL := Lib.hid hnil; have HRY := Lib.hid (fun W (hW : Below w.heap.size w W) => hrd W (HR0.out.below hW)); have HNB := Lib.hid (show RW (w1.alloc (.cells C 31 (0, 0))) w1.heap.size 31 C from RW.new _ _ _); rw [HCC.out] at HNB; clear hb hrd hnil) | (refine wpList_store_row (by rfl) 31 _ _ (by rfl) w1.heap.size D0 (by rfl) (by rfl) 31 (recC rc0) (by exact HNB.out) HIR.out (by rw [recC_size rc0_ok, HZR.out]) HOR.out ?_))
  obtain ⟨j, hj⟩ : ∃ j, j = w1.heap.size := ⟨_, rfl⟩
  refine gen_codeR (F := D2 w g j 31 C (recC ⟨k, repo, tag, zs32, 0⟩)) (by rw [hj, ← HD0.out]; exact (D2.mk' (D := recC rc0) H1.out).row) ?_
  rw [← hj]
  intro w2 hd2
  have H2 := Lib.hid hd2
  have c0 := H2.out.b.c0
  clear hj hd2 HNC HNB
  go_upto_region 9 with fail
  have HS0 := Lib.hid (show D2 w g j 31 C (recC ⟨k, repo, tag, zs32, 0⟩) w2.drew from H2.out.step (below_drewN' _ w2 1))
  refine anyH_begin (S := DS w g j 31 C) (by kernel_rfl) ?_
  obtain ⟨w3, hw3⟩ : ∃ w3, w3 = w2.drew := ⟨_, rfl⟩
  have H3 := Lib.hid (show D2 w g j 31 C (recC ⟨k, repo, tag, zs32, 0⟩) w3 from by rw [hw3]; exact HS0.out)
  have HS := Lib.hid (show DS w g j 31 C w3 from ⟨_, H3.out⟩)
  rw [← hw3]
  clear hw3 HS0 H2 c0
  refine anyH_pureG 0 (d := 26) (op := .fieldAddr 31 (.tmp 4) 3) (gd := none) (.pointer (some ⟨j, 3, none⟩)) (by rfl) (fun o ho => wanted_plain ho _) (by kernel_rfl) (by kernel_rfl) (by kernel_rfl) (fun _ _ _ h => h) (fun o ho W hW => by unfold execOp; simp only [ho]; go_simp) HS.out ?_
  simp only [Act.put, List.setIfInBounds_toArray, List.set_cons_zero, List.set_cons_succ]
  refine anyH_pureG 1 (d := 27) (op := .slice 29 (.tmp 26) none none none) (gd := none) (.slice (some ⟨j, 3, none⟩) 32 32) (by rfl) (fun o ho => wanted_plain ho _) (by kernel_rfl) (by kernel_rfl) (by kernel_rfl) (fun _ _ _ h => h) (fun o ho W hW => by unfold execOp; simp only [ho]; simp [run_digAll W j 3, Act.eval]) HS.out ?_
  simp only [Act.put, List.setIfInBounds_toArray, List.set_cons_zero, List.set_cons_succ]
  refine anyH_pureG 2 (d := 28) (op := .move (.tmp 5)) (gd := none) (.slice a1 8 c1) (by rfl) (fun o ho => wanted_plain ho _) (by kernel_rfl) (by kernel_rfl) (by kernel_rfl) (fun _ _ _ h => h) (fun o ho W hW => by unfold execOp; simp only [ho]; go_simp) HS.out ?_
  simp only [Act.put, List.setIfInBounds_toArray, List.set_cons_zero, List.set_cons_succ]
  refine anyH_pureG 3 (d := 29) (op := .move (.tmp 7)) (gd := none) (.int .i64 0) (by rfl) (fun o ho => wanted_plain ho _) (by kernel_rfl) (by kernel_rfl) (by kernel_rfl) (fun _ _ _ h => h) (fun o ho W hW => by unfold execOp; simp only [ho]; go_simp) HS.out ?_
  simp only [Act.put, List.setIfInBounds_toArray, List.set_cons_zero, List.set_cons_succ]
  refine anyH_pureG 4 (d := 30) (op := .slice 25 (.tmp 28) none (some (.tmp 29)) none) (gd := none) (.slice a1 0 c1) (by rfl) (fun o ho => wanted_plain ho _) (by kernel_rfl) (by kernel_rfl) (by kernel_rfl) (fun _ _ _ h => h) (fun o ho W hW => exec_headS (k := 0) (by omega) (by rfl) (by rfl) o ho W) HS.out ?_
  simp only [Act.put, List.setIfInBounds_toArray, List.set_cons_zero, List.set_cons_succ]
  obtain ⟨w4, hrun, h4⟩ : ∃ w4, (∀ ty, (Builtin.copy_ #[25, 25] ty #[.slice (some ⟨j, 3, none⟩) 32 32, .slice a1 0 c1]).run Tryd.prog w3 = .ok (.int .i64 0) w4) ∧ D2 w g j 31 C (recC ⟨k, repo, tag, y, 0⟩) w4 := by
    obtain ⟨i0, hi, hz0, hz1, hz2⟩ := info_parts byteInfo
    exact ⟨w3, fun ty => run_copy_none (P := Tryd.prog) w3 25 25 ty 5 (some ⟨j, 3, none⟩) a1 32 32 0 c1 Tryd.underlying25 (by rw [hi]; simp [hz1]) rfl, by rw [HY.out]; exact H3.out⟩
  have H4 := Lib.hid h4
  refine anyH_runR 5 (d := some 31) (op := .call { callee := .builtin .copy, args := #[(.tmp 27), (.tmp 30)], argTypes := #[25, 25] }) (v := .int .i64 0) (w' := w4) (by kernel_rfl) (by rfl) (fun o ho => ?_) ⟨_, h4⟩ ?_
  · exact exec_copyR ho (by rfl) (by rfl) (hrun o.type)
  simp only [Act.put, List.setIfInBounds_toArray, List.set_cons_zero, List.set_cons_succ]
  refine wpAnyH_done (by kernel_rfl) ?_ _
  have c35 := H4.out.b.c35 ⟨HYL.out, HYB.out⟩
  have f35 := H4.out.b.fz 35
  simp only at c35
  have HS5 := Lib.hid (show D2 w g j 31 C (recC ⟨k, repo, tag, y, 0⟩) (w4.setCell ⟨j, 35, none⟩ (.int .i64 0)) from by
    have h := H4.out.cell 35 (.int .i64 0)
    rw [recC_time _ _ _ _ _ _ HYL.out] at h
    exact h)
  have HRN := Lib.hid (readNum_c (sla (a1) c1 0) (c1 - 0) (rest.drop 0) 1099511627776 w4 ((HRY.out w4 H4.out.below).cut c1 0 (by omega) hlc) (by omega))
  rw [← HM2.out] at HRN
  simp only [if_neg hx, decide_eq_false hx, Int.cast_ofNat_Int] at HRN
  obtain ⟨A4, hA4⟩ : ∃ A, A = sla (a1) c1 0 := ⟨_, rfl⟩
  rw [← hA4] at HRN
  have HA4 := Lib.hid hA4
  clear hrun h4 hA4 H3 HS
  go_upto_region 11 with (first | (refine wpList_runR (by rfl) (.slice A4 8 (c1 - 0)) (by rw [HA4.out]; exact exec_cutS (a := a1) (len := 8) (cap := c1) (k := 0) (by omega) (by rfl) (by rfl) _ rfl _) ?_) | (go_at_call 35; refine HRN.out.mono ?_; rintro e w5 ⟨rfl, rfl⟩))
  refine gen_codeR (F := D2 w g j 31 C (recC ⟨k, repo, tag, y, 0⟩)) HS5.out ?_
  intro w6 hd6
  have H6 := Lib.hid hd6
  clear hd6
  go_wp2_with (first | (refine wpList_buildR 31 _ (by rfl) (by rfl) C (by simp only [List.map_toArray, List.map_cons, List.map_nil]; exact HBU.out) ?_) | (refine wpList_store_row (by rfl) 31 _ _ (by rfl) g C (by rfl) (by rfl) 31 C H6.out.a HI.out rfl HO.out ?_))
  exact bodyPost_ret (results_row_tmpR rfl _ _ g 31 C (0, 0) _ (by rfl) H6.out.a.setRow Tryd.underlying31 HI.out) rfl ⟨rfl, H6.out.res.2.1⟩
set_option maxRecDepth 100000 in
set_option maxHeartbeats 8000000 in
theorem dec0_right (a : Option Addr) (len cap : Nat) (zs : List Nat) (w : World) (h : Rd w a len zs) (hcap : len ≤ cap) (hm : len ≤ 140737488355328) (hm0 : cap ≤ 9223372036854775807) (k : Int) (hk : ¬ k = 1) (repo tag : List UInt8) (rest : List Nat) (hn : nmL zs = some (⟨k, repo, tag, zs32, 0⟩, rest)) (hl : rest.length = 8) (hx : (Numm.num 0 (rest.drop 0)) ≤ 1099511627776) (hr : rightB ⟨k, repo, tag, zs32, ((Numm.num 0 (rest.drop 0)) : Nat)⟩ = false) :
    Calls Tryd.prog 14 #[.slice a len cap] w (fun e w' => e = .returned (.tuple #[.agg (recC rc0), .int .i64 10]) ∧ Below w.heap.size w w') := by
  have hbz := h.2.1
  have HR0 := Lib.hid h
  obtain ⟨-, -, -, -, hp5, hp6, -, hp8⟩ := nmL_some hbz hn
  simp only at hp5 hp6
  have HNM := Lib.hid fun W (hW : Below w.heap.size w W) => named_c a len cap zs W (h.below hW) hcap hm hm0
  rw [hn] at HNM
  unfold NM at HNM
  simp only at HNM
  have HIR := Lib.hid (show (Tryd.prog.info? 31).map (·.size) = some (recC ⟨k, repo, tag, zs32, 0⟩).size from by rw [recC_size dOk_zs]; exact info_p)
  have HOR := Lib.hid (recC_one ⟨k, repo, tag, zs32, 0⟩)
  have HZR := Lib.hid (recC_size (r := ⟨k, repo, tag, zs32, 0⟩) dOk_zs)
  obtain ⟨D0, hD0⟩ : ∃ D, D = recC ⟨k, repo, tag, zs32, 0⟩ := ⟨_, rfl⟩
  rw [← hD0] at HNM HIR HOR HZR
  have HD0 := Lib.hid hD0
  clear hD0
  obtain ⟨m, hm2⟩ : ∃ m, m = (Numm.num 0 (rest.drop 0)) := ⟨_, rfl⟩
  have HM2 := Lib.hid hm2
  obtain ⟨y, hy⟩ : ∃ y, y = zs32 := ⟨_, rfl⟩
  have HYL := Lib.hid (show y.length = 32 from by rw [hy]; exact zs32_len)
  have HYB := Lib.hid (show ∀ z ∈ y, z < 256 from by rw [hy]; exact dOk_zs.2)
  have HY := Lib.hid hy
  rw [← hm2, ← hy] at hr
  have HRT := Lib.hid fun W => right_c ⟨k, repo, tag, y, m⟩ ⟨HYL.out, HYB.out⟩ ⟨by simp only; omega, by simp only; omega⟩ W
  rw [hr] at HRT
  have HIQ := Lib.hid (show (Tryd.prog.info? 31).map (·.size) = some (recC ⟨k, repo, tag, y, m⟩).size from by rw [recC_size ⟨HYL.out, HYB.out⟩]; exact info_p)
  have HOQ := Lib.hid (recC_one ⟨k, repo, tag, y, m⟩)
  have HZQ := Lib.hid (recC_size (r := ⟨k, repo, tag, y, m⟩) ⟨HYL.out, HYB.out⟩)
  rw [← hm2] at hx
  obtain ⟨D9, hD9⟩ : ∃ D, D = recC ⟨k, repo, tag, y, m⟩ := ⟨_, rfl⟩
  rw [← hD9] at HRT HIQ HOQ HZQ
  have HD9 := Lib.hid hD9
  clear hD9 hr
  clear hm2 hy
  have HI := Lib.hid (show (Tryd.prog.info? 31).map (·.size) = some (recC rc0).size from by rw [recC_size rc0_ok]; exact info_p)
  have HBU := Lib.hid built_r0
  obtain ⟨C, hC⟩ : ∃ C, C = recC rc0 := ⟨_, rfl⟩
  have HO := Lib.hid (recC_one rc0)
  have HZ := Lib.hid (recC_size rc0_ok)
  have HCC := Lib.hid hC
  rw [← hC] at HI HBU HO HZ ⊢
  clear hC
  obtain ⟨L, hL⟩ : ∃ L, L = rest.length := ⟨_, rfl⟩
  rw [← hL] at HNM hl
  subst hl
  have HL := Lib.hid hL
  clear hL
  clear h hn hbz hp5 hp6 hp8
  go_enter Tryd.func14, Tryd.ntmps14
  go_upto_region 1 with (fail)
  obtain ⟨g, hg⟩ : ∃ g, g = w.heap.size := ⟨_, rfl⟩
  refine gen_codeR (F := Bq w g 31 C) (by rw [hg, HCC.out]; exact Bq.new _ _ _) ?_
  rw [← hg]
  intro w0 hb0
  have H0 := Lib.hid hb0
  have HNC := Lib.hid (HNM.out w0 H0.out.2.1)
  clear hg hb0 HNM
  go_upto_region 2 with (first | (go_at_call 34; refine HNC.out.mono ?_; rintro e w1 ⟨a1, c1, rfl, hlc, hnil, hrd, hb⟩; have H1 := Lib.hid (H0.out.step hb); have HNL := Lib.hid hnil; have HRY := Lib.hid (fun W (hW : Below w.heap.size w W) => hrd W (HR0.out.below hW)); have HNB := Lib.hid (show RW (w1.alloc (.cells C 31 (0, 0))) w1.heap.size 31 C from RW.new _ _ _); rw [HCC.out] at HNB; clear hb hrd hnil) | (refine wpList_store_row (by rfl) 31 _ _ (by rfl) w1.heap.size D0 (by rfl) (by rfl) 31 (recC rc0) (by exact HNB.out) HIR.out (by rw [recC_size rc0_ok, HZR.out]) HOR.out ?_))
  obtain ⟨j, hj⟩ : ∃ j, j = w1.heap.size := ⟨_, rfl⟩
  refine gen_codeR (F := D2 w g j 31 C (recC ⟨k, repo, tag, zs32, 0⟩)) (by rw [hj, ← HD0.out]; exact (D2.mk' (D := recC rc0) H1.out).row) ?_
  rw [← hj]
  intro w2 hd2
  have H2 := Lib.hid hd2
  have c0 := H2.out.b.c0
  clear hj hd2 HNC HNB
  go_upto_region 9 with fail
  have HS0 := Lib.hid (show D2 w g j 31 C (recC ⟨k, repo, tag, zs32, 0⟩) w2.drew from H2.out.step (below_drewN' _ w2 1))
  refine anyH_begin (S := DS w g j 31 C) (by kernel_rfl) ?_
  obtain ⟨w3, hw3⟩ : ∃ w3, w3 = w2.drew := ⟨_, rfl⟩
  have H3 := Lib.hid (show D2 w g j 31 C (recC ⟨k, repo, tag, zs32, 0⟩) w3 from by rw [hw3]; exact HS0.out)
  have HS := Lib.hid (show DS w g j 31 C w3 from ⟨_, H3.out⟩)
  rw [← hw3]
  clear hw3 HS0 H2 c0
  refine anyH_pureG 0 (d := 26) (op := .fieldAddr 31 (.tmp 4) 3) (gd := none) (.pointer (some ⟨j, 3, none⟩)) (by rfl) (fun o ho => wanted_plain ho _) (by kernel_rfl) (by kernel_rfl) (by kernel_rfl) (fun _ _ _ h => h) (fun o ho W hW => by unfold execOp; simp only [ho]; go_simp) HS.out ?_
  simp only [Act.put, List.setIfInBounds_toArray, List.set_cons_zero, List.set_cons_succ]
  refine anyH_pureG 1 (d := 27) (op := .slice 29 (.tmp 26) none none none) (gd := none) (.slice (some ⟨j, 3, none⟩) 32 32) (by rfl) (fun o ho => wanted_plain ho _) (by kernel_rfl) (by kernel_rfl) (by kernel_rfl) (fun _ _ _ h => h) (fun o ho W hW => by unfold execOp; simp only [ho]; simp [run_digAll W j 3, Act.eval]) HS.out ?_
  simp only [Act.put, List.setIfInBounds_toArray, List.set_cons_zero, List.set_cons_succ]
  refine anyH_pureG 2 (d := 28) (op := .move (.tmp 5)) (gd := none) (.slice a1 8 c1) (by rfl) (fun o ho => wanted_plain ho _) (by kernel_rfl) (by kernel_rfl) (by kernel_rfl) (fun _ _ _ h => h) (fun o ho W hW => by unfold execOp; simp only [ho]; go_simp) HS.out ?_
  simp only [Act.put, List.setIfInBounds_toArray, List.set_cons_zero, List.set_cons_succ]
  refine anyH_pureG 3 (d := 29) (op := .move (.tmp 7)) (gd := none) (.int .i64 0) (by rfl) (fun o ho => wanted_plain ho _) (by kernel_rfl) (by kernel_rfl) (by kernel_rfl) (fun _ _ _ h => h) (fun o ho W hW => by unfold execOp; simp only [ho]; go_simp) HS.out ?_
  simp only [Act.put, List.setIfInBounds_toArray, List.set_cons_zero, List.set_cons_succ]
  refine anyH_pureG 4 (d := 30) (op := .slice 25 (.tmp 28) none (some (.tmp 29)) none) (gd := none) (.slice a1 0 c1) (by rfl) (fun o ho => wanted_plain ho _) (by kernel_rfl) (by kernel_rfl) (by kernel_rfl) (fun _ _ _ h => h) (fun o ho W hW => exec_headS (k := 0) (by omega) (by rfl) (by rfl) o ho W) HS.out ?_
  simp only [Act.put, List.setIfInBounds_toArray, List.set_cons_zero, List.set_cons_succ]
  obtain ⟨w4, hrun, h4⟩ : ∃ w4, (∀ ty, (Builtin.copy_ #[25, 25] ty #[.slice (some ⟨j, 3, none⟩) 32 32, .slice a1 0 c1]).run Tryd.prog w3 = .ok (.int .i64 0) w4) ∧ D2 w g j 31 C (recC ⟨k, repo, tag, y, 0⟩) w4 := by
    obtain ⟨i0, hi, hz0, hz1, hz2⟩ := info_parts byteInfo
    exact ⟨w3, fun ty => run_copy_none (P := Tryd.prog) w3 25 25 ty 5 (some ⟨j, 3, none⟩) a1 32 32 0 c1 Tryd.underlying25 (by rw [hi]; simp [hz1]) rfl, by rw [HY.out]; exact H3.out⟩
  have H4 := Lib.hid h4
  refine anyH_runR 5 (d := some 31) (op := .call { callee := .builtin .copy, args := #[(.tmp 27), (.tmp 30)], argTypes := #[25, 25] }) (v := .int .i64 0) (w' := w4) (by kernel_rfl) (by rfl) (fun o ho => ?_) ⟨_, h4⟩ ?_
  · exact exec_copyR ho (by rfl) (by rfl) (hrun o.type)
  simp only [Act.put, List.setIfInBounds_toArray, List.set_cons_zero, List.set_cons_succ]
  refine wpAnyH_done (by kernel_rfl) ?_ _
  have c35 := H4.out.b.c35 ⟨HYL.out, HYB.out⟩
  have f35 := H4.out.b.fz 35
  simp only at c35
  have HS5 := Lib.hid (show D2 w g j 31 C (recC ⟨k, repo, tag, y, (m : Int)⟩) (w4.setCell ⟨j, 35, none⟩ (.int .i64 (m : Int))) from by
    have h := H4.out.cell 35 (.int .i64 (m : Int))
    rw [recC_time _ _ _ _ _ _ HYL.out] at h
    exact h)
  have HRN := Lib.hid (readNum_c (sla (a1) c1 0) (c1 - 0) (rest.drop 0) 1099511627776 w4 ((HRY.out w4 H4.out.below).cut c1 0 (by omega) hlc) (by omega))
  rw [← HM2.out] at HRN
  simp only [if_pos hx, decide_eq_true hx, Int.cast_ofNat_Int] at HRN
  obtain ⟨A4, hA4⟩ : ∃ A, A = sla (a1) c1 0 := ⟨_, rfl⟩
  rw [← hA4] at HRN
  have HA4 := Lib.hid hA4
  clear hrun h4 hA4 H3 HS
  go_upto_region 11 with (first | (refine wpList_runR (by rfl) (.slice A4 8 (c1 - 0)) (by rw [HA4.out]; exact exec_cutS (a := a1) (len := 8) (cap := c1) (k := 0) (by omega) (by rfl) (by rfl) _ rfl _) ?_) | (go_at_call 35; refine HRN.out.mono ?_; rintro e w5 ⟨rfl, rfl⟩))
  refine gen_codeR (F := D2 w g j 31 C D9) (by rw [HD9.out]; exact HS5.out) ?_
  intro w6 hd6
  have H6 := Lib.hid hd6
  clear hd6
  go_wp2_with (first | (refine wpList_runR (by rfl) (.agg D9) (exec_ldRow H6.out.b Tryd.underlying31 HIQ.out (by rfl) _ rfl) ?_) | (go_at_call 11; (refine (HRT.out _).mono ?_); rintro e w7 ⟨rfl, hb⟩; have H7 := Lib.hid (H6.out.step hb); clear hb) | (refine wpList_buildR 31 _ (by rfl) (by rfl) C (by simp only [List.map_toArray, List.map_cons, List.map_nil]; exact HBU.out) ?_) | (refine wpList_store_row (by rfl) 31 _ _ (by rfl) g C (by rfl) (by rfl) 31 C H7.out.a HI.out rfl HO.out ?_))
  exact bodyPost_ret (results_row_tmpR rfl _ _ g 31 C (0, 0) _ (by rfl) H7.out.a.setRow Tryd.underlying31 HI.out) rfl ⟨rfl, H7.out.res.2.1⟩
set_option maxRecDepth 100000 in
set_option maxHeartbeats 8000000 in
theorem dec0_ok (a : Option Addr) (len cap : Nat) (zs : List Nat) (w : World) (h : Rd w a len zs) (hcap : len ≤ cap) (hm : len ≤ 140737488355328) (hm0 : cap ≤ 9223372036854775807) (k : Int) (hk : ¬ k = 1) (repo tag : List UInt8) (rest : List Nat) (hn : nmL zs = some (⟨k, repo, tag, zs32, 0⟩, rest)) (hl : rest.length = 8) (hx : (Numm.num 0 (rest.drop 0)) ≤ 1099511627776) (hr : rightB ⟨k, repo, tag, zs32, ((Numm.num 0 (rest.drop 0)) : Nat)⟩ = true) :
    Calls Tryd.prog 14 #[.slice a len cap] w (fun e w' => e = .returned (.tuple #[.agg (recC ⟨k, repo, tag, zs32, ((Numm.num 0 (rest.drop 0)) : Nat)⟩), .int .i64 0]) ∧ Below w.heap.size w w') := by
  have hbz := h.2.1
  have HR0 := Lib.hid h
  obtain ⟨-, -, -, -, hp5, hp6, -, hp8⟩ := nmL_some hbz hn
  simp only at hp5 hp6
  have HNM := Lib.hid fun W (hW : Below w.heap.size w W) => named_c a len cap zs W (h.below hW) hcap hm hm0
  rw [hn] at HNM
  unfold NM at HNM
  simp only at HNM
  have HIR := Lib.hid (show (Tryd.prog.info? 31).map (·.size) = some (recC ⟨k, repo, tag, zs32, 0⟩).size from by rw [recC_size dOk_zs]; exact info_p)
  have HOR := Lib.hid (recC_one ⟨k, repo, tag, zs32, 0⟩)
  have HZR := Lib.hid (recC_size (r := ⟨k, repo, tag, zs32, 0⟩) dOk_zs)
  obtain ⟨D0, hD0⟩ : ∃ D, D = recC ⟨k, repo, tag, zs32, 0⟩ := ⟨_, rfl⟩
  rw [← hD0] at HNM HIR HOR HZR
  have HD0 := Lib.hid hD0
  clear hD0
  obtain ⟨m, hm2⟩ : ∃ m, m = (Numm.num 0 (rest.drop 0)) := ⟨_, rfl⟩
  have HM2 := Lib.hid hm2
  obtain ⟨y, hy⟩ : ∃ y, y = zs32 := ⟨_, rfl⟩
  have HYL := Lib.hid (show y.length = 32 from by rw [hy]; exact zs32_len)
  have HYB := Lib.hid (show ∀ z ∈ y, z < 256 from by rw [hy]; exact dOk_zs.2)
  have HY := Lib.hid hy
  rw [← hm2, ← hy] at hr
  have HRT := Lib.hid fun W => right_c ⟨k, repo, tag, y, m⟩ ⟨HYL.out, HYB.out⟩ ⟨by simp only; omega, by simp only; omega⟩ W
  rw [hr] at HRT
  have HIQ := Lib.hid (show (Tryd.prog.info? 31).map (·.size) = some (recC ⟨k, repo, tag, y, m⟩).size from by rw [recC_size ⟨HYL.out, HYB.out⟩]; exact info_p)
  have HOQ := Lib.hid (recC_one ⟨k, repo, tag, y, m⟩)
  have HZQ := Lib.hid (recC_size (r := ⟨k, repo, tag, y, m⟩) ⟨HYL.out, HYB.out⟩)
  rw [← hm2, ← hy]
  rw [← hm2] at hx
  obtain ⟨D9, hD9⟩ : ∃ D, D = recC ⟨k, repo, tag, y, m⟩ := ⟨_, rfl⟩
  rw [← hD9] at HRT HIQ HOQ HZQ ⊢
  have HD9 := Lib.hid hD9
  clear hD9 hr
  clear hm2 hy
  have HI := Lib.hid (show (Tryd.prog.info? 31).map (·.size) = some (recC rc0).size from by rw [recC_size rc0_ok]; exact info_p)
  have HBU := Lib.hid built_r0
  obtain ⟨C, hC⟩ : ∃ C, C = recC rc0 := ⟨_, rfl⟩
  have HO := Lib.hid (recC_one rc0)
  have HZ := Lib.hid (recC_size rc0_ok)
  have HCC := Lib.hid hC
  rw [← hC] at HI HBU HO HZ
  clear hC
  obtain ⟨L, hL⟩ : ∃ L, L = rest.length := ⟨_, rfl⟩
  rw [← hL] at HNM hl
  subst hl
  have HL := Lib.hid hL
  clear hL
  clear h hn hbz hp5 hp6 hp8
  go_enter Tryd.func14, Tryd.ntmps14
  go_upto_region 1 with (fail)
  obtain ⟨g, hg⟩ : ∃ g, g = w.heap.size := ⟨_, rfl⟩
  refine gen_codeR (F := Bq w g 31 C) (by rw [hg, HCC.out]; exact Bq.new _ _ _) ?_
  rw [← hg]
  intro w0 hb0
  have H0 := Lib.hid hb0
  have HNC := Lib.hid (HNM.out w0 H0.out.2.1)
  clear hg hb0 HNM
  go_upto_region 2 with (first | (go_at_call 34; refine HNC.out.mono ?_; rintro e w1 ⟨a1, c1, rfl, hlc, hnil, hrd, hb⟩; have H1 := Lib.hid (H0.out.step hb); have HNL := Lib.hid hnil; have HRY := Lib.hid (fun W (hW : Below w.heap.size w W) => hrd W (HR0.out.below hW)); have HNB := Lib.hid (show RW (w1.alloc (.cells C 31 (0, 0))) w1.heap.size 31 C from RW.new _ _ _); rw [HCC.out] at HNB; clear hb hrd hnil) | (refine wpList_store_row (by rfl) 31 _ _ (by rfl) w1.heap.size D0 (by rfl) (by rfl) 31 (recC rc0) (by exact HNB.out) HIR.out (by rw [recC_size rc0_ok, HZR.out]) HOR.out ?_))
  obtain ⟨j, hj⟩ : ∃ j, j = w1.heap.size := ⟨_, rfl⟩
  refine gen_codeR (F := D2 w g j 31 C (recC ⟨k, repo, tag, zs32, 0⟩)) (by rw [hj, ← HD0.out]; exact (D2.mk' (D := recC rc0) H1.out).row) ?_
  rw [← hj]
  intro w2 hd2
  have H2 := Lib.hid hd2
  have c0 := H2.out.b.c0
  clear hj hd2 HNC HNB
  go_upto_region 9 with fail
  have HS0 := Lib.hid (show D2 w g j 31 C (recC ⟨k, repo, tag, zs32, 0⟩) w2.drew from H2.out.step (below_drewN' _ w2 1))
  refine anyH_begin (S := DS w g j 31 C) (by kernel_rfl) ?_
  obtain ⟨w3, hw3⟩ : ∃ w3, w3 = w2.drew := ⟨_, rfl⟩
  have H3 := Lib.hid (show D2 w g j 31 C (recC ⟨k, repo, tag, zs32, 0⟩) w3 from by rw [hw3]; exact HS0.out)
  have HS := Lib.hid (show DS w g j 31 C w3 from ⟨_, H3.out⟩)
  rw [← hw3]
  clear hw3 HS0 H2 c0
  refine anyH_pureG 0 (d := 26) (op := .fieldAddr 31 (.tmp 4) 3) (gd := none) (.pointer (some ⟨j, 3, none⟩)) (by rfl) (fun o ho => wanted_plain ho _) (by kernel_rfl) (by kernel_rfl) (by kernel_rfl) (fun _ _ _ h => h) (fun o ho W hW => by unfold execOp; simp only [ho]; go_simp) HS.out ?_
  simp only [Act.put, List.setIfInBounds_toArray, List.set_cons_zero, List.set_cons_succ]
  refine anyH_pureG 1 (d := 27) (op := .slice 29 (.tmp 26) none none none) (gd := none) (.slice (some ⟨j, 3, none⟩) 32 32) (by rfl) (fun o ho => wanted_plain ho _) (by kernel_rfl) (by kernel_rfl) (by kernel_rfl) (fun _ _ _ h => h) (fun o ho W hW => by unfold execOp; simp only [ho]; simp [run_digAll W j 3, Act.eval]) HS.out ?_
  simp only [Act.put, List.setIfInBounds_toArray, List.set_cons_zero, List.set_cons_succ]
  refine anyH_pureG 2 (d := 28) (op := .move (.tmp 5)) (gd := none) (.slice a1 8 c1) (by rfl) (fun o ho => wanted_plain ho _) (by kernel_rfl) (by kernel_rfl) (by kernel_rfl) (fun _ _ _ h => h) (fun o ho W hW => by unfold execOp; simp only [ho]; go_simp) HS.out ?_
  simp only [Act.put, List.setIfInBounds_toArray, List.set_cons_zero, List.set_cons_succ]
  refine anyH_pureG 3 (d := 29) (op := .move (.tmp 7)) (gd := none) (.int .i64 0) (by rfl) (fun o ho => wanted_plain ho _) (by kernel_rfl) (by kernel_rfl) (by kernel_rfl) (fun _ _ _ h => h) (fun o ho W hW => by unfold execOp; simp only [ho]; go_simp) HS.out ?_
  simp only [Act.put, List.setIfInBounds_toArray, List.set_cons_zero, List.set_cons_succ]
  refine anyH_pureG 4 (d := 30) (op := .slice 25 (.tmp 28) none (some (.tmp 29)) none) (gd := none) (.slice a1 0 c1) (by rfl) (fun o ho => wanted_plain ho _) (by kernel_rfl) (by kernel_rfl) (by kernel_rfl) (fun _ _ _ h => h) (fun o ho W hW => exec_headS (k := 0) (by omega) (by rfl) (by rfl) o ho W) HS.out ?_
  simp only [Act.put, List.setIfInBounds_toArray, List.set_cons_zero, List.set_cons_succ]
  obtain ⟨w4, hrun, h4⟩ : ∃ w4, (∀ ty, (Builtin.copy_ #[25, 25] ty #[.slice (some ⟨j, 3, none⟩) 32 32, .slice a1 0 c1]).run Tryd.prog w3 = .ok (.int .i64 0) w4) ∧ D2 w g j 31 C (recC ⟨k, repo, tag, y, 0⟩) w4 := by
    obtain ⟨i0, hi, hz0, hz1, hz2⟩ := info_parts byteInfo
    exact ⟨w3, fun ty => run_copy_none (P := Tryd.prog) w3 25 25 ty 5 (some ⟨j, 3, none⟩) a1 32 32 0 c1 Tryd.underlying25 (by rw [hi]; simp [hz1]) rfl, by rw [HY.out]; exact H3.out⟩
  have H4 := Lib.hid h4
  refine anyH_runR 5 (d := some 31) (op := .call { callee := .builtin .copy, args := #[(.tmp 27), (.tmp 30)], argTypes := #[25, 25] }) (v := .int .i64 0) (w' := w4) (by kernel_rfl) (by rfl) (fun o ho => ?_) ⟨_, h4⟩ ?_
  · exact exec_copyR ho (by rfl) (by rfl) (hrun o.type)
  simp only [Act.put, List.setIfInBounds_toArray, List.set_cons_zero, List.set_cons_succ]
  refine wpAnyH_done (by kernel_rfl) ?_ _
  have c35 := H4.out.b.c35 ⟨HYL.out, HYB.out⟩
  have f35 := H4.out.b.fz 35
  simp only at c35
  have HS5 := Lib.hid (show D2 w g j 31 C (recC ⟨k, repo, tag, y, (m : Int)⟩) (w4.setCell ⟨j, 35, none⟩ (.int .i64 (m : Int))) from by
    have h := H4.out.cell 35 (.int .i64 (m : Int))
    rw [recC_time _ _ _ _ _ _ HYL.out] at h
    exact h)
  have HRN := Lib.hid (readNum_c (sla (a1) c1 0) (c1 - 0) (rest.drop 0) 1099511627776 w4 ((HRY.out w4 H4.out.below).cut c1 0 (by omega) hlc) (by omega))
  rw [← HM2.out] at HRN
  simp only [if_pos hx, decide_eq_true hx, Int.cast_ofNat_Int] at HRN
  obtain ⟨A4, hA4⟩ : ∃ A, A = sla (a1) c1 0 := ⟨_, rfl⟩
  rw [← hA4] at HRN
  have HA4 := Lib.hid hA4
  clear hrun h4 hA4 H3 HS
  go_upto_region 11 with (first | (refine wpList_runR (by rfl) (.slice A4 8 (c1 - 0)) (by rw [HA4.out]; exact exec_cutS (a := a1) (len := 8) (cap := c1) (k := 0) (by omega) (by rfl) (by rfl) _ rfl _) ?_) | (go_at_call 35; refine HRN.out.mono ?_; rintro e w5 ⟨rfl, rfl⟩))
  refine gen_codeR (F := D2 w g j 31 C D9) (by rw [HD9.out]; exact HS5.out) ?_
  intro w6 hd6
  have H6 := Lib.hid hd6
  clear hd6
  go_wp2_with (first | (go_at_call 11; (refine (HRT.out _).mono ?_); rintro e w7 ⟨rfl, hb⟩; have H7 := Lib.hid (H6.out.step hb); clear hb) | (refine wpList_runR (by rfl) (.agg D9) (exec_ldRow H7.out.b Tryd.underlying31 HIQ.out (by rfl) _ rfl) ?_) | (refine wpList_runR (by rfl) (.agg D9) (exec_ldRow H6.out.b Tryd.underlying31 HIQ.out (by rfl) _ rfl) ?_) | (refine wpList_store_row (by rfl) 31 _ _ (by rfl) g D9 (by rfl) (by rfl) 31 C H7.out.a HIQ.out (by rw [HZQ.out, HZ.out]) HOQ.out ?_))
  exact bodyPost_ret (results_row_tmpR rfl _ _ g 31 D9 (0, 0) _ (by rfl) H7.out.a.setRow Tryd.underlying31 HIQ.out) rfl ⟨rfl, H7.out.res.2.1⟩
/-- the record of any bytes -/
theorem dec_c (a : Option Addr) (len cap : Nat) (zs : List Nat) (w : World) (h : Rd w a len zs) (hcap : len ≤ cap) (hm : len ≤ 140737488355328) (hm0 : cap ≤ 9223372036854775807) :
    Calls Tryd.prog 14 #[.slice a len cap] w (DR w (decL zs)) := by
  have no : decL zs = none → Calls Tryd.prog 14 #[.slice a len cap] w (fun e w' => e = .returned (.tuple #[.agg (recC rc0), .int .i64 10]) ∧ Below w.heap.size w w') → Calls Tryd.prog 14 #[.slice a len cap] w (DR w (decL zs)) := fun hn hc => by
    rw [hn]
    exact hc
  cases hn : nmL zs with
  | none => exact no (decL_none hn) (dec_none a len cap zs w h hcap hm hm0 hn)
  | some p =>
    obtain ⟨r, rest⟩ := p
    obtain ⟨k, repo, tag, rfl, -, -⟩ := nmL_at h.2.1 hn
    have e : decL zs = if rest.length ≠ szD k + 8 then none else if rightB ⟨k, repo, tag, if k = 1 then rest.take 32 else zs32, (Numm.num 0 (rest.drop (szD k)) : Nat)⟩ = true then some ⟨k, repo, tag, if k = 1 then rest.take 32 else zs32, (Numm.num 0 (rest.drop (szD k)) : Nat)⟩ else none := by
      unfold decL
      rw [hn]
    by_cases hk : k = 1
    · subst hk
      have hs : szD 1 = 32 := rfl
      rw [hs] at e
      simp only [if_true] at e
      by_cases hl : rest.length = 32 + 8
      · rw [if_neg (by simpa using hl)] at e
        by_cases hx : Numm.num 0 (rest.drop 32) ≤ 1099511627776
        · cases hr : rightB ⟨1, repo, tag, rest.take 32, (Numm.num 0 (rest.drop 32) : Nat)⟩ with
          | false => exact no (by rw [e, hr]; rfl) (dec1_right a len cap zs w h hcap hm hm0 repo tag rest hn hl hx hr)
          | true =>
            rw [e, hr]
            exact dec1_ok a len cap zs w h hcap hm hm0 repo tag rest hn hl hx hr
        · refine no ?_ (dec1_num a len cap zs w h hcap hm hm0 repo tag rest hn hl hx)
          rw [e]
          refine if_neg fun hr => ?_
          obtain ⟨-, -, -, -, ht, -⟩ := right_parts hr
          simp only at ht
          omega
      · exact no (by rw [e, if_pos (by simpa using hl)]) (dec1_len a len cap zs w h hcap hm hm0 repo tag rest hn hl)
    · have hs : szD k = 0 := if_neg hk
      rw [hs] at e
      simp only [if_neg hk] at e
      by_cases hl : rest.length = 0 + 8
      · rw [if_neg (by simpa using hl)] at e
        by_cases hx : Numm.num 0 (rest.drop 0) ≤ 1099511627776
        · cases hr : rightB ⟨k, repo, tag, zs32, (Numm.num 0 (rest.drop 0) : Nat)⟩ with
          | false => exact no (by rw [e, hr]; rfl) (dec0_right a len cap zs w h hcap hm hm0 k hk repo tag rest hn hl hx hr)
          | true =>
            rw [e, hr]
            exact dec0_ok a len cap zs w h hcap hm hm0 k hk repo tag rest hn hl hx hr
        · refine no ?_ (dec0_num a len cap zs w h hcap hm hm0 k hk repo tag rest hn hl hx)
          rw [e]
          refine if_neg fun hr => ?_
          obtain ⟨-, -, -, -, ht, -⟩ := right_parts hr
          simp only at ht
          omega
      · exact no (by rw [e, if_pos (by simpa using hl)]) (dec0_len a len cap zs w h hcap hm hm0 k hk repo tag rest hn hl)
end Go.Proofs.YtjjkfbebaoikbaaDoor.Rc
