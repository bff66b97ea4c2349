/-
  The names with which any bytes begin, the program's.
-/
import Derived.Test.YtjjkfbebaoikbaaDoorRch
namespace Go.Proofs.YtjjkfbebaoikbaaDoor.Rc
open Go.RowKit Go.Proofs.Nm Go.Proofs.YtjjkfbebaoikbaaDoor
set_option linter.unusedVariables false
theorem RW.setCells {W : World} {g : Nat} {t : TypeId} {C D : Array Value} (h : RW W g t C) (hs : D.size = C.size) : RW (W.setCells g 0 D.toList) g t D := by
  have := setCells_row g t D.toList 0 C.toList W (by rw [Array.toArray_toList]; exact h) (by simp [hs])
  unfold splice at this
  rw [List.take_zero, List.nil_append, List.drop_eq_nil_of_le (by simp [hs]), List.append_nil, Array.toArray_toList] at this
  exact this
theorem exec_idxR {b off len cap k : Nat} (hk : k < len) {A : Act} {x y : Operand} (hx : A.eval x = .slice (some ⟨b, off, none⟩) len cap) (hy : A.eval y = .int .i64 (k : Int)) (o : Oper) (ho : o.op = .indexAddr 25 x y) (W : World) :
    (execOp A.eval o).run Tryd.prog W = .ok (.value (.pointer (some ⟨b, off + k, none⟩))) W := by
  have h : (Instr.indexAt 25 (.slice (some ⟨b, off, none⟩) len cap) (.int .i64 (k : Int))).run Tryd.prog W = .ok (.pointer (some ⟨b, off + k, none⟩)) W := by
    rw [run_indexAt_slice W 25 ⟨b, off, none⟩ len cap .i64 (k : Int) (by kernel_rfl)]
    have h1 : (0 : Int) ≤ (k : Int) ∧ (k : Int) < (len : Int) := by omega
    rw [if_pos h1, show (Go.sizeOf (Tryd.prog.elem 25)).run Tryd.prog W = .ok 1 W from by kernel_rfl]
    simp [Result.andThen, Addr.add]
  unfold execOp
  simp only [ho, hx, hy, h, Sem.run_bind, Result.andThen_ok, Sem.run_pure]
/-- x[k:], wherever the slice begins -/
theorem exec_cutS {a : Option Addr} {len cap k : Nat} (hk : k ≤ len) {A : Act} {x y : Operand} (hx : A.eval x = .slice a len cap) (hy : A.eval y = .int .i64 (k : Int)) (o : Oper) (ho : o.op = .slice 25 x (some y) none none) (W : World) :
    (execOp A.eval o).run Tryd.prog W = .ok (.value (.slice (sla a cap k) (len - k) (cap - k))) W := by
  unfold execOp
  simp only [ho, hx, hy, Option.map_none, Option.map_some]
  rw [Sem.run_bind, run_cutAt W a len cap k hk]
  rfl
theorem exec_strS {a : Option Addr} {len cap : Nat} {zs : List Nat} {W : World} (h : Rd W a len zs) {A : Act} {x : Operand} (hx : A.eval x = .slice a len cap) (o : Oper) (ho : o.op = .convert 25 9 x) :
    (execOp A.eval o).run Tryd.prog W = .ok (.value (.string (T (uB zs)))) W := by
  unfold execOp
  simp only [ho, hx, run_str (cap := cap) h, Sem.run_bind, Result.andThen_ok, Sem.run_pure]
  rfl
theorem results_row_tmp2R {P : Program} {fn : Func} {p u v : Tmp} {ty : TypeId} (h : fn.results = #[.cell p ty, .tmp u, .tmp v]) (tmps : Array Value) (w : World) (g : Nat) (t : TypeId) (cs : Array Value) (fr : Nat × Nat) (fs : Array Field)
    (hp : tmps.getD p undef = .pointer (some ⟨g, 0, none⟩)) (hg : w.heap[g]? = some (.cells cs t fr)) (hu : P.underlying ty = some (.struct fs)) (hi : (P.info? ty).map (·.size) = some cs.size) :
    (results fn tmps).run P w = .ok (.tuple #[.agg cs, tmps.getD u undef, tmps.getD v undef]) w := by
  have hp' : tmps[p]?.getD undef = .pointer (some ⟨g, 0, none⟩) := by simpa using hp
  simp only [results, h]
  simp [Sem.run_bind, Result.andThen, hp', asAddr, run_loadVar_row w g t ty cs fr _ hg hu rfl hi]
theorem rc0_ok : dOk rc0.dig := dOk_zs
theorem built_r0 : Tryd.prog.built 31 [] = some (recC rc0) := by kernel_rfl
theorem built_rn (k : Int) (a b : List UInt8) : Tryd.prog.built 31 [(0, .int .i64 k), (1, .string (T a)), (2, .string (T b))] = some (recC ⟨k, a, b, zs32, 0⟩) := by kernel_rfl
/-- what named answers -/
def NM (aa : Option Addr) (len : Nat) (zs : List Nat) (w : World) (r : Option (Rcv × List Nat)) (e : Ending) (w' : World) : Prop := match r with
  | none => e = .returned (.tuple #[.agg (recC rc0), .slice none 0 0, .bool false]) ∧ Below w.heap.size w w'
  | some (r, rest) => ∃ a c, e = .returned (.tuple #[.agg (recC r), .slice a rest.length c, .bool true]) ∧ rest.length ≤ c ∧ (a = none → c = 0) ∧ (∀ W, Rd W aa len zs → Rd W a rest.length rest) ∧ Below w.heap.size w w'
theorem Bq.stepB {w W W' : World} {g : Nat} {t : TypeId} {C : Array Value} (h : Bq w g t C W) (hb : Below W.heap.size W W') : Bq w g t C W' := h.step hb
set_option maxRecDepth 100000 in
set_option maxHeartbeats 4000000 in
theorem named_nil (a : Option Addr) (cap : Nat) (w : World) :
    Calls Tryd.prog 34 #[.slice a 0 cap] w fun e w' => e = .returned (.tuple #[.agg (recC rc0), .slice none 0 0, .bool false]) ∧ Below w.heap.size w w' := by
  have HI := Lib.hid (show (Tryd.prog.info? 31).map (·.size) = some (recC rc0).size from by rw [recC_size rc0_ok]; exact info_p)
  have HBU := Lib.hid built_r0
  obtain ⟨C, hC⟩ : ∃ C, C = recC rc0 := ⟨_, rfl⟩
  have HO := Lib.hid (recC_one rc0)
  have HZ := Lib.hid (recC_size rc0_ok)
  have HCC := Lib.hid hC
  rw [← hC] at HI HBU HO HZ ⊢
  clear hC
  go_enter Tryd.func34, Tryd.ntmps34
  go_upto_region 1 with (fail)
  obtain ⟨g, hg⟩ : ∃ g, g = w.heap.size := ⟨_, rfl⟩
  refine gen_codeR (F := Bq w g 31 C) (by rw [hg, HCC.out]; exact Bq.new _ _ _) ?_
  rw [← hg]
  intro w0 hb0
  have H0 := Lib.hid hb0
  clear hg hb0 HCC
  go_wp2_with (first | (refine wpList_buildR 31 _ (by rfl) (by rfl) C (by simp only [List.map_toArray, List.map_cons, List.map_nil]; exact HBU.out) ?_) | (refine wpList_store_row (by rfl) 31 _ _ (by rfl) g C (by rfl) (by rfl) 31 C H0.out.1 HI.out rfl HO.out ?_))
  exact bodyPost_ret (results_row_tmp2R rfl _ _ g 31 C (0, 0) _ (by rfl) H0.out.1.setRow Tryd.underlying31 HI.out) rfl ⟨rfl, H0.out.set.2.1⟩
set_option maxRecDepth 100000 in
set_option maxHeartbeats 8000000 in
theorem named_t1 (a : Option Addr) (len cap : Nat) (zs : List Nat) (w : World) (h : Rd w a len zs) (h0 : 0 < len) (hcap : len ≤ cap) (hm : len ≤ 140737488355328) (hm0 : cap ≤ 9223372036854775807) (he : (rt (zs.drop 1) 128).2.2 ≠ 0) :
    Calls Tryd.prog 34 #[.slice a len cap] w fun e w' => e = .returned (.tuple #[.agg (recC rc0), .slice none 0 0, .bool false]) ∧ Below w.heap.size w w' := by
  obtain ⟨b, off, rfl⟩ : ∃ b off, a = some ⟨b, off, none⟩ := by
    rcases h.2.2 with h0 | ⟨b, off, e, _⟩
    · omega
    · exact ⟨b, off, e⟩
  have HR := Lib.hid h
  have HZB := Lib.hid h.2.1
  have hzl := h.1
  obtain ⟨z, hz⟩ : ∃ z, z = zs.getD 0 0 := ⟨_, rfl⟩
  have HC0 := Lib.hid (show ∀ W, Bq w w.heap.size 31 (recC rc0) W → (Instr.loadAt 5 (.pointer (some ⟨b, off + 0, none⟩))).run Tryd.prog W = .ok (.int .u8 (z : Int)) W from fun W hW => by
    rcases (h.below hW.2.1).2.2 with h0 | ⟨b', off', e, _, hc⟩
    · omega
    · cases e
      have c0 := hc 0 (by omega)
      rw [← hz, Nat.add_zero] at c0
      clear hz
      rw [Nat.add_zero]
      go_simp)
  have hzlt : z < 256 := by
    rw [hz]
    match zs, hzl, h.2.1 with
    | y :: l, _, hb => exact hb y (by simp)
    | [], hzl, _ => simp at hzl; omega
  have hcz : wrap64 (z : Int) = (z : Int) := IntWalk.wrap64_in _ (by omega)
  have hcz2 : IntKind.i64.wrap (z : Int) = (z : Int) := by rw [IntKind.wrap_i64]; omega
  obtain ⟨A1, hA1⟩ : ∃ A, A = sla (some ⟨b, off, none⟩) cap 1 := ⟨_, rfl⟩
  have HA1 := Lib.hid hA1
  have HR1 := Lib.hid fun W (hW : Rd W (some ⟨b, off, none⟩) len zs) => show Rd W A1 (len - 1) (zs.drop 1) from by rw [hA1]; exact hW.cut cap 1 (by omega) hcap
  have HN1 := Lib.hid (show A1 = none → cap - 1 = 0 from fun e => by rw [hA1] at e; exact absurd (sla_none _ _ _ e) (by simp))
  have HT1 := Lib.hid fun W (hW : Below w.heap.size w W) => readText_c A1 (len - 1) (cap - 1) (zs.drop 1) 128 W (HR1.out W (HR.out.below hW)) (by omega) (by omega) (by omega) (by omega) (by omega)
  obtain ⟨P, u, e1, hr1⟩ : ∃ P u e, rt (zs.drop 1) 128 = (P, u, e) := ⟨_, _, _, rfl⟩
  rw [hr1] at HT1
  rw [hr1] at he
  simp only at he
  have he1 : ¬ (e1 : Int) = 0 := by omega
  have HI := Lib.hid (show (Tryd.prog.info? 31).map (·.size) = some (recC rc0).size from by rw [recC_size rc0_ok]; exact info_p)
  have HBU := Lib.hid built_r0
  obtain ⟨C, hC⟩ : ∃ C, C = recC rc0 := ⟨_, rfl⟩
  have HO := Lib.hid (recC_one rc0)
  have HZ := Lib.hid (recC_size rc0_ok)
  have HCC := Lib.hid hC
  rw [← hC] at HI HBU HO HZ ⊢
  clear hC
  clear h hz hA1 hr1 he HZB
  go_enter Tryd.func34, Tryd.ntmps34
  go_upto_region 1 with (fail)
  obtain ⟨g, hg⟩ : ∃ g, g = w.heap.size := ⟨_, rfl⟩
  refine gen_codeR (F := Bq w g 31 C) (by rw [hg, HCC.out]; exact Bq.new _ _ _) ?_
  rw [← hg]
  intro w0 hb0
  have H0 := Lib.hid hb0
  rw [← HCC.out, ← hg] at HC0
  clear hg hb0
  go_upto_region 3 with fail
  have HS0 := Lib.hid (show Bq w g 31 C w0.drew from H0.out.step (below_drewN' _ w0 1))
  refine anyH_begin (S := Bq w g 31 C) (by kernel_rfl) ?_
  obtain ⟨w2, hw2⟩ : ∃ w2, w2 = w0.drew := ⟨_, rfl⟩
  have HS := Lib.hid (show Bq w g 31 C w2 from by rw [hw2]; exact HS0.out)
  rw [← hw2]
  clear hw2 HS0 H0
  refine anyH_pureG 0 (d := 15) (op := .move (.tmp 0)) (gd := none) (.slice (some ⟨b, off, none⟩) len cap) (by rfl) (fun o ho => wanted_plain ho _) (by kernel_rfl) (by kernel_rfl) (by kernel_rfl) (fun _ _ _ h => h) (fun o ho W hW => by unfold execOp; simp only [ho]; go_simp) HS.out ?_
  simp only [Act.put, List.setIfInBounds_toArray, List.set_cons_zero, List.set_cons_succ]
  refine anyH_pureG 1 (d := 16) (op := .indexAddr 25 (.tmp 15) (.const (.int .i64 0))) (gd := none) (.pointer (some ⟨b, off + 0, none⟩)) (by rfl) (fun o ho => wanted_plain ho _) (by kernel_rfl) (by kernel_rfl) (by kernel_rfl) (fun _ _ _ h => h) (fun o ho W hW => exec_idxR (k := 0) (by omega) (by rfl) (by rfl) o ho W) HS.out ?_
  simp only [Act.put, List.setIfInBounds_toArray, List.set_cons_zero, List.set_cons_succ]
  refine anyH_loadG 2 (d := 17) (ty := 5) (x := (.tmp 16)) (gd := none) (p := .pointer (some ⟨b, off + 0, none⟩)) (.int .u8 (z : Int)) (by rfl) (fun o ho => wanted_plain ho _) (by kernel_rfl) (by kernel_rfl) (by kernel_rfl) (fun _ _ _ h => h) (by rfl) (fun W hW => HC0.out W hW) HS.out ?_
  simp only [Act.put, List.setIfInBounds_toArray, List.set_cons_zero, List.set_cons_succ]
  refine anyH_pureG 3 (d := 18) (op := .convert 5 3 (.tmp 17)) (gd := none) (.int .i64 (z : Int)) (by rfl) (fun o ho => wanted_plain ho _) (by kernel_rfl) (by kernel_rfl) (by kernel_rfl) (fun _ _ _ h => h) (fun o ho W hW => by unfold execOp; simp only [ho]; go_simp; try (first | exact hcz | exact hcz2)) HS.out ?_
  simp only [Act.put, List.setIfInBounds_toArray, List.set_cons_zero, List.set_cons_succ]
  refine anyH_pureG 4 (d := 19) (op := .move (.tmp 0)) (gd := none) (.slice (some ⟨b, off, none⟩) len cap) (by rfl) (fun o ho => wanted_plain ho _) (by kernel_rfl) (by kernel_rfl) (by kernel_rfl) (fun _ _ _ h => h) (fun o ho W hW => by unfold execOp; simp only [ho]; go_simp) HS.out ?_
  simp only [Act.put, List.setIfInBounds_toArray, List.set_cons_zero, List.set_cons_succ]
  refine anyH_pureG 5 (d := 20) (op := .slice 25 (.tmp 19) (some (.const (.int .i64 1))) none none) (gd := none) (.slice A1 (len - 1) (cap - 1)) (by rfl) (fun o ho => wanted_plain ho _) (by kernel_rfl) (by kernel_rfl) (by kernel_rfl) (fun _ _ _ h => h) (fun o ho W hW => by rw [HA1.out]; exact exec_cutS (k := 1) (by omega) (by rfl) (by rfl) o ho W) HS.out ?_
  simp only [Act.put, List.setIfInBounds_toArray, List.set_cons_zero, List.set_cons_succ]
  refine anyH_pureG 6 (d := 5) (op := .assign (.tmp 18)) (gd := none) (.int .i64 (z : Int)) (by rfl) (fun o ho => wanted_plain ho _) (by kernel_rfl) (by kernel_rfl) (by kernel_rfl) (fun _ _ _ h => h) (fun o ho W hW => by unfold execOp; simp only [ho]; go_simp) HS.out ?_
  simp only [Act.put, List.setIfInBounds_toArray, List.set_cons_zero, List.set_cons_succ]
  refine anyH_pureG 7 (d := 6) (op := .assign (.tmp 20)) (gd := none) (.slice A1 (len - 1) (cap - 1)) (by rfl) (fun o ho => wanted_plain ho _) (by kernel_rfl) (by kernel_rfl) (by kernel_rfl) (fun _ _ _ h => h) (fun o ho W hW => by unfold execOp; simp only [ho]; go_simp) HS.out ?_
  simp only [Act.put, List.setIfInBounds_toArray, List.set_cons_zero, List.set_cons_succ]
  refine wpAnyH_done (by kernel_rfl) ?_ _
  have HT2 := Lib.hid (HT1.out w2 HS.out.2.1)
  clear HT1
  go_wp2_with fail
  refine HT2.out.mono ?_
  rintro e w3 ⟨v3, rfl, ho3, hb3⟩
  have H3 := Lib.hid (HS.out.step hb3)
  clear ho3 hb3 HT2
  go_wp2_with (first | (refine wpList_buildR 31 _ (by rfl) (by rfl) C (by simp only [List.map_toArray, List.map_cons, List.map_nil]; exact HBU.out) ?_) | (refine wpList_store_row (by rfl) 31 _ _ (by rfl) g C (by rfl) (by rfl) 31 C H3.out.1 HI.out rfl HO.out ?_))
  exact bodyPost_ret (results_row_tmp2R rfl _ _ g 31 C (0, 0) _ (by rfl) H3.out.1.setRow Tryd.underlying31 HI.out) rfl ⟨rfl, H3.out.set.2.1⟩
theorem exec_buildR {t : TypeId} {fs : Array (Nat × Operand)} {C : Array Value} {A : Act} (hb : Tryd.prog.built t (fs.map fun (i, z) => (i, A.eval z)).toList = some C) (o : Oper) (ho : o.op = .build t fs) (W : World) : (execOp A.eval o).run Tryd.prog W = .ok (.value (.agg C)) W := by
  unfold execOp
  simp only [ho, Sem.run_bind, run_build W t _ _ hb, Result.andThen_ok, Sem.run_pure]
theorem own_blk {W : World} {B n c : Nat} {a : Option Addr} {zs : List Nat} (h : Own W B (.slice a n c) zs) (h0 : 0 < n) : ∀ j, blkOf a = some j → B ≤ j := fun j e => by
  rcases h.2 with ⟨e0, _⟩ | ⟨g, cap, cur, e0, hb, _⟩
  · cases e0; omega
  · cases e0
    have : g = j := by simpa [blkOf] using e
    omega
theorem RW.thereR {g : Nat} {W : World} {t : TypeId} {C : Array Value} (h : RW W g t C) (o m : Nat) (hm : o + m ≤ C.size) : W.there g o m := fun j hj => by
  rw [h.cellq, h.fz, Array.getElem?_eq_getElem (by omega)]
  exact ⟨rfl, rfl⟩
/-- a result's box, and two rows of bytes -/
structure NS (w : World) (g : Nat) (t : TypeId) (aP : Option Addr) (nP : Nat) (P : List Nat) (aQ : Option Addr) (nQ : Nat) (Q : List Nat) (W : World) : Prop where
  box : ∃ C, Bq w g t C W
  p : Rd W aP nP P
  q : Rd W aQ nQ Q
theorem NS.only {w W W' : World} {g : Nat} {t : TypeId} {aP aQ : Option Addr} {nP nQ : Nat} {P Q : List Nat} (h : NS w g t aP nP P aQ nQ Q W) (ho : Only g W W') (hb : ∃ C, Bq w g t C W') (hk : (0 < nP → blkOf aP ≠ some g) ∧ (0 < nQ → blkOf aQ ≠ some g)) : NS w g t aP nP P aQ nQ Q W' :=
  ⟨hb, ho.rd' h.p hk.1, ho.rd' h.q hk.2⟩
set_option maxRecDepth 100000 in
set_option maxHeartbeats 8000000 in
theorem named_t2 (a : Option Addr) (len cap : Nat) (zs : List Nat) (w : World) (h : Rd w a len zs) (h0 : 0 < len) (hcap : len ≤ cap) (hm : len ≤ 140737488355328) (hm0 : cap ≤ 9223372036854775807) (he : (rt (zs.drop 1) 128).2.2 = 0) (he2 : (rt (zs.drop (1 + (rt (zs.drop 1) 128).2.1)) 128).2.2 ≠ 0) :
    Calls Tryd.prog 34 #[.slice a len cap] w fun e w' => e = .returned (.tuple #[.agg (recC rc0), .slice none 0 0, .bool false]) ∧ Below w.heap.size w w' := by
  obtain ⟨b, off, rfl⟩ : ∃ b off, a = some ⟨b, off, none⟩ := by
    rcases h.2.2 with h0 | ⟨b, off, e, _⟩
    · omega
    · exact ⟨b, off, e⟩
  have HR := Lib.hid h
  have HZB := Lib.hid h.2.1
  have hzl := h.1
  obtain ⟨z, hz⟩ : ∃ z, z = zs.getD 0 0 := ⟨_, rfl⟩
  have HC0 := Lib.hid (show ∀ W, Bq w w.heap.size 31 (recC rc0) W → (Instr.loadAt 5 (.pointer (some ⟨b, off + 0, none⟩))).run Tryd.prog W = .ok (.int .u8 (z : Int)) W from fun W hW => by
    rcases (h.below hW.2.1).2.2 with h0 | ⟨b', off', e, _, hc⟩
    · omega
    · cases e
      have c0 := hc 0 (by omega)
      rw [← hz, Nat.add_zero] at c0
      clear hz
      rw [Nat.add_zero]
      go_simp)
  have hzlt : z < 256 := by
    rw [hz]
    match zs, hzl, h.2.1 with
    | y :: l, _, hb => exact hb y (by simp)
    | [], hzl, _ => simp at hzl; omega
  have hcz : wrap64 (z : Int) = (z : Int) := IntWalk.wrap64_in _ (by omega)
  have hcz2 : IntKind.i64.wrap (z : Int) = (z : Int) := by rw [IntKind.wrap_i64]; omega
  obtain ⟨A1, hA1⟩ : ∃ A, A = sla (some ⟨b, off, none⟩) cap 1 := ⟨_, rfl⟩
  have HA1 := Lib.hid hA1
  have HR1 := Lib.hid fun W (hW : Rd W (some ⟨b, off, none⟩) len zs) => show Rd W A1 (len - 1) (zs.drop 1) from by rw [hA1]; exact hW.cut cap 1 (by omega) hcap
  have HN1 := Lib.hid (show A1 = none → cap - 1 = 0 from fun e => by rw [hA1] at e; exact absurd (sla_none _ _ _ e) (by simp))
  have HT1 := Lib.hid fun W (hW : Below w.heap.size w W) => readText_c A1 (len - 1) (cap - 1) (zs.drop 1) 128 W (HR1.out W (HR.out.below hW)) (by omega) (by omega) (by omega) (by omega) (by omega)
  obtain ⟨P, u, e1, hr1⟩ : ∃ P u e, rt (zs.drop 1) 128 = (P, u, e) := ⟨_, _, _, rfl⟩
  rw [hr1] at HT1
  rw [hr1] at he he2
  simp only at he he2
  subst he
  obtain ⟨k1, k2, k3, k4, k5⟩ := rt_spec (fun x hx => h.2.1 x (List.mem_of_mem_drop hx)) hr1
  rw [List.length_drop] at k3
  obtain ⟨A2, hA2⟩ : ∃ A, A = sla A1 (cap - 1) u := ⟨_, rfl⟩
  have HA2 := Lib.hid hA2
  have hdd : (zs.drop 1).drop u = zs.drop (1 + u) := by rw [List.drop_drop]
  have HR2 := Lib.hid fun W (hW : Rd W (some ⟨b, off, none⟩) len zs) => show Rd W A2 (len - 1 - u) (zs.drop (1 + u)) from by rw [hA2, ← hdd]; exact (HR1.out W hW).cut (cap - 1) u (by omega) (by omega)
  have HN2 := Lib.hid (show A2 = none → cap - 1 - u = 0 from fun e => by rw [hA2] at e; have := HN1.out (sla_none _ _ _ e); omega)
  have HTX := Lib.hid fun W (hW : Below w.heap.size w W) => readText_c A2 (len - 1 - u) (cap - 1 - u) (zs.drop (1 + u)) 128 W (HR2.out W (HR.out.below hW)) (by omega) (by omega) (by omega) (by omega) (by omega)
  obtain ⟨Q, v, e2, hr2⟩ : ∃ Q v e, rt (zs.drop (1 + u)) 128 = (Q, v, e) := ⟨_, _, _, rfl⟩
  rw [hr2] at HTX he2
  simp only at he2
  have HPB := Lib.hid k5
  have hee : ¬ (e2 : Int) = 0 := by omega
  have HI := Lib.hid (show (Tryd.prog.info? 31).map (·.size) = some (recC rc0).size from by rw [recC_size rc0_ok]; exact info_p)
  have HBU := Lib.hid built_r0
  obtain ⟨C, hC⟩ : ∃ C, C = recC rc0 := ⟨_, rfl⟩
  have HO := Lib.hid (recC_one rc0)
  have HZ := Lib.hid (recC_size rc0_ok)
  have HCC := Lib.hid hC
  rw [← hC] at HI HBU HO HZ ⊢
  clear hC
  have hul : u ≤ len - 1 := by omega
  clear h hz hA1 hr1 HZB k1 k2 k3 k4 k5 hA2 hdd hr2 he2
  go_enter Tryd.func34, Tryd.ntmps34
  go_upto_region 1 with (fail)
  obtain ⟨g, hg⟩ : ∃ g, g = w.heap.size := ⟨_, rfl⟩
  refine gen_codeR (F := Bq w g 31 C) (by rw [hg, HCC.out]; exact Bq.new _ _ _) ?_
  rw [← hg]
  intro w0 hb0
  have H0 := Lib.hid hb0
  rw [← HCC.out, ← hg] at HC0
  clear hg hb0
  go_upto_region 3 with fail
  have HS0 := Lib.hid (show Bq w g 31 C w0.drew from H0.out.step (below_drewN' _ w0 1))
  refine anyH_begin (S := Bq w g 31 C) (by kernel_rfl) ?_
  obtain ⟨w2, hw2⟩ : ∃ w2, w2 = w0.drew := ⟨_, rfl⟩
  have HS := Lib.hid (show Bq w g 31 C w2 from by rw [hw2]; exact HS0.out)
  rw [← hw2]
  clear hw2 HS0 H0
  refine anyH_pureG 0 (d := 15) (op := .move (.tmp 0)) (gd := none) (.slice (some ⟨b, off, none⟩) len cap) (by rfl) (fun o ho => wanted_plain ho _) (by kernel_rfl) (by kernel_rfl) (by kernel_rfl) (fun _ _ _ h => h) (fun o ho W hW => by unfold execOp; simp only [ho]; go_simp) HS.out ?_
  simp only [Act.put, List.setIfInBounds_toArray, List.set_cons_zero, List.set_cons_succ]
  refine anyH_pureG 1 (d := 16) (op := .indexAddr 25 (.tmp 15) (.const (.int .i64 0))) (gd := none) (.pointer (some ⟨b, off + 0, none⟩)) (by rfl) (fun o ho => wanted_plain ho _) (by kernel_rfl) (by kernel_rfl) (by kernel_rfl) (fun _ _ _ h => h) (fun o ho W hW => exec_idxR (k := 0) (by omega) (by rfl) (by rfl) o ho W) HS.out ?_
  simp only [Act.put, List.setIfInBounds_toArray, List.set_cons_zero, List.set_cons_succ]
  refine anyH_loadG 2 (d := 17) (ty := 5) (x := (.tmp 16)) (gd := none) (p := .pointer (some ⟨b, off + 0, none⟩)) (.int .u8 (z : Int)) (by rfl) (fun o ho => wanted_plain ho _) (by kernel_rfl) (by kernel_rfl) (by kernel_rfl) (fun _ _ _ h => h) (by rfl) (fun W hW => HC0.out W hW) HS.out ?_
  simp only [Act.put, List.setIfInBounds_toArray, List.set_cons_zero, List.set_cons_succ]
  refine anyH_pureG 3 (d := 18) (op := .convert 5 3 (.tmp 17)) (gd := none) (.int .i64 (z : Int)) (by rfl) (fun o ho => wanted_plain ho _) (by kernel_rfl) (by kernel_rfl) (by kernel_rfl) (fun _ _ _ h => h) (fun o ho W hW => by unfold execOp; simp only [ho]; go_simp; try (first | exact hcz | exact hcz2)) HS.out ?_
  simp only [Act.put, List.setIfInBounds_toArray, List.set_cons_zero, List.set_cons_succ]
  refine anyH_pureG 4 (d := 19) (op := .move (.tmp 0)) (gd := none) (.slice (some ⟨b, off, none⟩) len cap) (by rfl) (fun o ho => wanted_plain ho _) (by kernel_rfl) (by kernel_rfl) (by kernel_rfl) (fun _ _ _ h => h) (fun o ho W hW => by unfold execOp; simp only [ho]; go_simp) HS.out ?_
  simp only [Act.put, List.setIfInBounds_toArray, List.set_cons_zero, List.set_cons_succ]
  refine anyH_pureG 5 (d := 20) (op := .slice 25 (.tmp 19) (some (.const (.int .i64 1))) none none) (gd := none) (.slice A1 (len - 1) (cap - 1)) (by rfl) (fun o ho => wanted_plain ho _) (by kernel_rfl) (by kernel_rfl) (by kernel_rfl) (fun _ _ _ h => h) (fun o ho W hW => by rw [HA1.out]; exact exec_cutS (k := 1) (by omega) (by rfl) (by rfl) o ho W) HS.out ?_
  simp only [Act.put, List.setIfInBounds_toArray, List.set_cons_zero, List.set_cons_succ]
  refine anyH_pureG 6 (d := 5) (op := .assign (.tmp 18)) (gd := none) (.int .i64 (z : Int)) (by rfl) (fun o ho => wanted_plain ho _) (by kernel_rfl) (by kernel_rfl) (by kernel_rfl) (fun _ _ _ h => h) (fun o ho W hW => by unfold execOp; simp only [ho]; go_simp) HS.out ?_
  simp only [Act.put, List.setIfInBounds_toArray, List.set_cons_zero, List.set_cons_succ]
  refine anyH_pureG 7 (d := 6) (op := .assign (.tmp 20)) (gd := none) (.slice A1 (len - 1) (cap - 1)) (by rfl) (fun o ho => wanted_plain ho _) (by kernel_rfl) (by kernel_rfl) (by kernel_rfl) (fun _ _ _ h => h) (fun o ho W hW => by unfold execOp; simp only [ho]; go_simp) HS.out ?_
  simp only [Act.put, List.setIfInBounds_toArray, List.set_cons_zero, List.set_cons_succ]
  refine wpAnyH_done (by kernel_rfl) ?_ _
  have HT2 := Lib.hid (HT1.out w2 HS.out.2.1)
  clear HT1 HC0
  go_wp2_with fail
  refine HT2.out.mono ?_
  rintro e w3 ⟨v3, rfl, ho3, hb3⟩
  obtain ⟨aP, nP, cP, rfl, hlP, -, -, hnP, hrP, -⟩ := ho3.form HPB.out
  have H3 := Lib.hid (HS.out.step hb3)
  have HRP := Lib.hid hrP
  clear ho3 hb3 HT2 hlP hnP hrP
  have HT3 := Lib.hid (HTX.out w3 H3.out.2.1)
  clear HTX
  go_wp2_with (refine wpList_runR (by rfl) (.slice A2 (len - 1 - u) (cap - 1 - u)) (by rw [HA2.out]; exact exec_cutS (a := A1) (len := len - 1) (cap := cap - 1) (k := u) hul (by rfl) (by rfl) _ rfl _) ?_)
  refine HT3.out.mono ?_
  rintro e w4 ⟨v4, rfl, ho4, hb4⟩
  have H4 := Lib.hid (H3.out.step hb4)
  clear ho4 hb4 HT3
  go_wp2_with (first | (refine wpList_buildR 31 _ (by rfl) (by rfl) C (by simp only [List.map_toArray, List.map_cons, List.map_nil]; exact HBU.out) ?_) | (refine wpList_store_row (by rfl) 31 _ _ (by rfl) g C (by rfl) (by rfl) 31 C H4.out.1 HI.out rfl HO.out ?_))
  exact bodyPost_ret (results_row_tmp2R rfl _ _ g 31 C (0, 0) _ (by rfl) H4.out.1.setRow Tryd.underlying31 HI.out) rfl ⟨rfl, H4.out.set.2.1⟩
set_option maxRecDepth 100000 in
set_option maxHeartbeats 8000000 in
theorem named_ok (a : Option Addr) (len cap : Nat) (zs : List Nat) (w : World) (h : Rd w a len zs) (h0 : 0 < len) (hcap : len ≤ cap) (hm : len ≤ 140737488355328) (hm0 : cap ≤ 9223372036854775807) (he : (rt (zs.drop 1) 128).2.2 = 0) (he2 : (rt (zs.drop (1 + (rt (zs.drop 1) 128).2.1)) 128).2.2 = 0) :
    Calls Tryd.prog 34 #[.slice a len cap] w (NM a len zs w (nmL zs)) := by
  obtain ⟨b, off, rfl⟩ : ∃ b off, a = some ⟨b, off, none⟩ := by
    rcases h.2.2 with h0 | ⟨b, off, e, _⟩
    · omega
    · exact ⟨b, off, e⟩
  have HR := Lib.hid h
  have HZB := Lib.hid h.2.1
  have hzl := h.1
  obtain ⟨z, hz⟩ : ∃ z, z = zs.getD 0 0 := ⟨_, rfl⟩
  have HC0 := Lib.hid (show ∀ W, Bq w w.heap.size 31 (recC rc0) W → (Instr.loadAt 5 (.pointer (some ⟨b, off + 0, none⟩))).run Tryd.prog W = .ok (.int .u8 (z : Int)) W from fun W hW => by
    rcases (h.below hW.2.1).2.2 with h0 | ⟨b', off', e, _, hc⟩
    · omega
    · cases e
      have c0 := hc 0 (by omega)
      rw [← hz, Nat.add_zero] at c0
      clear hz
      rw [Nat.add_zero]
      go_simp)
  have hzlt : z < 256 := by
    rw [hz]
    match zs, hzl, h.2.1 with
    | y :: l, _, hb => exact hb y (by simp)
    | [], hzl, _ => simp at hzl; omega
  have hcz : wrap64 (z : Int) = (z : Int) := IntWalk.wrap64_in _ (by omega)
  have hcz2 : IntKind.i64.wrap (z : Int) = (z : Int) := by rw [IntKind.wrap_i64]; omega
  obtain ⟨A1, hA1⟩ : ∃ A, A = sla (some ⟨b, off, none⟩) cap 1 := ⟨_, rfl⟩
  have HA1 := Lib.hid hA1
  have HR1 := Lib.hid fun W (hW : Rd W (some ⟨b, off, none⟩) len zs) => show Rd W A1 (len - 1) (zs.drop 1) from by rw [hA1]; exact hW.cut cap 1 (by omega) hcap
  have HN1 := Lib.hid (show A1 = none → cap - 1 = 0 from fun e => by rw [hA1] at e; exact absurd (sla_none _ _ _ e) (by simp))
  have HT1 := Lib.hid fun W (hW : Below w.heap.size w W) => readText_c A1 (len - 1) (cap - 1) (zs.drop 1) 128 W (HR1.out W (HR.out.below hW)) (by omega) (by omega) (by omega) (by omega) (by omega)
  obtain ⟨P, u, e1, hr1⟩ : ∃ P u e, rt (zs.drop 1) 128 = (P, u, e) := ⟨_, _, _, rfl⟩
  rw [hr1] at HT1
  rw [hr1] at he he2
  simp only at he he2
  subst he
  obtain ⟨k1, k2, k3, k4, k5⟩ := rt_spec (fun x hx => h.2.1 x (List.mem_of_mem_drop hx)) hr1
  rw [List.length_drop] at k3
  obtain ⟨A2, hA2⟩ : ∃ A, A = sla A1 (cap - 1) u := ⟨_, rfl⟩
  have HA2 := Lib.hid hA2
  have hdd : (zs.drop 1).drop u = zs.drop (1 + u) := by rw [List.drop_drop]
  have HR2 := Lib.hid fun W (hW : Rd W (some ⟨b, off, none⟩) len zs) => show Rd W A2 (len - 1 - u) (zs.drop (1 + u)) from by rw [hA2, ← hdd]; exact (HR1.out W hW).cut (cap - 1) u (by omega) (by omega)
  have HN2 := Lib.hid (show A2 = none → cap - 1 - u = 0 from fun e => by rw [hA2] at e; have := HN1.out (sla_none _ _ _ e); omega)
  have HTX := Lib.hid fun W (hW : Below w.heap.size w W) => readText_c A2 (len - 1 - u) (cap - 1 - u) (zs.drop (1 + u)) 128 W (HR2.out W (HR.out.below hW)) (by omega) (by omega) (by omega) (by omega) (by omega)
  obtain ⟨Q, v, e2, hr2⟩ : ∃ Q v e, rt (zs.drop (1 + u)) 128 = (Q, v, e) := ⟨_, _, _, rfl⟩
  rw [hr2] at HTX he2
  simp only at he2
  have HPB := Lib.hid k5
  subst he2
  obtain ⟨q1, q2, q3, q4, q5⟩ := rt_spec (fun x hx => h.2.1 x (List.mem_of_mem_drop hx)) hr2
  rw [List.length_drop] at q3
  have HQB := Lib.hid q5
  obtain ⟨A3, hA3⟩ : ∃ A, A = sla A2 (cap - 1 - u) v := ⟨_, rfl⟩
  have HA3 := Lib.hid hA3
  have hdd2 : (zs.drop (1 + u)).drop v = zs.drop (1 + u + v) := by rw [List.drop_drop]
  have HR3 := Lib.hid fun W (hW : Rd W (some ⟨b, off, none⟩) len zs) => show Rd W A3 (len - 1 - u - v) (zs.drop (1 + u + v)) from by rw [hA3, ← hdd2]; exact (HR2.out W hW).cut (cap - 1 - u) v (by omega) (by omega)
  have HN3 := Lib.hid (show A3 = none → cap - 1 - u - v = 0 from fun e => by rw [hA3] at e; have := HN2.out (sla_none _ _ _ e); omega)
  have hnm : nmL zs = some (⟨(zs.getD 0 0 : Nat), uB P, uB Q, zs32, 0⟩, zs.drop (1 + u + v)) := by
    unfold nmL
    rw [if_neg (by omega), hr1]
    simp only
    rw [if_neg (by omega), hr2]
    simp only
    rw [if_neg (by omega)]
  rw [hnm, ← hz]
  unfold NM
  simp only
  have hrl : (zs.drop (1 + u + v)).length = len - 1 - u - v := by rw [List.length_drop]; omega
  rw [hrl]
  have hle : len - 1 - u - v ≤ cap - 1 - u - v := by omega
  have hlv : v ≤ len - 1 - u := by omega
  obtain ⟨RZ, hRZ⟩ : ∃ R, R = zs.drop (1 + u + v) := ⟨_, rfl⟩
  rw [← hRZ] at HR3 ⊢
  have HIX := Lib.hid (show (Tryd.prog.info? 31).map (·.size) = some (recC ⟨z, uB P, uB Q, zs32, 0⟩).size from by rw [recC_size dOk_zs]; exact info_p)
  have HOX := Lib.hid (recC_one ⟨z, uB P, uB Q, zs32, 0⟩)
  have HZX := Lib.hid (recC_size (r := ⟨z, uB P, uB Q, zs32, 0⟩) dOk_zs)
  have HBX := Lib.hid (built_rn z (uB P) (uB Q))
  obtain ⟨D, hD⟩ : ∃ D, D = recC ⟨z, uB P, uB Q, zs32, 0⟩ := ⟨_, rfl⟩
  rw [← hD] at HIX HOX HZX HBX ⊢
  clear hD
  have HI := Lib.hid (show (Tryd.prog.info? 31).map (·.size) = some (recC rc0).size from by rw [recC_size rc0_ok]; exact info_p)
  have HBU := Lib.hid built_r0
  obtain ⟨C, hC⟩ : ∃ C, C = recC rc0 := ⟨_, rfl⟩
  have HO := Lib.hid (recC_one rc0)
  have HZ := Lib.hid (recC_size rc0_ok)
  have HCC := Lib.hid hC
  rw [← hC] at HI HBU HO HZ
  clear hC
  have hul : u ≤ len - 1 := by omega
  clear h hz hA1 hr1 HZB k1 k2 k3 k4 k5 hA2 hdd hr2 q1 q2 q3 q4 q5 hA3 hdd2 hnm hrl hRZ
  go_enter Tryd.func34, Tryd.ntmps34
  go_upto_region 1 with (fail)
  obtain ⟨g, hg⟩ : ∃ g, g = w.heap.size := ⟨_, rfl⟩
  refine gen_codeR (F := Bq w g 31 C) (by rw [hg, HCC.out]; exact Bq.new _ _ _) ?_
  rw [← hg]
  intro w0 hb0
  have H0 := Lib.hid hb0
  rw [← HCC.out, ← hg] at HC0
  clear hg hb0
  go_upto_region 3 with fail
  have HS0 := Lib.hid (show Bq w g 31 C w0.drew from H0.out.step (below_drewN' _ w0 1))
  refine anyH_begin (S := Bq w g 31 C) (by kernel_rfl) ?_
  obtain ⟨w2, hw2⟩ : ∃ w2, w2 = w0.drew := ⟨_, rfl⟩
  have HS := Lib.hid (show Bq w g 31 C w2 from by rw [hw2]; exact HS0.out)
  rw [← hw2]
  clear hw2 HS0 H0
  refine anyH_pureG 0 (d := 15) (op := .move (.tmp 0)) (gd := none) (.slice (some ⟨b, off, none⟩) len cap) (by rfl) (fun o ho => wanted_plain ho _) (by kernel_rfl) (by kernel_rfl) (by kernel_rfl) (fun _ _ _ h => h) (fun o ho W hW => by unfold execOp; simp only [ho]; go_simp) HS.out ?_
  simp only [Act.put, List.setIfInBounds_toArray, List.set_cons_zero, List.set_cons_succ]
  refine anyH_pureG 1 (d := 16) (op := .indexAddr 25 (.tmp 15) (.const (.int .i64 0))) (gd := none) (.pointer (some ⟨b, off + 0, none⟩)) (by rfl) (fun o ho => wanted_plain ho _) (by kernel_rfl) (by kernel_rfl) (by kernel_rfl) (fun _ _ _ h => h) (fun o ho W hW => exec_idxR (k := 0) (by omega) (by rfl) (by rfl) o ho W) HS.out ?_
  simp only [Act.put, List.setIfInBounds_toArray, List.set_cons_zero, List.set_cons_succ]
  refine anyH_loadG 2 (d := 17) (ty := 5) (x := (.tmp 16)) (gd := none) (p := .pointer (some ⟨b, off + 0, none⟩)) (.int .u8 (z : Int)) (by rfl) (fun o ho => wanted_plain ho _) (by kernel_rfl) (by kernel_rfl) (by kernel_rfl) (fun _ _ _ h => h) (by rfl) (fun W hW => HC0.out W hW) HS.out ?_
  simp only [Act.put, List.setIfInBounds_toArray, List.set_cons_zero, List.set_cons_succ]
  refine anyH_pureG 3 (d := 18) (op := .convert 5 3 (.tmp 17)) (gd := none) (.int .i64 (z : Int)) (by rfl) (fun o ho => wanted_plain ho _) (by kernel_rfl) (by kernel_rfl) (by kernel_rfl) (fun _ _ _ h => h) (fun o ho W hW => by unfold execOp; simp only [ho]; go_simp; try (first | exact hcz | exact hcz2)) HS.out ?_
  simp only [Act.put, List.setIfInBounds_toArray, List.set_cons_zero, List.set_cons_succ]
  refine anyH_pureG 4 (d := 19) (op := .move (.tmp 0)) (gd := none) (.slice (some ⟨b, off, none⟩) len cap) (by rfl) (fun o ho => wanted_plain ho _) (by kernel_rfl) (by kernel_rfl) (by kernel_rfl) (fun _ _ _ h => h) (fun o ho W hW => by unfold execOp; simp only [ho]; go_simp) HS.out ?_
  simp only [Act.put, List.setIfInBounds_toArray, List.set_cons_zero, List.set_cons_succ]
  refine anyH_pureG 5 (d := 20) (op := .slice 25 (.tmp 19) (some (.const (.int .i64 1))) none none) (gd := none) (.slice A1 (len - 1) (cap - 1)) (by rfl) (fun o ho => wanted_plain ho _) (by kernel_rfl) (by kernel_rfl) (by kernel_rfl) (fun _ _ _ h => h) (fun o ho W hW => by rw [HA1.out]; exact exec_cutS (k := 1) (by omega) (by rfl) (by rfl) o ho W) HS.out ?_
  simp only [Act.put, List.setIfInBounds_toArray, List.set_cons_zero, List.set_cons_succ]
  refine anyH_pureG 6 (d := 5) (op := .assign (.tmp 18)) (gd := none) (.int .i64 (z : Int)) (by rfl) (fun o ho => wanted_plain ho _) (by kernel_rfl) (by kernel_rfl) (by kernel_rfl) (fun _ _ _ h => h) (fun o ho W hW => by unfold execOp; simp only [ho]; go_simp) HS.out ?_
  simp only [Act.put, List.setIfInBounds_toArray, List.set_cons_zero, List.set_cons_succ]
  refine anyH_pureG 7 (d := 6) (op := .assign (.tmp 20)) (gd := none) (.slice A1 (len - 1) (cap - 1)) (by rfl) (fun o ho => wanted_plain ho _) (by kernel_rfl) (by kernel_rfl) (by kernel_rfl) (fun _ _ _ h => h) (fun o ho W hW => by unfold execOp; simp only [ho]; go_simp) HS.out ?_
  simp only [Act.put, List.setIfInBounds_toArray, List.set_cons_zero, List.set_cons_succ]
  refine wpAnyH_done (by kernel_rfl) ?_ _
  have HT2 := Lib.hid (HT1.out w2 HS.out.2.1)
  clear HT1 HC0
  go_wp2_with fail
  refine HT2.out.mono ?_
  rintro e w3 ⟨v3, rfl, ho3, hb3⟩
  obtain ⟨aP, nP, cP, rfl, hlP, -, -, hnP, hrP, -⟩ := ho3.form HPB.out
  have HOWP := Lib.hid (show True ∧ (0 < nP → ∀ j, blkOf aP = some j → w2.heap.size ≤ j) from ⟨trivial, fun h0 j e => own_blk ho3 h0 j e⟩)
  have H3 := Lib.hid (HS.out.step hb3)
  have HRP := Lib.hid hrP
  clear ho3 hb3 HT2 hlP hnP hrP
  have HT3 := Lib.hid (HTX.out w3 H3.out.2.1)
  clear HTX
  go_wp2_with (refine wpList_runR (by rfl) (.slice A2 (len - 1 - u) (cap - 1 - u)) (by rw [HA2.out]; exact exec_cutS (a := A1) (len := len - 1) (cap := cap - 1) (k := u) hul (by rfl) (by rfl) _ rfl _) ?_)
  refine HT3.out.mono ?_
  rintro e w4 ⟨v4, rfl, ho4, hb4⟩
  have H4 := Lib.hid (H3.out.step hb4)
  obtain ⟨aQ, nQ, cQ, rfl, hlQ, -, -, hnQ, hrQ, -⟩ := ho4.form HQB.out
  have HRQ := Lib.hid hrQ
  have HBK := Lib.hid (show (0 < nP → blkOf aP ≠ some g) ∧ (0 < nQ → blkOf aQ ≠ some g) from ⟨fun h0 e => by
    have h1 := HOWP.out.2 h0 g e
    have h2 := HS.out.1.lt
    omega, fun h0 e => by
    have h1 := own_blk ho4 h0 g e
    have h2 := H3.out.1.lt
    omega⟩)
  have HRP4 := Lib.hid (HRP.out.below hb4)
  clear ho4 hb4 HT3 hlQ hnQ hrQ
  go_upto_region 11 with fail
  have HS40 := Lib.hid (show NS w g 31 aP nP P aQ nQ Q w4.drew from ⟨⟨C, H4.out.step (below_drewN' _ w4 1)⟩, HRP4.out, HRQ.out⟩)
  refine anyH_begin (S := NS w g 31 aP nP P aQ nQ Q) (by kernel_rfl) ?_
  obtain ⟨w5, hw5⟩ : ∃ w5, w5 = w4.drew := ⟨_, rfl⟩
  have HS := Lib.hid (show NS w g 31 aP nP P aQ nQ Q w5 from by rw [hw5]; exact HS40.out)
  have H5 := Lib.hid (show Bq w g 31 C w5 from by rw [hw5]; exact H4.out.step (below_drewN' _ w4 1))
  rw [← hw5]
  clear hw5 HS40 H4 H3
  refine anyH_pureG 0 (d := 42) (op := .move (.tmp 5)) (gd := none) (.int .i64 (z : Int)) (by rfl) (fun o ho => wanted_plain ho _) (by kernel_rfl) (by kernel_rfl) (by kernel_rfl) (fun _ _ _ h => h) (fun o ho W hW => by unfold execOp; simp only [ho]; go_simp) HS.out ?_
  simp only [Act.put, List.setIfInBounds_toArray, List.set_cons_zero, List.set_cons_succ]
  refine anyH_pureG 1 (d := 43) (op := .move (.tmp 7)) (gd := none) (.slice aP nP cP) (by rfl) (fun o ho => wanted_plain ho _) (by kernel_rfl) (by kernel_rfl) (by kernel_rfl) (fun _ _ _ h => h) (fun o ho W hW => by unfold execOp; simp only [ho]; go_simp) HS.out ?_
  simp only [Act.put, List.setIfInBounds_toArray, List.set_cons_zero, List.set_cons_succ]
  refine anyH_pureG 2 (d := 44) (op := .convert 25 9 (.tmp 43)) (gd := none) (.string (T (uB P))) (by rfl) (fun o ho => wanted_plain ho _) (by kernel_rfl) (by kernel_rfl) (by kernel_rfl) (fun _ _ _ h => h) (fun o ho W hW => exec_strS hW.p (by rfl) o ho) HS.out ?_
  simp only [Act.put, List.setIfInBounds_toArray, List.set_cons_zero, List.set_cons_succ]
  refine anyH_pureG 3 (d := 45) (op := .move (.tmp 10)) (gd := none) (.slice aQ nQ cQ) (by rfl) (fun o ho => wanted_plain ho _) (by kernel_rfl) (by kernel_rfl) (by kernel_rfl) (fun _ _ _ h => h) (fun o ho W hW => by unfold execOp; simp only [ho]; go_simp) HS.out ?_
  simp only [Act.put, List.setIfInBounds_toArray, List.set_cons_zero, List.set_cons_succ]
  refine anyH_pureG 4 (d := 46) (op := .convert 25 9 (.tmp 45)) (gd := none) (.string (T (uB Q))) (by rfl) (fun o ho => wanted_plain ho _) (by kernel_rfl) (by kernel_rfl) (by kernel_rfl) (fun _ _ _ h => h) (fun o ho W hW => exec_strS hW.q (by rfl) o ho) HS.out ?_
  simp only [Act.put, List.setIfInBounds_toArray, List.set_cons_zero, List.set_cons_succ]
  refine anyH_pureG 5 (d := 47) (op := .build 31 #[(0, (.tmp 42)), (1, (.tmp 44)), (2, (.tmp 46))]) (gd := none) (.agg D) (by rfl) (fun o ho => wanted_plain ho _) (by kernel_rfl) (by kernel_rfl) (by kernel_rfl) (fun _ _ _ h => h) (fun o ho W hW => exec_buildR (by simp only [List.map_toArray, List.map_cons, List.map_nil]; exact HBX.out) o ho W) HS.out ?_
  simp only [Act.put, List.setIfInBounds_toArray, List.set_cons_zero, List.set_cons_succ]
  refine anyH_pureG 6 (d := 48) (op := .move (.tmp 6)) (gd := none) (.slice A2 (len - 1 - u) (cap - 1 - u)) (by rfl) (fun o ho => wanted_plain ho _) (by kernel_rfl) (by kernel_rfl) (by kernel_rfl) (fun _ _ _ h => h) (fun o ho W hW => by unfold execOp; simp only [ho]; go_simp) HS.out ?_
  simp only [Act.put, List.setIfInBounds_toArray, List.set_cons_zero, List.set_cons_succ]
  refine anyH_pureG 7 (d := 49) (op := .move (.tmp 8)) (gd := none) (.int .i64 (v : Int)) (by rfl) (fun o ho => wanted_plain ho _) (by kernel_rfl) (by kernel_rfl) (by kernel_rfl) (fun _ _ _ h => h) (fun o ho W hW => by unfold execOp; simp only [ho]; go_simp) HS.out ?_
  simp only [Act.put, List.setIfInBounds_toArray, List.set_cons_zero, List.set_cons_succ]
  refine anyH_pureG 8 (d := 50) (op := .slice 25 (.tmp 48) (some (.tmp 49)) none none) (gd := none) (.slice A3 (len - 1 - u - v) (cap - 1 - u - v)) (by rfl) (fun o ho => wanted_plain ho _) (by kernel_rfl) (by kernel_rfl) (by kernel_rfl) (fun _ _ _ h => h) (fun o ho W hW => by rw [HA3.out]; exact exec_cutS (a := A2) (len := len - 1 - u) (cap := cap - 1 - u) (k := v) hlv (by rfl) (by rfl) o ho W) HS.out ?_
  simp only [Act.put, List.setIfInBounds_toArray, List.set_cons_zero, List.set_cons_succ]
  refine anyH_oneT 9 (d1 := none) (op1 := .store 31 (.tmp 2) (.tmp 47)) (by kernel_rfl) (by rfl) (fun o hod hoo => ?_)
  refine wp_store_mid 31 (.tmp 2) (.tmp 47) hoo g 0 D (by rfl) (by rfl) (H5.out.1.thereR 0 _ (by rw [HZX.out, HZ.out]; exact Nat.le_refl _)) HIX.out HOX.out ?_
  have hs6 : RW (w5.setCells g 0 D.toList) g 31 D := H5.out.1.setCells (by rw [HZX.out, HZ.out])
  have ho6 : Only g w5 (w5.setCells g 0 D.toList) := Only.setCells _ 0 (Only.refl _ _)
  have H6 := Lib.hid (show Bq w g 31 D (w5.setCells g 0 D.toList) from ⟨hs6, H5.out.2.1.trans (ho6.below H5.out.2.2 H5.out.2.1.size), H5.out.2.2⟩)
  have HS6 := Lib.hid (show NS w g 31 aP nP P aQ nQ Q (w5.setCells g 0 D.toList) from HS.out.only ho6 ⟨D, H6.out⟩ HBK.out)
  obtain ⟨w6, hw6⟩ : ∃ w6, w6 = w5.setCells g 0 D.toList := ⟨_, rfl⟩
  rw [← hw6] at H6 HS6 ⊢
  clear hs6 ho6 hw6 HS H5
  refine ⟨HS6.out, ?_⟩
  rw [hod]
  simp only [Act.put, List.setIfInBounds_toArray, List.set_cons_zero, List.set_cons_succ]
  refine anyH_pureG 10 (d := 3) (op := .assign (.tmp 50)) (gd := none) (.slice A3 (len - 1 - u - v) (cap - 1 - u - v)) (by rfl) (fun o ho => wanted_plain ho _) (by kernel_rfl) (by kernel_rfl) (by kernel_rfl) (fun _ _ _ h => h) (fun o ho W hW => by unfold execOp; simp only [ho]; go_simp) HS6.out ?_
  simp only [Act.put, List.setIfInBounds_toArray, List.set_cons_zero, List.set_cons_succ]
  refine anyH_pureG 11 (d := 4) (op := .assign (.const (.bool true))) (gd := none) (.bool true) (by rfl) (fun o ho => wanted_plain ho _) (by kernel_rfl) (by kernel_rfl) (by kernel_rfl) (fun _ _ _ h => h) (fun o ho W hW => by unfold execOp; simp only [ho]; go_simp) HS6.out ?_
  simp only [Act.put, List.setIfInBounds_toArray, List.set_cons_zero, List.set_cons_succ]
  refine wpAnyH_done (by kernel_rfl) ?_ _
  go_wp2_with fail
  exact bodyPost_ret (results_row_tmp2R rfl _ _ g 31 D (0, 0) _ (by rfl) H6.out.1 Tryd.underlying31 HIX.out) rfl ⟨_, _, rfl, hle, HN3.out, HR3.out, H6.out.2.1⟩
/-- the names with which bytes begin -/
theorem named_c (a : Option Addr) (len cap : Nat) (zs : List Nat) (w : World) (h : Rd w a len zs) (hcap : len ≤ cap) (hm : len ≤ 140737488355328) (hm0 : cap ≤ 9223372036854775807) :
    Calls Tryd.prog 34 #[.slice a len cap] w (NM a len zs w (nmL zs)) := by
  have hzl := h.1
  by_cases h0 : len = 0
  · subst h0
    have e : nmL zs = none := if_pos hzl
    rw [e]
    exact named_nil a cap w
  · by_cases h1 : (rt (zs.drop 1) 128).2.2 = 0
    · by_cases h2 : (rt (zs.drop (1 + (rt (zs.drop 1) 128).2.1)) 128).2.2 = 0
      · exact named_ok a len cap zs w h (by omega) hcap hm hm0 h1 h2
      · have e : nmL zs = none := by unfold nmL; rw [if_neg (by omega), if_neg (by omega), if_pos h2]
        rw [e]
        exact named_t2 a len cap zs w h (by omega) hcap hm hm0 h1 h2
    · have e : nmL zs = none := by unfold nmL; rw [if_neg (by omega), if_pos h1]
      rw [e]
      exact named_t1 a len cap zs w h (by omega) hcap hm hm0 h1
end Go.Proofs.YtjjkfbebaoikbaaDoor.Rc
