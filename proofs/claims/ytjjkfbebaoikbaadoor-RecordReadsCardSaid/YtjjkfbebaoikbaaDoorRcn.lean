/-
  Records and heads are compared; the walk over RecordWrites.
-/
import Derived.Test.YtjjkfbebaoikbaaDoorRcm
namespace Go.Proofs.YtjjkfbebaoikbaaDoor.Rc
open Go.RowKit Go.Proofs.Nm Go.Proofs.YtjjkfbebaoikbaaDoor
set_option linter.unusedVariables false
/-- boxes and rows of bytes that stand -/
structure LF (w : World) (bs : List (Nat × TypeId × Array Value)) (rs : List (Option Addr × Nat × List Nat)) (W : World) : Prop where
  box : ∀ b ∈ bs, RW W b.1 b.2.1 b.2.2
  row : ∀ r ∈ rs, Rd W r.1 r.2.1 r.2.2
  below : Below w.heap.size w W
theorem LF.step {w W W' : World} {bs : List (Nat × TypeId × Array Value)} {rs : List (Option Addr × Nat × List Nat)} (h : LF w bs rs W) (hb : Below W.heap.size W W') : LF w bs rs W' := ⟨fun b hbm => (h.box b hbm).below hb, fun r hr => (h.row r hr).below hb, h.below.trans (hb.mono h.below.size)⟩
theorem LF.addRow {w W : World} {bs : List (Nat × TypeId × Array Value)} {rs : List (Option Addr × Nat × List Nat)} (h : LF w bs rs W) {a : Option Addr} {n : Nat} {zs : List Nat} (hr : Rd W a n zs) : LF w bs (rs ++ [(a, n, zs)]) W := ⟨h.box, fun r hm => by
  rcases List.mem_append.1 hm with h1 | h1
  · exact h.row r h1
  · obtain rfl : r = (a, n, zs) := by simpa using h1
    exact hr, h.below⟩
theorem LF.addBox {w W : World} {bs : List (Nat × TypeId × Array Value)} {rs : List (Option Addr × Nat × List Nat)} (h : LF w bs rs W) {g : Nat} {t : TypeId} {C : Array Value} (hr : RW W g t C) : LF w (bs ++ [(g, t, C)]) rs W := ⟨fun r hm => by
  rcases List.mem_append.1 hm with h1 | h1
  · exact h.box r h1
  · obtain rfl : r = (g, t, C) := by simpa using h1
    exact hr, h.row, h.below⟩
/-- a new box, whatever else there is -/
theorem LF.newBox {w W : World} {bs : List (Nat × TypeId × Array Value)} {rs : List (Option Addr × Nat × List Nat)} (h : LF w bs rs W) (t : TypeId) (C D : Array Value) : LF w (bs ++ [(W.heap.size, t, D)]) rs ((W.alloc (.cells C t (0, 0))).setRow W.heap.size D) := by
  obtain ⟨h1, h2⟩ := new_box W t C D
  exact (h.step h2).addBox h1
theorem sizeR (C : Array Value) (T : TypeId) (n : Nat) (h : (Tryd.prog.info? T).map (·.size) = some n) (hc : C.size = n) : (Tryd.prog.info? T).map (·.size) = some C.size := by rw [hc]; exact h
theorem eqFields_consR (d : Nat) (xs ys : Array Value) (f : Field) (fs : List Field) (W : World) (hn : f.name ≠ "_") (a b : Value) (ha : (part f.type xs f.offset).run Tryd.prog W = .ok a W) (hb : (part f.type ys f.offset).run Tryd.prog W = .ok b W) (r : Bool)
    (hr : (Op.equalIn d f.type a b).run Tryd.prog W = .ok r W) : (Op.eqFields d xs ys (f :: fs)).run Tryd.prog W = if r then (Op.eqFields d xs ys fs).run Tryd.prog W else .ok false W := by
  conv => lhs; unfold Op.eqFields
  rw [if_pos hn]
  simp only [Sem.run_bind, ha, hb, hr, Result.andThen_ok]
  cases r
  · rfl
  · rfl
theorem rpart_k (r : Rcv) (W : World) : (part 3 (recC r) 0).run Tryd.prog W = .ok (.int .i64 r.k) W := by kernel_rfl
theorem rpart_a (r : Rcv) (W : World) : (part 9 (recC r) 1).run Tryd.prog W = .ok (.string (T r.repo)) W := by kernel_rfl
theorem rpart_b (r : Rcv) (W : World) : (part 9 (recC r) 2).run Tryd.prog W = .ok (.string (T r.tag)) W := by kernel_rfl
theorem rpart_x (r : Rcv) (hx : r.dig.length = 32) (W : World) : (part 22 (recC r) 3).run Tryd.prog W = .ok (.agg (cellsOf r.dig).toArray) W := by
  obtain ⟨k, a, b, x, t⟩ := r
  simp only at hx
  obtain ⟨f, rfl⟩ := list32n hx
  clear hx
  kernel_rfl
theorem rpart_t (r : Rcv) (hx : r.dig.length = 32) (W : World) : (part 3 (recC r) 35).run Tryd.prog W = .ok (.int .i64 r.t) W := by
  obtain ⟨k, a, b, x, t⟩ := r
  simp only at hx
  obtain ⟨f, rfl⟩ := list32n hx
  clear hx
  kernel_rfl
noncomputable def rfld (i : Nat) : Field := (Tryd.prog.fieldsOf 24).toList.getD i (Field.mk "" 0 0 false "" "" 0)
theorem rflds : (Tryd.prog.fieldsOf 24).toList = [rfld 0, rfld 1, rfld 2, rfld 3, rfld 4] := by kernel_rfl
theorem rfld_t : (rfld 0).type = 3 ∧ (rfld 1).type = 9 ∧ (rfld 2).type = 9 ∧ (rfld 3).type = 22 ∧ (rfld 4).type = 3 := ⟨by kernel_rfl, by kernel_rfl, by kernel_rfl, by kernel_rfl, by kernel_rfl⟩
theorem rfld_o : (rfld 0).offset = 0 ∧ (rfld 1).offset = 1 ∧ (rfld 2).offset = 2 ∧ (rfld 3).offset = 3 ∧ (rfld 4).offset = 35 := ⟨by kernel_rfl, by kernel_rfl, by kernel_rfl, by kernel_rfl, by kernel_rfl⟩
theorem rfld_n : ∀ i, i < 5 → ((rfld i).name ≠ "_") := fun i hi => by
  match i, hi with
  | 0, _ => rw [show (rfld 0).name = "Kind" by kernel_rfl]; decide
  | 1, _ => rw [show (rfld 1).name = "Repo" by kernel_rfl]; decide
  | 2, _ => rw [show (rfld 2).name = "Tag" by kernel_rfl]; decide
  | 3, _ => rw [show (rfld 3).name = "Digest" by kernel_rfl]; decide
  | 4, _ => rw [show (rfld 4).name = "Time" by kernel_rfl]; decide
theorem T_toList (a : List UInt8) : (T a).toList = a := by rw [Lib.toList_data]
theorem rcv_ext (r s : Rcv) : (r = s) ↔ (r.k = s.k ∧ r.repo = s.repo ∧ r.tag = s.tag ∧ r.dig = s.dig ∧ r.t = s.t) := by
  constructor
  · rintro rfl; exact ⟨rfl, rfl, rfl, rfl, rfl⟩
  · obtain ⟨a, b, c, d, e⟩ := r
    obtain ⟨a', b', c', d', e'⟩ := s
    rintro ⟨h1, h2, h3, h4, h5⟩
    simp only at h1 h2 h3 h4 h5
    subst h1 h2 h3 h4 h5
    rfl
instance (r s : Rcv) : Decidable (r = s) := decidable_of_iff _ (rcv_ext r s).symm
/-- two records are one just if all their members are -/
theorem eq_rec (r s : Rcv) (hr : dOk r.dig) (hs : dOk s.dig) (W : World) : (Op.equalIn 10000 24 (.agg (recC r)) (.agg (recC s))).run Tryd.prog W = .ok (decide (r = s)) W := by
  rw [run_equalIn_agg W 9999 24 _ _ (by kernel_rfl) (by kernel_rfl), rflds]
  obtain ⟨t0, t1, t2, t3, t4⟩ := rfld_t
  obtain ⟨o0, o1, o2, o3, o4⟩ := rfld_o
  have e0 := eqFields_consR 9999 (recC r) (recC s) (rfld 0) [rfld 1, rfld 2, rfld 3, rfld 4] W (rfld_n 0 (by omega)) (.int .i64 r.k) (.int .i64 s.k) (by rw [t0, o0]; exact rpart_k r W) (by rw [t0, o0]; exact rpart_k s W) (r.k == s.k) (by rw [t0, run_equalIn_int W 9998 _ .i64 .i64 _ _ Tryd.underlying3])
  have e1 := eqFields_consR 9999 (recC r) (recC s) (rfld 1) [rfld 2, rfld 3, rfld 4] W (rfld_n 1 (by omega)) (.string (T r.repo)) (.string (T s.repo)) (by rw [t1, o1]; exact rpart_a r W) (by rw [t1, o1]; exact rpart_a s W) (r.repo == s.repo) (by rw [t1, run_equalIn_string W 9998 _ _ _ Tryd.underlying9, T_toList, T_toList])
  have e2 := eqFields_consR 9999 (recC r) (recC s) (rfld 2) [rfld 3, rfld 4] W (rfld_n 2 (by omega)) (.string (T r.tag)) (.string (T s.tag)) (by rw [t2, o2]; exact rpart_b r W) (by rw [t2, o2]; exact rpart_b s W) (r.tag == s.tag) (by rw [t2, run_equalIn_string W 9998 _ _ _ Tryd.underlying9, T_toList, T_toList])
  have e3 := eqFields_consR 9999 (recC r) (recC s) (rfld 3) [rfld 4] W (rfld_n 3 (by omega)) (.agg (cellsOf r.dig).toArray) (.agg (cellsOf s.dig).toArray) (by rw [t3, o3]; exact rpart_x r hr.1 W) (by rw [t3, o3]; exact rpart_x s hs.1 W) (decide (r.dig = s.dig)) (by rw [t3]; exact eq_dig 22 32 9997 und_dr W r.dig s.dig hr.1 hs.1 hr.2 hs.2)
  have e4 := eqFields_consR 9999 (recC r) (recC s) (rfld 4) [] W (rfld_n 4 (by omega)) (.int .i64 r.t) (.int .i64 s.t) (by rw [t4, o4]; exact rpart_t r hr.1 W) (by rw [t4, o4]; exact rpart_t s hs.1 W) (r.t == s.t) (by rw [t4, run_equalIn_int W 9998 _ .i64 .i64 _ _ Tryd.underlying3])
  rw [e0, e1, e2, e3, e4]
  have e5 : (Op.eqFields 9999 (recC r) (recC s) []).run Tryd.prog W = .ok true W := rfl
  rw [e5]
  by_cases h0 : r.k = s.k
  · by_cases h1 : r.repo = s.repo
    · by_cases h2 : r.tag = s.tag
      · by_cases h3 : r.dig = s.dig
        · by_cases h4 : r.t = s.t
          · rw [decide_eq_true (p := r = s) ((rcv_ext r s).2 ⟨h0, h1, h2, h3, h4⟩)]; simp [h0, h1, h2, h3, h4]
          · rw [decide_eq_false (p := r = s) (fun e => h4 ((rcv_ext r s).1 e).2.2.2.2)]; simp [h0, h1, h2, h3, h4]
        · rw [decide_eq_false (p := r = s) (fun e => h3 ((rcv_ext r s).1 e).2.2.2.1)]; simp [h0, h1, h2, h3]
      · rw [decide_eq_false (p := r = s) (fun e => h2 ((rcv_ext r s).1 e).2.2.1)]; simp [h0, h1, h2]
    · rw [decide_eq_false (p := r = s) (fun e => h1 ((rcv_ext r s).1 e).2.1)]; simp [h0, h1]
  · rw [decide_eq_false (p := r = s) (fun e => h0 ((rcv_ext r s).1 e).1)]; simp [h0]
theorem eqg_q : Tryd.prog.eqGuardType Tryd.prog.depth 24 = false := by kernel_rfl
theorem RD.below {v : Value} {w w' : World} {e : Ending} (h : RetD v w e w') : e = .returned v ∧ Below w.heap.size w w' := ⟨h.1, by obtain ⟨n, rfl⟩ := h.2; exact below_drewN' _ _ n⟩
set_option maxRecDepth 100000 in
set_option maxHeartbeats 8000000 in
theorem rwrites_c (r : Rcv) (w : World) (hd : dOk r.dig) (hs : SzR r) :
    Calls Tryd.prog 3 #[.agg (recC r)] w fun e w' => e = .returned (.bool true) ∧ Below w.heap.size w w' := by
  have HI := Lib.hid (sizeR (recC r) 24 36 info_q (recC_size hd))
  have HTO := Lib.hid fun W => to_c r hd W
  have HEN := Lib.hid fun W => enc_c r hd hs W
  have HRE := Lib.hid fun W => renc_c r hd hs W
  have HRI := Lib.hid fun W => right_c r hd hs W
  have HRR := Lib.hid fun W => rright_c r hd hs W
  have HXB := Lib.hid (encX_byte r hd)
  have HXL := Lib.hid (encX_len r hd)
  obtain ⟨X, hX⟩ : ∃ X, X = encX r := ⟨_, rfl⟩
  rw [← hX] at HEN HRE HXB HXL
  obtain ⟨b, hb⟩ : ∃ b, b = rightB r := ⟨_, rfl⟩
  rw [← hb] at HRI HRR
  obtain ⟨C, hC⟩ : ∃ C, C = recC r := ⟨_, rfl⟩
  rw [← hC] at HI HTO HEN HRE HRI HRR ⊢
  clear hX hb hC hd hs
  obtain ⟨xs, n⟩ := X
  unfold ER at HEN HRE
  simp only at HEN HRE HXB HXL
  go_enter Tryd.func3, Tryd.ntmps3
  go_upto_region 1 with (fail)
  obtain ⟨g, hg⟩ : ∃ g, g = w.heap.size := ⟨_, rfl⟩
  refine gen_codeR (F := LF w [(g, 24, C)] []) (by
    rw [hg]
    exact ⟨fun b hb => by
      obtain rfl : b = (w.heap.size, 24, C) := by simpa using hb
      exact RW.new _ _ _, fun r hr => by simp at hr, (Below.refl _ w).alloc (Nat.le_refl _) _⟩) ?_
  rw [← hg]
  intro w0 h0
  have H0 := Lib.hid h0
  clear hg h0
  go_wp2_with (refine wpList_runR (by rfl) (.agg C) (exec_ldRow (H0.out.box (g, 24, C) (by simp)) Tryd.underlying24 HI.out (by rfl) _ rfl) ?_)
  refine (HTO.out _).mono ?_
  rintro e1 w1 ⟨rfl, hb1⟩
  have H1 := Lib.hid (H0.out.step hb1)
  clear hb1 H0
  go_wp2_with fail
  refine (HEN.out _).mono ?_
  rintro e2 w2 ⟨v2, rfl, ho2, hb2⟩
  obtain ⟨a1, n1, c1, rfl, hl1, -, -, -, hr1, -⟩ := ho2.form HXB.out
  have H2 := Lib.hid ((H1.out.step hb2).addRow hr1)
  have HN1 := Lib.hid (show n1 ≤ 1000 by have := HXL.out; omega)
  clear ho2 hb2 hl1 hr1 H1 HEN
  go_wp2_with (refine wpList_runR (by rfl) (.agg C) (exec_ldRow (H2.out.box (g, 24, C) (by simp)) Tryd.underlying24 HI.out (by rfl) _ rfl) ?_)
  refine (HRE.out _).mono ?_
  rintro e3 w3 ⟨v3, rfl, ho3, hb3⟩
  obtain ⟨a2, n2, c2, rfl, hl2, -, -, -, hr2, -⟩ := ho3.form HXB.out
  have H3 := Lib.hid (show LF w [(g, 24, C)] [(a1, n1, xs), (a2, n2, xs)] w3 from (H2.out.step hb3).addRow hr2)
  have HSM := Lib.hid fun W (hW : LF w [(g, 24, C)] [(a1, n1, xs), (a2, n2, xs)] W) => same_c a1 a2 n1 c1 n2 c2 xs xs W (hW.row (a1, n1, xs) (by simp)) (hW.row (a2, n2, xs) (by simp)) (by have := HN1.out; omega)
  simp only [decide_true] at HSM
  clear ho3 hb3 hl2 hr2 H2 HRE HXB HXL
  go_upto_region 3 with fail
  refine anyH_begin (S := LF w [(g, 24, C)] [(a1, n1, xs), (a2, n2, xs)]) (by kernel_rfl) ?_
  obtain ⟨w4, hw4⟩ : ∃ w4, w4 = w3.drew := ⟨_, rfl⟩
  have HS := Lib.hid (show LF w [(g, 24, C)] [(a1, n1, xs), (a2, n2, xs)] w4 from by rw [hw4]; exact H3.out.step (below_drewN' _ w3 1))
  rw [← hw4]
  clear hw4 H3
  refine anyH_callG 0 (d := some 18) (f := 10) (xs := #[]) (ts := #[]) (gd := none) (vs := #[]) (by kernel_rfl) (by rfl) (fun o ho => wanted_plain ho _) (by go_simp) (by go_simp) (awake14_c _) ?_
  rintro e Wq1 ⟨rfl, hbq1⟩
  have HSq1 := Lib.hid (HS.out.step hbq1)
  clear hbq1
  refine ⟨_, rfl, HSq1.out, fun _ => ?_⟩
  simp only [Act.put, List.setIfInBounds_toArray, List.set_cons_zero, List.set_cons_succ]
  refine anyH_pureG 1 (d := 19) (op := .move (.tmp 18)) (gd := none) (.bool true) (by rfl) (fun o ho => wanted_plain ho _) (by kernel_rfl) (by kernel_rfl) (by kernel_rfl) (fun _ _ _ h => h) (fun o ho W hW => by unfold execOp; simp only [ho]; go_simp) HSq1.out ?_
  simp only [Act.put, List.setIfInBounds_toArray, List.set_cons_zero, List.set_cons_succ]
  refine anyH_loadG 2 (d := 20) (ty := 24) (x := (.tmp 1)) (gd := some (1, true)) (p := .pointer (some ⟨g, 0, none⟩)) (.agg C) (by rfl) (fun o ho => by simp only [Region.wanted, ho]; rfl) (by kernel_rfl) (by kernel_rfl) (by kernel_rfl) (fun _ _ _ h => h) (by rfl) (fun W hW => (hW.box (g, 24, C) (by simp)).load Tryd.underlying24 HI.out) HSq1.out ?_
  simp only [Act.put, List.setIfInBounds_toArray, List.set_cons_zero, List.set_cons_succ]
  refine anyH_loadG 5 (d := 23) (ty := 24) (x := (.tmp 1)) (gd := some (1, true)) (p := .pointer (some ⟨g, 0, none⟩)) (.agg C) (by rfl) (fun o ho => by simp only [Region.wanted, ho]; rfl) (by kernel_rfl) (by kernel_rfl) (by kernel_rfl) (fun _ _ _ h => h) (by rfl) (fun W hW => (hW.box (g, 24, C) (by simp)).load Tryd.underlying24 HI.out) HSq1.out ?_
  simp only [Act.put, List.setIfInBounds_toArray, List.set_cons_zero, List.set_cons_succ]
  refine anyH_callG 3 (d := some 21) (f := 8) (xs := #[(.tmp 20)]) (ts := #[24]) (gd := some (1, true)) (vs := #[.agg C]) (by kernel_rfl) (by rfl) (fun o ho => by simp only [Region.wanted, ho]; rfl) (by go_simp) (by go_simp) (HTO.out _) ?_
  rintro e Wq2 ⟨rfl, hbq2⟩
  have HSq2 := Lib.hid (HSq1.out.step hbq2)
  clear hbq2
  refine ⟨_, rfl, HSq2.out, fun _ => ?_⟩
  simp only [Act.put, List.setIfInBounds_toArray, List.set_cons_zero, List.set_cons_succ]
  refine anyH_callG 4 (d := some 22) (f := 11) (xs := #[(.tmp 21)]) (ts := #[31]) (gd := some (1, true)) (vs := #[.agg C]) (by kernel_rfl) (by rfl) (fun o ho => by simp only [Region.wanted, ho]; rfl) (by go_simp) (by go_simp) (HRI.out _) ?_
  rintro e Wq3 ⟨rfl, hbq3⟩
  have HSq3 := Lib.hid (HSq2.out.step hbq3)
  clear hbq3
  refine ⟨_, rfl, HSq3.out, fun _ => ?_⟩
  simp only [Act.put, List.setIfInBounds_toArray, List.set_cons_zero, List.set_cons_succ]
  refine anyH_callG 6 (d := some 24) (f := 12) (xs := #[(.tmp 23)]) (ts := #[24]) (gd := some (1, true)) (vs := #[.agg C]) (by kernel_rfl) (by rfl) (fun o ho => by simp only [Region.wanted, ho]; rfl) (by go_simp) (by go_simp) (HRR.out _) ?_
  rintro e Wq4 ⟨rfl, hbq4⟩
  have HSq4 := Lib.hid (HSq3.out.step hbq4)
  clear hbq4
  refine ⟨_, rfl, HSq4.out, fun _ => ?_⟩
  simp only [Act.put, List.setIfInBounds_toArray, List.set_cons_zero, List.set_cons_succ]
  refine anyH_pureG 7 (d := 25) (op := .binOp .eql 4 (.tmp 22) (.tmp 24) 4) (gd := some (1, true)) (.bool true) (by rfl) (fun o ho => by simp only [Region.wanted, ho]; rfl) (by kernel_rfl) (by kernel_rfl) (by kernel_rfl) (fun _ _ _ h => h) (fun o ho W hW => by unfold execOp; simp only [ho]; go_simp; try simp) HSq4.out ?_
  simp only [Act.put, List.setIfInBounds_toArray, List.set_cons_zero, List.set_cons_succ]
  refine anyH_pureG 8 (d := 26) (op := .pick (.tmp 19) (.tmp 25) (.const (.bool false))) (gd := none) (.bool true) (by rfl) (fun o ho => wanted_plain ho _) (by kernel_rfl) (by kernel_rfl) (by kernel_rfl) (fun _ _ _ h => h) (fun o ho W hW => by unfold execOp; simp only [ho]; go_simp; try simp) HSq4.out ?_
  simp only [Act.put, List.setIfInBounds_toArray, List.set_cons_zero, List.set_cons_succ]
  refine anyH_pureG 9 (d := 27) (op := .move (.tmp 26)) (gd := none) (.bool true) (by rfl) (fun o ho => wanted_plain ho _) (by kernel_rfl) (by kernel_rfl) (by kernel_rfl) (fun _ _ _ h => h) (fun o ho W hW => by unfold execOp; simp only [ho]; go_simp) HSq4.out ?_
  simp only [Act.put, List.setIfInBounds_toArray, List.set_cons_zero, List.set_cons_succ]
  refine anyH_pureG 10 (d := 28) (op := .move (.tmp 4)) (gd := some (9, true)) (.int .i64 n) (by rfl) (fun o ho => by simp only [Region.wanted, ho]; rfl) (by kernel_rfl) (by kernel_rfl) (by kernel_rfl) (fun _ _ _ h => h) (fun o ho W hW => by unfold execOp; simp only [ho]; go_simp) HSq4.out ?_
  simp only [Act.put, List.setIfInBounds_toArray, List.set_cons_zero, List.set_cons_succ]
  refine anyH_pureG 11 (d := 29) (op := .move (.tmp 6)) (gd := some (9, true)) (.int .i64 n) (by rfl) (fun o ho => by simp only [Region.wanted, ho]; rfl) (by kernel_rfl) (by kernel_rfl) (by kernel_rfl) (fun _ _ _ h => h) (fun o ho W hW => by unfold execOp; simp only [ho]; go_simp) HSq4.out ?_
  simp only [Act.put, List.setIfInBounds_toArray, List.set_cons_zero, List.set_cons_succ]
  refine anyH_pureG 12 (d := 30) (op := .binOp .eql 3 (.tmp 28) (.tmp 29) 3) (gd := some (9, true)) (.bool true) (by rfl) (fun o ho => by simp only [Region.wanted, ho]; rfl) (by kernel_rfl) (by kernel_rfl) (by kernel_rfl) (fun _ _ _ h => h) (fun o ho W hW => by unfold execOp; simp only [ho]; go_simp; try simp) HSq4.out ?_
  simp only [Act.put, List.setIfInBounds_toArray, List.set_cons_zero, List.set_cons_succ]
  refine anyH_pureG 13 (d := 31) (op := .pick (.tmp 27) (.tmp 30) (.const (.bool false))) (gd := none) (.bool true) (by rfl) (fun o ho => wanted_plain ho _) (by kernel_rfl) (by kernel_rfl) (by kernel_rfl) (fun _ _ _ h => h) (fun o ho W hW => by unfold execOp; simp only [ho]; go_simp; try simp) HSq4.out ?_
  simp only [Act.put, List.setIfInBounds_toArray, List.set_cons_zero, List.set_cons_succ]
  refine anyH_pureG 14 (d := 32) (op := .move (.tmp 31)) (gd := none) (.bool true) (by rfl) (fun o ho => wanted_plain ho _) (by kernel_rfl) (by kernel_rfl) (by kernel_rfl) (fun _ _ _ h => h) (fun o ho W hW => by unfold execOp; simp only [ho]; go_simp) HSq4.out ?_
  simp only [Act.put, List.setIfInBounds_toArray, List.set_cons_zero, List.set_cons_succ]
  refine anyH_pureG 15 (d := 33) (op := .move (.tmp 3)) (gd := some (14, true)) (.slice a1 n1 c1) (by rfl) (fun o ho => by simp only [Region.wanted, ho]; rfl) (by kernel_rfl) (by kernel_rfl) (by kernel_rfl) (fun _ _ _ h => h) (fun o ho W hW => by unfold execOp; simp only [ho]; go_simp) HSq4.out ?_
  simp only [Act.put, List.setIfInBounds_toArray, List.set_cons_zero, List.set_cons_succ]
  refine anyH_pureG 16 (d := 34) (op := .move (.tmp 5)) (gd := some (14, true)) (.slice a2 n2 c2) (by rfl) (fun o ho => by simp only [Region.wanted, ho]; rfl) (by kernel_rfl) (by kernel_rfl) (by kernel_rfl) (fun _ _ _ h => h) (fun o ho W hW => by unfold execOp; simp only [ho]; go_simp) HSq4.out ?_
  simp only [Act.put, List.setIfInBounds_toArray, List.set_cons_zero, List.set_cons_succ]
  refine anyH_callG 17 (d := some 35) (f := 13) (xs := #[(.tmp 33), (.tmp 34)]) (ts := #[25, 25]) (gd := some (14, true)) (vs := #[.slice a1 n1 c1, .slice a2 n2 c2]) (by kernel_rfl) (by rfl) (fun o ho => by simp only [Region.wanted, ho]; rfl) (by go_simp) (by go_simp) ((HSM.out _ HSq4.out).mono fun e w' h => RD.below h) ?_
  rintro e Wq5 ⟨rfl, hbq5⟩
  have HSq5 := Lib.hid (HSq4.out.step hbq5)
  clear hbq5
  refine ⟨_, rfl, HSq5.out, fun _ => ?_⟩
  simp only [Act.put, List.setIfInBounds_toArray, List.set_cons_zero, List.set_cons_succ]
  refine anyH_pureG 18 (d := 36) (op := .pick (.tmp 32) (.tmp 35) (.const (.bool false))) (gd := none) (.bool true) (by rfl) (fun o ho => wanted_plain ho _) (by kernel_rfl) (by kernel_rfl) (by kernel_rfl) (fun _ _ _ h => h) (fun o ho W hW => by unfold execOp; simp only [ho]; go_simp; try simp) HSq5.out ?_
  simp only [Act.put, List.setIfInBounds_toArray, List.set_cons_zero, List.set_cons_succ]
  refine anyH_pureG 19 (d := 2) (op := .assign (.tmp 36)) (gd := none) (.bool true) (by rfl) (fun o ho => wanted_plain ho _) (by kernel_rfl) (by kernel_rfl) (by kernel_rfl) (fun _ _ _ h => h) (fun o ho W hW => by unfold execOp; simp only [ho]; go_simp) HSq5.out ?_
  simp only [Act.put, List.setIfInBounds_toArray, List.set_cons_zero, List.set_cons_succ]
  refine wpAnyH_done (by kernel_rfl) ?_ _
  go_wp2_with fail
  go_ret
  exact ⟨rfl, HSq5.out.below⟩
end Go.Proofs.YtjjkfbebaoikbaaDoor.Rc
