/-
  The document's record of any bytes.
-/
import Derived.Test.YtjjkfbebaoikbaaDoorRcl
namespace Go.Proofs.YtjjkfbebaoikbaaDoor.Rc
open Go.RowKit Go.Proofs.Nm Go.Proofs.YtjjkfbebaoikbaaDoor
set_option linter.unusedVariables false
theorem exec_cutU {a : Option Addr} {len cap k j : Nat} {t : Int} (hk : k ≤ len) (hj : len - k = j) (ht : t = (k : Int)) {A : Act} {x y : Operand} (hx : A.eval x = .slice a len cap) (hy : A.eval y = .int .i64 t) (o : Oper) (ho : o.op = .slice 25 x (some y) none none) (W : World) :
    (execOp A.eval o).run Tryd.prog W = .ok (.value (.slice (sla a cap k) j (cap - k))) W := by
  subst ht
  subst hj
  exact exec_cutS hk hx hy o ho W
theorem recC_one1 (k t : Int) (a b c : List UInt8) (x : List Nat) : (recC ⟨k, a, b, x, t⟩).setIfInBounds 1 (.string (T c)) = recC ⟨k, c, b, x, t⟩ := by
  apply Array.toList_inj.1
  rw [Array.toList_setIfInBounds]
  rfl
theorem recC_two2 (k t : Int) (a b c : List UInt8) (x : List Nat) : (recC ⟨k, a, b, x, t⟩).setIfInBounds 2 (.string (T c)) = recC ⟨k, a, c, x, t⟩ := by
  apply Array.toList_inj.1
  rw [Array.toList_setIfInBounds]
  rfl
theorem recC_at (k t : Int) (a b : List UInt8) (y : List Nat) (n z : Nat) (hn : n < y.length) : (recC ⟨k, a, b, y, t⟩).setIfInBounds (3 + n) (.int .u8 (z : Int)) = recC ⟨k, a, b, y.set n z, t⟩ := by
  apply Array.toList_inj.1
  rw [Array.toList_setIfInBounds]
  show (Value.int .i64 k :: .string (T a) :: .string (T b) :: (cellsOf y ++ [.int .i64 t])).set (3 + n) _ = Value.int .i64 k :: .string (T a) :: .string (T b) :: (cellsOf (y.set n z) ++ [.int .i64 t])
  rw [show 3 + n = n + 1 + 1 + 1 by omega, List.set_cons_succ, List.set_cons_succ, List.set_cons_succ, List.set_append_left _ _ (by rw [cellsOf_length]; exact hn), cells_set]
theorem yk_min (x : List Nat) (K : Nat) (hK : K = min 32 x.length) : yk x K = x.take 32 ++ List.replicate (32 - x.length) 0 := by
  unfold yk
  subst hK
  by_cases h : x.length ≤ 32
  · rw [Nat.min_eq_right h, List.take_of_length_le (Nat.le_refl _), List.take_of_length_le h]
  · rw [Nat.min_eq_left (by omega), show 32 - x.length = 0 by omega, Nat.sub_self]
theorem built_q0 : Tryd.prog.built 24 [] = some (recC rc0) := by kernel_rfl
theorem built_qk (k : Int) : Tryd.prog.built 24 [(0, .int .i64 k)] = some (recC ⟨k, [], [], zs32, 0⟩) := by kernel_rfl
theorem exec_cvR {m : Nat} (hm : m ≤ 9223372036854775807) {A : Act} {x : Operand} (hx : A.eval x = .int .u64 (m : Int)) (o : Oper) (ho : o.op = .convert 63 3 x) (W : World) : (execOp A.eval o).run Tryd.prog W = .ok (.value (.int .i64 (m : Int))) W := by
  have hcz : wrap64 (m : Int) = (m : Int) := IntWalk.wrap64_in _ (by omega)
  have hcz2 : IntKind.i64.wrap (m : Int) = (m : Int) := by rw [IntKind.wrap_i64]; omega
  unfold execOp
  simp only [ho, hx]
  go_simp
  try (first | exact hcz | exact hcz2)
theorem Only.ofCell {W : World} (j i : Nat) (v : Value) : Only j W (W.setCell ⟨j, i, none⟩ v) := (Only.refl _ _).setCell i v
theorem sizeRq (C : Array Value) (hc : C.size = 36) : (Tryd.prog.info? 24).map (·.size) = some C.size := by rw [hc]; exact info_q
set_option maxRecDepth 100000 in
set_option maxHeartbeats 4000000 in
theorem rdec_nil (a : Option Addr) (cap : Nat) (w : World) :
    Calls Tryd.prog 15 #[.slice a 0 cap] w (fun e w' => e = .returned (.tuple #[.agg (recC rc0), .int .i64 10]) ∧ Below w.heap.size w w') := by
  have HI := Lib.hid (sizeRq (recC rc0) (recC_size rc0_ok))
  have HBU := Lib.hid built_q0
  have HO := Lib.hid (recC_one rc0)
  have HZ := Lib.hid (recC_size rc0_ok)
  obtain ⟨C, hC⟩ : ∃ C, C = recC rc0 := ⟨_, rfl⟩
  have HCC := Lib.hid hC
  rw [← hC] at HI HBU HO HZ ⊢
  clear hC
  go_enter Tryd.func15, Tryd.ntmps15
  go_upto_region 1 with (fail)
  obtain ⟨g, hg⟩ : ∃ g, g = w.heap.size := ⟨_, rfl⟩
  refine gen_codeR (F := Bq w g 24 C) (by rw [hg, HCC.out]; exact Bq.new _ _ _) ?_
  rw [← hg]
  intro w0 hb0
  have H0 := Lib.hid hb0
  clear hg hb0
  go_wp2_with (first | (refine wpList_buildR 24 _ (by rfl) (by rfl) C (by simp only [List.map_toArray, List.map_cons, List.map_nil]; exact HBU.out) ?_) | (refine wpList_store_row (by rfl) 24 _ _ (by rfl) g C (by rfl) (by rfl) 24 C H0.out.1 HI.out rfl HO.out ?_))
  exact bodyPost_ret (results_row_tmpR rfl _ _ g 24 C (0, 0) _ (by rfl) H0.out.1.setRow Tryd.underlying24 HI.out) rfl ⟨rfl, H0.out.set.2.1⟩
set_option maxRecDepth 100000 in
set_option maxHeartbeats 8000000 in
theorem rdec_t1 (a : Option Addr) (len cap : Nat) (zs : List Nat) (w : World) (h : Rd w a len zs) (h0 : 0 < len) (hcap : len ≤ cap) (hm : len ≤ 140737488355328) (hm0 : cap ≤ 9223372036854775807) (he : (rt (zs.drop 1) 128).2.2 ≠ 0) :
    Calls Tryd.prog 15 #[.slice a len cap] w (fun e w' => e = .returned (.tuple #[.agg (recC rc0), .int .i64 10]) ∧ Below w.heap.size w w') := by
  obtain ⟨b, off, rfl⟩ : ∃ b off, a = some ⟨b, off, none⟩ := by
    rcases h.2.2 with h0 | ⟨b, off, e, _⟩
    · omega
    · exact ⟨b, off, e⟩
  have HR := Lib.hid h
  have hzl := h.1
  have hbz := h.2.1
  obtain ⟨z, hz⟩ : ∃ z, z = zs.getD 0 0 := ⟨_, rfl⟩
  have hzlt : z < 256 := by
    rw [hz]
    match zs, hzl, h.2.1 with
    | y :: l, _, hb => exact hb y (by simp)
    | [], hzl, _ => simp at hzl; omega
  have hcz : wrap64 (z : Int) = (z : Int) := IntWalk.wrap64_in _ (by omega)
  have HC0 := Lib.hid (show ∀ W, Below w.heap.size w W → W.cell? ⟨b, off, none⟩ = some (.int .u8 (z : Int)) from fun W hW => by
    rcases (h.below hW).2.2 with h0 | ⟨b', off', e, _, hc⟩
    · omega
    · cases e
      have c0 := hc 0 (by omega)
      rw [← hz, Nat.add_zero] at c0
      exact c0)
  have hi1 : ¬ (len : Int) < 1 := by omega
  obtain ⟨A1, hA1⟩ : ∃ A, A = sla (some ⟨b, off, none⟩) cap 1 := ⟨_, rfl⟩
  have HA1 := Lib.hid hA1
  have HT1 := Lib.hid fun W (hW : Below w.heap.size w W) => show Calls Tryd.prog 36 #[.slice A1 (len - 1) (cap - 1), .int .i64 128] W (RtRet W.heap.size W (rt (zs.drop 1) 128)) from by
    rw [hA1]
    exact refReadText_c _ (len - 1) (cap - 1) (zs.drop 1) 128 W ((h.below hW).cut cap 1 (by omega) hcap) (by omega) (by omega) (by omega) (by omega) (by omega)
  obtain ⟨P, u, e1, hr1⟩ : ∃ P u e, rt (zs.drop 1) 128 = (P, u, e) := ⟨_, _, _, rfl⟩
  rw [hr1] at HT1 he
  simp only at he
  have he1 : ¬ (e1 : Int) = 0 := by omega
  have HI := Lib.hid (sizeRq (recC rc0) (recC_size rc0_ok))
  have HBU := Lib.hid built_q0
  have HO := Lib.hid (recC_one rc0)
  have HZ := Lib.hid (recC_size rc0_ok)
  obtain ⟨C, hC⟩ : ∃ C, C = recC rc0 := ⟨_, rfl⟩
  have HCC := Lib.hid hC
  rw [← hC] at HI HBU HO HZ ⊢
  clear hC
  have HBK0 := Lib.hid (built_qk z)
  have HIE := Lib.hid (sizeRq (recC ⟨z, [], [], zs32, 0⟩) (recC_size dOk_zs))
  have HOE := Lib.hid (recC_one ⟨z, [], [], zs32, 0⟩)
  have HZE := Lib.hid (recC_size (r := ⟨z, [], [], zs32, 0⟩) dOk_zs)
  obtain ⟨E, hE⟩ : ∃ E, E = recC ⟨z, [], [], zs32, 0⟩ := ⟨_, rfl⟩
  rw [← hE] at HBK0 HIE HOE HZE
  have HEE := Lib.hid hE
  clear hE
  clear h hz hA1 hr1 he hbz
  go_enter Tryd.func15, Tryd.ntmps15
  go_upto_region 1 with (fail)
  obtain ⟨g, hg⟩ : ∃ g, g = w.heap.size := ⟨_, rfl⟩
  refine gen_codeR (F := Bq w g 24 C) (by rw [hg, HCC.out]; exact Bq.new _ _ _) ?_
  rw [← hg]
  intro w0 hb0
  have H0 := Lib.hid hb0
  clear hg hb0
  have c0 := HC0.out w0 H0.out.2.1
  have HNB := Lib.hid (show RW (w0.alloc (.cells C 24 (0, 0))) w0.heap.size 24 C from RW.new _ _ _)
  rw [HCC.out] at HNB
  go_upto_region 4 with (first | (refine wpList_buildR 24 _ (by rfl) (by rfl) E (by simp only [List.map_toArray, List.map_cons, List.map_nil]; exact HBK0.out) ?_) | (refine wpList_store_row (by rfl) 24 _ _ (by rfl) w0.heap.size E (by rfl) (by rfl) 24 (recC rc0) (by exact HNB.out) HIE.out (by rw [recC_size rc0_ok, HZE.out]) HOE.out ?_))
  obtain ⟨j, hj⟩ : ∃ j, j = w0.heap.size := ⟨_, rfl⟩
  refine gen_codeR (F := D2 w g j 24 C (recC ⟨z, [], [], zs32, 0⟩)) (by rw [hj, ← HEE.out]; exact (D2.mk' (D := recC rc0) H0.out).row) ?_
  rw [← hj]
  intro w1 hd1
  have H1 := Lib.hid hd1
  clear hj hd1 H0 HNB c0 HC0 HBK0 HIE HOE HZE HEE
  have HTA := Lib.hid (HT1.out w1 H1.out.below)
  clear HT1
  go_wp2_with (refine wpList_runR (by rfl) (.slice A1 (len - 1) (cap - 1)) (by rw [HA1.out]; exact exec_cutS (a := some ⟨b, off, none⟩) (len := len) (cap := cap) (k := 1) (by omega) (by rfl) (by rfl) _ rfl _) ?_)
  refine HTA.out.mono ?_
  rintro e w2 ⟨v2, rfl, ho2, hb2⟩
  have H2 := Lib.hid (H1.out.step hb2)
  clear ho2 hb2 HTA H1
  go_wp2_with (first | (refine wpList_buildR 24 _ (by rfl) (by rfl) C (by simp only [List.map_toArray, List.map_cons, List.map_nil]; exact HBU.out) ?_) | (refine wpList_store_row (by rfl) 24 _ _ (by rfl) g C (by rfl) (by rfl) 24 C H2.out.a HI.out rfl HO.out ?_))
  exact bodyPost_ret (results_row_tmpR rfl _ _ g 24 C (0, 0) _ (by rfl) H2.out.a.setRow Tryd.underlying24 HI.out) rfl ⟨rfl, H2.out.res.2.1⟩
set_option maxRecDepth 100000 in
set_option maxHeartbeats 8000000 in
theorem rdec_t2 (a : Option Addr) (len cap : Nat) (zs : List Nat) (w : World) (h : Rd w a len zs) (h0 : 0 < len) (hcap : len ≤ cap) (hm : len ≤ 140737488355328) (hm0 : cap ≤ 9223372036854775807) (P : List Nat) (u : Nat) (hr1 : rt (zs.drop 1) 128 = (P, u, 0)) (he2 : (rt (zs.drop (1 + u)) 128).2.2 ≠ 0) :
    Calls Tryd.prog 15 #[.slice a len cap] w (fun e w' => e = .returned (.tuple #[.agg (recC rc0), .int .i64 10]) ∧ Below w.heap.size w w') := by
  obtain ⟨b, off, rfl⟩ : ∃ b off, a = some ⟨b, off, none⟩ := by
    rcases h.2.2 with h0 | ⟨b, off, e, _⟩
    · omega
    · exact ⟨b, off, e⟩
  have HR := Lib.hid h
  have hzl := h.1
  have hbz := h.2.1
  obtain ⟨z, hz⟩ : ∃ z, z = zs.getD 0 0 := ⟨_, rfl⟩
  have hzlt : z < 256 := by
    rw [hz]
    match zs, hzl, h.2.1 with
    | y :: l, _, hb => exact hb y (by simp)
    | [], hzl, _ => simp at hzl; omega
  have hcz : wrap64 (z : Int) = (z : Int) := IntWalk.wrap64_in _ (by omega)
  have HC0 := Lib.hid (show ∀ W, Below w.heap.size w W → W.cell? ⟨b, off, none⟩ = some (.int .u8 (z : Int)) from fun W hW => by
    rcases (h.below hW).2.2 with h0 | ⟨b', off', e, _, hc⟩
    · omega
    · cases e
      have c0 := hc 0 (by omega)
      rw [← hz, Nat.add_zero] at c0
      exact c0)
  have hi1 : ¬ (len : Int) < 1 := by omega
  obtain ⟨A1, hA1⟩ : ∃ A, A = sla (some ⟨b, off, none⟩) cap 1 := ⟨_, rfl⟩
  have HA1 := Lib.hid hA1
  have HT1 := Lib.hid fun W (hW : Below w.heap.size w W) => show Calls Tryd.prog 36 #[.slice A1 (len - 1) (cap - 1), .int .i64 128] W (RtRet W.heap.size W (rt (zs.drop 1) 128)) from by
    rw [hA1]
    exact refReadText_c _ (len - 1) (cap - 1) (zs.drop 1) 128 W ((h.below hW).cut cap 1 (by omega) hcap) (by omega) (by omega) (by omega) (by omega) (by omega)
  rw [hr1] at HT1
  obtain ⟨k1, k2, k3, k4, k5⟩ := rt_spec (fun x hx => hbz x (List.mem_of_mem_drop hx)) hr1
  rw [List.length_drop] at k3
  have HPB := Lib.hid k5
  obtain ⟨A2, hA2⟩ : ∃ A, A = sla (some ⟨b, off, none⟩) cap (1 + u) := ⟨_, rfl⟩
  have HA2 := Lib.hid hA2
  have hul : u ≤ len - 1 := by omega
  have HTX := Lib.hid fun W (hW : Below w.heap.size w W) => show Calls Tryd.prog 36 #[.slice A2 (len - (1 + u)) (cap - (1 + u)), .int .i64 128] W (RtRet W.heap.size W (rt (zs.drop (1 + u)) 128)) from by
    rw [hA2]
    exact refReadText_c _ (len - (1 + u)) (cap - (1 + u)) (zs.drop (1 + u)) 128 W ((h.below hW).cut cap (1 + u) (by omega) hcap) (by omega) (by omega) (by omega) (by omega) (by omega)
  obtain ⟨G, v, e2, hr2⟩ : ∃ G v e, rt (zs.drop (1 + u)) 128 = (G, v, e) := ⟨_, _, _, rfl⟩
  rw [hr2] at HTX he2
  simp only at he2
  have hee : ¬ (e2 : Int) = 0 := by omega
  have HI := Lib.hid (sizeRq (recC rc0) (recC_size rc0_ok))
  have HBU := Lib.hid built_q0
  have HO := Lib.hid (recC_one rc0)
  have HZ := Lib.hid (recC_size rc0_ok)
  obtain ⟨C, hC⟩ : ∃ C, C = recC rc0 := ⟨_, rfl⟩
  have HCC := Lib.hid hC
  rw [← hC] at HI HBU HO HZ ⊢
  clear hC
  have HBK0 := Lib.hid (built_qk z)
  have HIE := Lib.hid (sizeRq (recC ⟨z, [], [], zs32, 0⟩) (recC_size dOk_zs))
  have HOE := Lib.hid (recC_one ⟨z, [], [], zs32, 0⟩)
  have HZE := Lib.hid (recC_size (r := ⟨z, [], [], zs32, 0⟩) dOk_zs)
  obtain ⟨E, hE⟩ : ∃ E, E = recC ⟨z, [], [], zs32, 0⟩ := ⟨_, rfl⟩
  rw [← hE] at HBK0 HIE HOE HZE
  have HEE := Lib.hid hE
  clear hE
  clear h hz hA1 hr1 hbz k1 k2 k3 k4 k5 hA2 hr2 he2
  go_enter Tryd.func15, Tryd.ntmps15
  go_upto_region 1 with (fail)
  obtain ⟨g, hg⟩ : ∃ g, g = w.heap.size := ⟨_, rfl⟩
  refine gen_codeR (F := Bq w g 24 C) (by rw [hg, HCC.out]; exact Bq.new _ _ _) ?_
  rw [← hg]
  intro w0 hb0
  have H0 := Lib.hid hb0
  clear hg hb0
  have c0 := HC0.out w0 H0.out.2.1
  have HNB := Lib.hid (show RW (w0.alloc (.cells C 24 (0, 0))) w0.heap.size 24 C from RW.new _ _ _)
  rw [HCC.out] at HNB
  go_upto_region 4 with (first | (refine wpList_buildR 24 _ (by rfl) (by rfl) E (by simp only [List.map_toArray, List.map_cons, List.map_nil]; exact HBK0.out) ?_) | (refine wpList_store_row (by rfl) 24 _ _ (by rfl) w0.heap.size E (by rfl) (by rfl) 24 (recC rc0) (by exact HNB.out) HIE.out (by rw [recC_size rc0_ok, HZE.out]) HOE.out ?_))
  obtain ⟨j, hj⟩ : ∃ j, j = w0.heap.size := ⟨_, rfl⟩
  refine gen_codeR (F := D2 w g j 24 C (recC ⟨z, [], [], zs32, 0⟩)) (by rw [hj, ← HEE.out]; exact (D2.mk' (D := recC rc0) H0.out).row) ?_
  rw [← hj]
  intro w1 hd1
  have H1 := Lib.hid hd1
  clear hj hd1 H0 HNB c0 HC0 HBK0 HIE HOE HZE HEE
  have HTA := Lib.hid (HT1.out w1 H1.out.below)
  clear HT1
  go_wp2_with (refine wpList_runR (by rfl) (.slice A1 (len - 1) (cap - 1)) (by rw [HA1.out]; exact exec_cutS (a := some ⟨b, off, none⟩) (len := len) (cap := cap) (k := 1) (by omega) (by rfl) (by rfl) _ rfl _) ?_)
  refine HTA.out.mono ?_
  rintro e w2 ⟨v2, rfl, ho2, hb2⟩
  have H2 := Lib.hid (H1.out.step hb2)
  obtain ⟨aP, nP, cP, rfl, -, -, -, -, hrP, -⟩ := ho2.form HPB.out
  have HRP := Lib.hid hrP
  clear ho2 hb2 HTA H1 hrP HPB
  have HTB := Lib.hid (HTX.out w2 H2.out.below)
  clear HTX
  go_wp2_with (refine wpList_runR (by rfl) (.slice A2 (len - (1 + u)) (cap - (1 + u))) (by rw [HA2.out]; exact exec_cutU (a := some ⟨b, off, none⟩) (len := len) (cap := cap) (k := 1 + u) (t := 1 + (u : Int)) (by omega) rfl (by omega) (by rfl) (by rfl) _ rfl _) ?_)
  refine HTB.out.mono ?_
  rintro e w3 ⟨v3, rfl, ho3, hb3⟩
  have H3 := Lib.hid (H2.out.step hb3)
  clear ho3 hb3 HTB H2
  go_wp2_with (first | (refine wpList_buildR 24 _ (by rfl) (by rfl) C (by simp only [List.map_toArray, List.map_cons, List.map_nil]; exact HBU.out) ?_) | (refine wpList_store_row (by rfl) 24 _ _ (by rfl) g C (by rfl) (by rfl) 24 C H3.out.a HI.out rfl HO.out ?_))
  exact bodyPost_ret (results_row_tmpR rfl _ _ g 24 C (0, 0) _ (by rfl) H3.out.a.setRow Tryd.underlying24 HI.out) rfl ⟨rfl, H3.out.res.2.1⟩
set_option maxRecDepth 100000 in
set_option maxHeartbeats 8000000 in
theorem rdec0_c1 (a : Option Addr) (len cap : Nat) (zs : List Nat) (w : World) (h : Rd w a len zs) (h0 : 0 < len) (hcap : len ≤ cap) (hm : len ≤ 140737488355328) (hm0 : cap ≤ 9223372036854775807) (P : List Nat) (u : Nat) (hr1 : rt (zs.drop 1) 128 = (P, u, 0)) (G : List Nat) (v : Nat) (hr2 : rt (zs.drop (1 + u)) 128 = (G, v, 0)) (hz1 : ¬ zs.getD 0 0 = 1) (hl : (zs.drop (1 + u + v)).length < 8) :
    Calls Tryd.prog 15 #[.slice a len cap] w (fun e w' => e = .returned (.tuple #[.agg (recC rc0), .int .i64 10]) ∧ Below w.heap.size w w') := by
  obtain ⟨b, off, rfl⟩ : ∃ b off, a = some ⟨b, off, none⟩ := by
    rcases h.2.2 with h0 | ⟨b, off, e, _⟩
    · omega
    · exact ⟨b, off, e⟩
  have HR := Lib.hid h
  have hzl := h.1
  have hbz := h.2.1
  obtain ⟨z, hz⟩ : ∃ z, z = zs.getD 0 0 := ⟨_, rfl⟩
  have hzlt : z < 256 := by
    rw [hz]
    match zs, hzl, h.2.1 with
    | y :: l, _, hb => exact hb y (by simp)
    | [], hzl, _ => simp at hzl; omega
  have hcz : wrap64 (z : Int) = (z : Int) := IntWalk.wrap64_in _ (by omega)
  have HC0 := Lib.hid (show ∀ W, Below w.heap.size w W → W.cell? ⟨b, off, none⟩ = some (.int .u8 (z : Int)) from fun W hW => by
    rcases (h.below hW).2.2 with h0 | ⟨b', off', e, _, hc⟩
    · omega
    · cases e
      have c0 := hc 0 (by omega)
      rw [← hz, Nat.add_zero] at c0
      exact c0)
  have hi1 : ¬ (len : Int) < 1 := by omega
  obtain ⟨A1, hA1⟩ : ∃ A, A = sla (some ⟨b, off, none⟩) cap 1 := ⟨_, rfl⟩
  have HA1 := Lib.hid hA1
  have HT1 := Lib.hid fun W (hW : Below w.heap.size w W) => show Calls Tryd.prog 36 #[.slice A1 (len - 1) (cap - 1), .int .i64 128] W (RtRet W.heap.size W (rt (zs.drop 1) 128)) from by
    rw [hA1]
    exact refReadText_c _ (len - 1) (cap - 1) (zs.drop 1) 128 W ((h.below hW).cut cap 1 (by omega) hcap) (by omega) (by omega) (by omega) (by omega) (by omega)
  rw [hr1] at HT1
  obtain ⟨k1, k2, k3, k4, k5⟩ := rt_spec (fun x hx => hbz x (List.mem_of_mem_drop hx)) hr1
  rw [List.length_drop] at k3
  have HPB := Lib.hid k5
  obtain ⟨A2, hA2⟩ : ∃ A, A = sla (some ⟨b, off, none⟩) cap (1 + u) := ⟨_, rfl⟩
  have HA2 := Lib.hid hA2
  have hul : u ≤ len - 1 := by omega
  have HTX := Lib.hid fun W (hW : Below w.heap.size w W) => show Calls Tryd.prog 36 #[.slice A2 (len - (1 + u)) (cap - (1 + u)), .int .i64 128] W (RtRet W.heap.size W (rt (zs.drop (1 + u)) 128)) from by
    rw [hA2]
    exact refReadText_c _ (len - (1 + u)) (cap - (1 + u)) (zs.drop (1 + u)) 128 W ((h.below hW).cut cap (1 + u) (by omega) hcap) (by omega) (by omega) (by omega) (by omega) (by omega)
  rw [hr2] at HTX
  obtain ⟨q1, q2, q3, q4, q5⟩ := rt_spec (fun x hx => hbz x (List.mem_of_mem_drop hx)) hr2
  rw [List.length_drop] at q3
  have HGB := Lib.hid q5
  have hvl : u + v ≤ len - 1 := by omega
  rw [← hz] at hz1
  obtain ⟨A3, hA3⟩ : ∃ A, A = sla (some ⟨b, off, none⟩) cap (1 + u + v) := ⟨_, rfl⟩
  have HA3 := Lib.hid hA3
  have HR3 := Lib.hid fun W (hW : Below w.heap.size w W) => show Rd W A3 (len - (1 + u + v)) (zs.drop (1 + u + v)) from by rw [hA3]; exact (h.below hW).cut cap (1 + u + v) (by omega) hcap
  obtain ⟨rest, hrest⟩ : ∃ r, r = (zs.drop (1 + u + v)) := ⟨_, rfl⟩
  have HRE := Lib.hid hrest
  have HLN := Lib.hid (show rest.length = len - (1 + u + v) from by rw [hrest, List.length_drop]; omega)
  have HRBY := Lib.hid (show ∀ y ∈ rest, y < 256 from fun y hy => by rw [hrest] at hy; exact hbz y (List.mem_of_mem_drop hy))
  rw [← hrest] at HR3 hl
  obtain ⟨L, hL⟩ : ∃ L, L = len - (1 + u + v) := ⟨_, rfl⟩
  have hLL : rest.length = L := by rw [HLN.out, hL]
  have HLE := Lib.hid hL
  rw [← hL] at HR3 HLN
  rw [hLL] at hl
  obtain ⟨c3, hc3⟩ : ∃ c, c = cap - (1 + u + v) := ⟨_, rfl⟩
  have HC3 := Lib.hid hc3
  have hlc3 : L ≤ c3 := by omega
  have hL47 : L ≤ 140737488355328 := by omega
  have HPL := Lib.hid (show preL ⟨(z : Nat), uB P, uB G, zs32, 0⟩ rest = ⟨z, uB P, uB G, zs32, (Numm.num 0 (rest.drop (rest.length - 8)) : Nat)⟩ from by
    unfold preL
    simp only
    rw [if_neg (by omega)])
  have HI := Lib.hid (sizeRq (recC rc0) (recC_size rc0_ok))
  have HBU := Lib.hid built_q0
  have HO := Lib.hid (recC_one rc0)
  have HZ := Lib.hid (recC_size rc0_ok)
  obtain ⟨C, hC⟩ : ∃ C, C = recC rc0 := ⟨_, rfl⟩
  have HCC := Lib.hid hC
  rw [← hC] at HI HBU HO HZ ⊢
  clear hC
  have hzi : ¬ (z : Int) = 1 := by omega
  have HBK0 := Lib.hid (built_qk z)
  have HIE := Lib.hid (sizeRq (recC ⟨z, [], [], zs32, 0⟩) (recC_size dOk_zs))
  have HOE := Lib.hid (recC_one ⟨z, [], [], zs32, 0⟩)
  have HZE := Lib.hid (recC_size (r := ⟨z, [], [], zs32, 0⟩) dOk_zs)
  obtain ⟨E, hE⟩ : ∃ E, E = recC ⟨z, [], [], zs32, 0⟩ := ⟨_, rfl⟩
  rw [← hE] at HBK0 HIE HOE HZE
  have HEE := Lib.hid hE
  clear hE
  clear h hA1 hr1 hbz k1 k2 k3 k4 k5 hA2 hr2 q1 q2 q3 q4 q5 hA3 hrest hL hLL hc3 HPL hz1 hz
  go_enter Tryd.func15, Tryd.ntmps15
  go_upto_region 1 with (fail)
  obtain ⟨g, hg⟩ : ∃ g, g = w.heap.size := ⟨_, rfl⟩
  refine gen_codeR (F := Bq w g 24 C) (by rw [hg, HCC.out]; exact Bq.new _ _ _) ?_
  rw [← hg]
  intro w0 hb0
  have H0 := Lib.hid hb0
  clear hg hb0
  have c0 := HC0.out w0 H0.out.2.1
  have HNB := Lib.hid (show RW (w0.alloc (.cells C 24 (0, 0))) w0.heap.size 24 C from RW.new _ _ _)
  rw [HCC.out] at HNB
  go_upto_region 4 with (first | (refine wpList_buildR 24 _ (by rfl) (by rfl) E (by simp only [List.map_toArray, List.map_cons, List.map_nil]; exact HBK0.out) ?_) | (refine wpList_store_row (by rfl) 24 _ _ (by rfl) w0.heap.size E (by rfl) (by rfl) 24 (recC rc0) (by exact HNB.out) HIE.out (by rw [recC_size rc0_ok, HZE.out]) HOE.out ?_))
  obtain ⟨j, hj⟩ : ∃ j, j = w0.heap.size := ⟨_, rfl⟩
  refine gen_codeR (F := D2 w g j 24 C (recC ⟨z, [], [], zs32, 0⟩)) (by rw [hj, ← HEE.out]; exact (D2.mk' (D := recC rc0) H0.out).row) ?_
  rw [← hj]
  intro w1 hd1
  have H1 := Lib.hid hd1
  clear hj hd1 H0 HNB c0 HC0 HBK0 HIE HOE HZE HEE
  have HTA := Lib.hid (HT1.out w1 H1.out.below)
  clear HT1
  go_wp2_with (refine wpList_runR (by rfl) (.slice A1 (len - 1) (cap - 1)) (by rw [HA1.out]; exact exec_cutS (a := some ⟨b, off, none⟩) (len := len) (cap := cap) (k := 1) (by omega) (by rfl) (by rfl) _ rfl _) ?_)
  refine HTA.out.mono ?_
  rintro e w2 ⟨v2, rfl, ho2, hb2⟩
  have H2 := Lib.hid (H1.out.step hb2)
  obtain ⟨aP, nP, cP, rfl, -, -, -, -, hrP, -⟩ := ho2.form HPB.out
  have HRP := Lib.hid hrP
  clear ho2 hb2 HTA H1 hrP HPB
  have HTB := Lib.hid (HTX.out w2 H2.out.below)
  clear HTX
  go_wp2_with (refine wpList_runR (by rfl) (.slice A2 (len - (1 + u)) (cap - (1 + u))) (by rw [HA2.out]; exact exec_cutU (a := some ⟨b, off, none⟩) (len := len) (cap := cap) (k := 1 + u) (t := 1 + (u : Int)) (by omega) rfl (by omega) (by rfl) (by rfl) _ rfl _) ?_)
  refine HTB.out.mono ?_
  rintro e w3 ⟨v3, rfl, ho3, hb3⟩
  have H3 := Lib.hid (H2.out.step hb3)
  have HBK := Lib.hid (show ∀ n c a, Own w3 w2.heap.size (.slice a n c) G → 0 < n → blkOf a ≠ some j from fun n c a ho h0 e => by
    have h1 := own_blk ho h0 j e
    have h2 := H2.out.b.lt
    omega)
  obtain ⟨aG, nG, cG, rfl, -, -, -, -, hrG, ho3⟩ := ho3.form HGB.out
  have HRG := Lib.hid hrG
  have HRP3 := Lib.hid (HRP.out.below hb3)
  have HBG := Lib.hid (HBK.out _ _ _ ho3)
  have d1 := H3.out.b.c1
  have f1 := H3.out.b.fz 1
  simp only at d1
  clear ho3 hb3 HTB H2 HRP HBK hrG HGB
  go_upto_region 11 with (refine wpList_runR (by rfl) (.string (T (uB P))) (exec_strS HRP3.out (by rfl) _ rfl) ?_)
  refine gen_codeR (F := fun W => D2 w g j 24 C (recC ⟨z, uB P, [], zs32, 0⟩) W ∧ Rd W aG nG G) (by
    have h := H3.out.cell 1 (.string (T (uB P)))
    rw [recC_one1] at h
    exact ⟨h, (Only.ofCell j 1 _).rd' HRG.out HBG.out⟩) ?_
  rintro w4 ⟨hd4, hg4⟩
  have H4 := Lib.hid hd4
  have HG4 := Lib.hid hg4
  have d2 := H4.out.b.c2
  have f2 := H4.out.b.fz 2
  simp only at d2
  clear hd4 hg4 H3 HRP3 HRG HBG d1 f1
  go_upto_region 12 with (refine wpList_runR (by rfl) (.string (T (uB G))) (exec_strS HG4.out (by rfl) _ rfl) ?_)
  refine gen_codeR (F := D2 w g j 24 C (recC ⟨z, uB P, uB G, zs32, 0⟩)) (by
    have h := H4.out.cell 2 (.string (T (uB G)))
    rw [recC_two2] at h
    exact h) ?_
  intro w5 hd5
  have H5 := Lib.hid hd5
  clear hd5 H4 HG4 d2 f2
  go_wp2_with (refine wpList_runR (by rfl) (.slice A3 L c3) (by rw [HA3.out, HLE.out, HC3.out]; exact exec_cutU (a := some ⟨b, off, none⟩) (len := len) (cap := cap) (k := 1 + u + v) (t := 1 + (u : Int) + (v : Int)) (by omega) rfl (by omega) (by rfl) (by rfl) _ rfl _) ?_)
  go_loopw [12] (fun i wr => ∃ n : Nat, n ≤ 0 ∧ i = .int .i64 n ∧ Hid (D2 w g j 24 C (recC ⟨z, uB P, uB G, zs32, 0⟩) wr)) (fun i _ => 32 - (intOf i).toNat)
  case atStart => exact ⟨0, by omega, rfl, H5⟩
  case round =>
    clear H5
    obtain ⟨n, hn, rfl, HP⟩ := hrel
    have c0 := HP.out.b.c0
    simp only at c0
    · obtain rfl : n = 0 := by omega
      have HQ := Lib.hid HP.out
      clear HP hn
      by_cases hxL : 0 < L
      · have hl8 : (L : Int) < 8 := by omega
        go_wp2_with (first | (refine wpList_buildR 24 _ (by rfl) (by rfl) C (by simp only [List.map_toArray, List.map_cons, List.map_nil]; exact HBU.out) ?_) | (refine wpList_store_row (by rfl) 24 _ _ (by rfl) g C (by rfl) (by rfl) 24 C HQ.out.a HI.out rfl HO.out ?_))
        exact bodyPost_ret (results_row_tmpR rfl _ _ g 24 C (0, 0) _ (by rfl) HQ.out.a.setRow Tryd.underlying24 HI.out) rfl ⟨rfl, HQ.out.res.2.1⟩
      · have hl8 : (L : Int) < 8 := by omega
        go_wp2_with (first | (refine wpList_buildR 24 _ (by rfl) (by rfl) C (by simp only [List.map_toArray, List.map_cons, List.map_nil]; exact HBU.out) ?_) | (refine wpList_store_row (by rfl) 24 _ _ (by rfl) g C (by rfl) (by rfl) 24 C HQ.out.a HI.out rfl HO.out ?_))
        exact bodyPost_ret (results_row_tmpR rfl _ _ g 24 C (0, 0) _ (by rfl) HQ.out.a.setRow Tryd.underlying24 HI.out) rfl ⟨rfl, HQ.out.res.2.1⟩
set_option maxRecDepth 100000 in
set_option maxHeartbeats 8000000 in
theorem rdec0_c2 (a : Option Addr) (len cap : Nat) (zs : List Nat) (w : World) (h : Rd w a len zs) (h0 : 0 < len) (hcap : len ≤ cap) (hm : len ≤ 140737488355328) (hm0 : cap ≤ 9223372036854775807) (P : List Nat) (u : Nat) (hr1 : rt (zs.drop 1) 128 = (P, u, 0)) (G : List Nat) (v : Nat) (hr2 : rt (zs.drop (1 + u)) 128 = (G, v, 0)) (hz1 : ¬ zs.getD 0 0 = 1) (hl : 8 ≤ (zs.drop (1 + u + v)).length) (hx : 1099511627776 < (Numm.num 0 ((zs.drop (1 + u + v)).drop ((zs.drop (1 + u + v)).length - 8)))) :
    Calls Tryd.prog 15 #[.slice a len cap] w (fun e w' => e = .returned (.tuple #[.agg (recC rc0), .int .i64 10]) ∧ Below w.heap.size w w') := by
  obtain ⟨b, off, rfl⟩ : ∃ b off, a = some ⟨b, off, none⟩ := by
    rcases h.2.2 with h0 | ⟨b, off, e, _⟩
    · omega
    · exact ⟨b, off, e⟩
  have HR := Lib.hid h
  have hzl := h.1
  have hbz := h.2.1
  obtain ⟨z, hz⟩ : ∃ z, z = zs.getD 0 0 := ⟨_, rfl⟩
  have hzlt : z < 256 := by
    rw [hz]
    match zs, hzl, h.2.1 with
    | y :: l, _, hb => exact hb y (by simp)
    | [], hzl, _ => simp at hzl; omega
  have hcz : wrap64 (z : Int) = (z : Int) := IntWalk.wrap64_in _ (by omega)
  have HC0 := Lib.hid (show ∀ W, Below w.heap.size w W → W.cell? ⟨b, off, none⟩ = some (.int .u8 (z : Int)) from fun W hW => by
    rcases (h.below hW).2.2 with h0 | ⟨b', off', e, _, hc⟩
    · omega
    · cases e
      have c0 := hc 0 (by omega)
      rw [← hz, Nat.add_zero] at c0
      exact c0)
  have hi1 : ¬ (len : Int) < 1 := by omega
  obtain ⟨A1, hA1⟩ : ∃ A, A = sla (some ⟨b, off, none⟩) cap 1 := ⟨_, rfl⟩
  have HA1 := Lib.hid hA1
  have HT1 := Lib.hid fun W (hW : Below w.heap.size w W) => show Calls Tryd.prog 36 #[.slice A1 (len - 1) (cap - 1), .int .i64 128] W (RtRet W.heap.size W (rt (zs.drop 1) 128)) from by
    rw [hA1]
    exact refReadText_c _ (len - 1) (cap - 1) (zs.drop 1) 128 W ((h.below hW).cut cap 1 (by omega) hcap) (by omega) (by omega) (by omega) (by omega) (by omega)
  rw [hr1] at HT1
  obtain ⟨k1, k2, k3, k4, k5⟩ := rt_spec (fun x hx => hbz x (List.mem_of_mem_drop hx)) hr1
  rw [List.length_drop] at k3
  have HPB := Lib.hid k5
  obtain ⟨A2, hA2⟩ : ∃ A, A = sla (some ⟨b, off, none⟩) cap (1 + u) := ⟨_, rfl⟩
  have HA2 := Lib.hid hA2
  have hul : u ≤ len - 1 := by omega
  have HTX := Lib.hid fun W (hW : Below w.heap.size w W) => show Calls Tryd.prog 36 #[.slice A2 (len - (1 + u)) (cap - (1 + u)), .int .i64 128] W (RtRet W.heap.size W (rt (zs.drop (1 + u)) 128)) from by
    rw [hA2]
    exact refReadText_c _ (len - (1 + u)) (cap - (1 + u)) (zs.drop (1 + u)) 128 W ((h.below hW).cut cap (1 + u) (by omega) hcap) (by omega) (by omega) (by omega) (by omega) (by omega)
  rw [hr2] at HTX
  obtain ⟨q1, q2, q3, q4, q5⟩ := rt_spec (fun x hx => hbz x (List.mem_of_mem_drop hx)) hr2
  rw [List.length_drop] at q3
  have HGB := Lib.hid q5
  have hvl : u + v ≤ len - 1 := by omega
  rw [← hz] at hz1
  obtain ⟨A3, hA3⟩ : ∃ A, A = sla (some ⟨b, off, none⟩) cap (1 + u + v) := ⟨_, rfl⟩
  have HA3 := Lib.hid hA3
  have HR3 := Lib.hid fun W (hW : Below w.heap.size w W) => show Rd W A3 (len - (1 + u + v)) (zs.drop (1 + u + v)) from by rw [hA3]; exact (h.below hW).cut cap (1 + u + v) (by omega) hcap
  obtain ⟨rest, hrest⟩ : ∃ r, r = (zs.drop (1 + u + v)) := ⟨_, rfl⟩
  have HRE := Lib.hid hrest
  have HLN := Lib.hid (show rest.length = len - (1 + u + v) from by rw [hrest, List.length_drop]; omega)
  have HRBY := Lib.hid (show ∀ y ∈ rest, y < 256 from fun y hy => by rw [hrest] at hy; exact hbz y (List.mem_of_mem_drop hy))
  rw [← hrest] at HR3 hl hx
  obtain ⟨L, hL⟩ : ∃ L, L = len - (1 + u + v) := ⟨_, rfl⟩
  have hLL : rest.length = L := by rw [HLN.out, hL]
  have HLE := Lib.hid hL
  rw [← hL] at HR3 HLN
  rw [hLL] at hl hx
  obtain ⟨c3, hc3⟩ : ∃ c, c = cap - (1 + u + v) := ⟨_, rfl⟩
  have HC3 := Lib.hid hc3
  have hlc3 : L ≤ c3 := by omega
  have hL47 : L ≤ 140737488355328 := by omega
  obtain ⟨A4, hA4⟩ : ∃ A, A = sla A3 c3 (L - 8) := ⟨_, rfl⟩
  have HA4 := Lib.hid hA4
  obtain ⟨m, hm2⟩ : ∃ m, m = Numm.num 0 (rest.drop (L - 8)) := ⟨_, rfl⟩
  have HM2 := Lib.hid hm2
  have HGT := Lib.hid fun W (hW : Below w.heap.size w W) => show Calls Tryd.prog 37 #[.slice A4 8 (c3 - (L - 8))] W _ from by
    have hc := (HR3.out W hW).cut c3 (L - 8) (by omega) hlc3
    rw [show L - (L - 8) = 8 by omega] at hc
    rw [hA4]
    exact refGet_c _ 8 (c3 - (L - 8)) (rest.drop (L - 8)) W hc (by omega)
  rw [← hm2] at HGT hx
  have HPL := Lib.hid (show preL ⟨(z : Nat), uB P, uB G, zs32, 0⟩ rest = ⟨z, uB P, uB G, zs32, m⟩ from by
    unfold preL
    simp only
    rw [if_neg (by omega), hLL, hm2])
  have HI := Lib.hid (sizeRq (recC rc0) (recC_size rc0_ok))
  have HBU := Lib.hid built_q0
  have HO := Lib.hid (recC_one rc0)
  have HZ := Lib.hid (recC_size rc0_ok)
  obtain ⟨C, hC⟩ : ∃ C, C = recC rc0 := ⟨_, rfl⟩
  have HCC := Lib.hid hC
  rw [← hC] at HI HBU HO HZ ⊢
  clear hC
  have hzi : ¬ (z : Int) = 1 := by omega
  have HBK0 := Lib.hid (built_qk z)
  have HIE := Lib.hid (sizeRq (recC ⟨z, [], [], zs32, 0⟩) (recC_size dOk_zs))
  have HOE := Lib.hid (recC_one ⟨z, [], [], zs32, 0⟩)
  have HZE := Lib.hid (recC_size (r := ⟨z, [], [], zs32, 0⟩) dOk_zs)
  obtain ⟨E, hE⟩ : ∃ E, E = recC ⟨z, [], [], zs32, 0⟩ := ⟨_, rfl⟩
  rw [← hE] at HBK0 HIE HOE HZE
  have HEE := Lib.hid hE
  clear hE
  clear h hA1 hr1 hbz k1 k2 k3 k4 k5 hA2 hr2 q1 q2 q3 q4 q5 hA3 hrest hL hLL hc3 HPL hA4 hm2 hz1 hz
  go_enter Tryd.func15, Tryd.ntmps15
  go_upto_region 1 with (fail)
  obtain ⟨g, hg⟩ : ∃ g, g = w.heap.size := ⟨_, rfl⟩
  refine gen_codeR (F := Bq w g 24 C) (by rw [hg, HCC.out]; exact Bq.new _ _ _) ?_
  rw [← hg]
  intro w0 hb0
  have H0 := Lib.hid hb0
  clear hg hb0
  have c0 := HC0.out w0 H0.out.2.1
  have HNB := Lib.hid (show RW (w0.alloc (.cells C 24 (0, 0))) w0.heap.size 24 C from RW.new _ _ _)
  rw [HCC.out] at HNB
  go_upto_region 4 with (first | (refine wpList_buildR 24 _ (by rfl) (by rfl) E (by simp only [List.map_toArray, List.map_cons, List.map_nil]; exact HBK0.out) ?_) | (refine wpList_store_row (by rfl) 24 _ _ (by rfl) w0.heap.size E (by rfl) (by rfl) 24 (recC rc0) (by exact HNB.out) HIE.out (by rw [recC_size rc0_ok, HZE.out]) HOE.out ?_))
  obtain ⟨j, hj⟩ : ∃ j, j = w0.heap.size := ⟨_, rfl⟩
  refine gen_codeR (F := D2 w g j 24 C (recC ⟨z, [], [], zs32, 0⟩)) (by rw [hj, ← HEE.out]; exact (D2.mk' (D := recC rc0) H0.out).row) ?_
  rw [← hj]
  intro w1 hd1
  have H1 := Lib.hid hd1
  clear hj hd1 H0 HNB c0 HC0 HBK0 HIE HOE HZE HEE
  have HTA := Lib.hid (HT1.out w1 H1.out.below)
  clear HT1
  go_wp2_with (refine wpList_runR (by rfl) (.slice A1 (len - 1) (cap - 1)) (by rw [HA1.out]; exact exec_cutS (a := some ⟨b, off, none⟩) (len := len) (cap := cap) (k := 1) (by omega) (by rfl) (by rfl) _ rfl _) ?_)
  refine HTA.out.mono ?_
  rintro e w2 ⟨v2, rfl, ho2, hb2⟩
  have H2 := Lib.hid (H1.out.step hb2)
  obtain ⟨aP, nP, cP, rfl, -, -, -, -, hrP, -⟩ := ho2.form HPB.out
  have HRP := Lib.hid hrP
  clear ho2 hb2 HTA H1 hrP HPB
  have HTB := Lib.hid (HTX.out w2 H2.out.below)
  clear HTX
  go_wp2_with (refine wpList_runR (by rfl) (.slice A2 (len - (1 + u)) (cap - (1 + u))) (by rw [HA2.out]; exact exec_cutU (a := some ⟨b, off, none⟩) (len := len) (cap := cap) (k := 1 + u) (t := 1 + (u : Int)) (by omega) rfl (by omega) (by rfl) (by rfl) _ rfl _) ?_)
  refine HTB.out.mono ?_
  rintro e w3 ⟨v3, rfl, ho3, hb3⟩
  have H3 := Lib.hid (H2.out.step hb3)
  have HBK := Lib.hid (show ∀ n c a, Own w3 w2.heap.size (.slice a n c) G → 0 < n → blkOf a ≠ some j from fun n c a ho h0 e => by
    have h1 := own_blk ho h0 j e
    have h2 := H2.out.b.lt
    omega)
  obtain ⟨aG, nG, cG, rfl, -, -, -, -, hrG, ho3⟩ := ho3.form HGB.out
  have HRG := Lib.hid hrG
  have HRP3 := Lib.hid (HRP.out.below hb3)
  have HBG := Lib.hid (HBK.out _ _ _ ho3)
  have d1 := H3.out.b.c1
  have f1 := H3.out.b.fz 1
  simp only at d1
  clear ho3 hb3 HTB H2 HRP HBK hrG HGB
  go_upto_region 11 with (refine wpList_runR (by rfl) (.string (T (uB P))) (exec_strS HRP3.out (by rfl) _ rfl) ?_)
  refine gen_codeR (F := fun W => D2 w g j 24 C (recC ⟨z, uB P, [], zs32, 0⟩) W ∧ Rd W aG nG G) (by
    have h := H3.out.cell 1 (.string (T (uB P)))
    rw [recC_one1] at h
    exact ⟨h, (Only.ofCell j 1 _).rd' HRG.out HBG.out⟩) ?_
  rintro w4 ⟨hd4, hg4⟩
  have H4 := Lib.hid hd4
  have HG4 := Lib.hid hg4
  have d2 := H4.out.b.c2
  have f2 := H4.out.b.fz 2
  simp only at d2
  clear hd4 hg4 H3 HRP3 HRG HBG d1 f1
  go_upto_region 12 with (refine wpList_runR (by rfl) (.string (T (uB G))) (exec_strS HG4.out (by rfl) _ rfl) ?_)
  refine gen_codeR (F := D2 w g j 24 C (recC ⟨z, uB P, uB G, zs32, 0⟩)) (by
    have h := H4.out.cell 2 (.string (T (uB G)))
    rw [recC_two2] at h
    exact h) ?_
  intro w5 hd5
  have H5 := Lib.hid hd5
  clear hd5 H4 HG4 d2 f2
  go_wp2_with (refine wpList_runR (by rfl) (.slice A3 L c3) (by rw [HA3.out, HLE.out, HC3.out]; exact exec_cutU (a := some ⟨b, off, none⟩) (len := len) (cap := cap) (k := 1 + u + v) (t := 1 + (u : Int) + (v : Int)) (by omega) rfl (by omega) (by rfl) (by rfl) _ rfl _) ?_)
  go_loopw [12] (fun i wr => ∃ n : Nat, n ≤ 0 ∧ i = .int .i64 n ∧ Hid (D2 w g j 24 C (recC ⟨z, uB P, uB G, zs32, 0⟩) wr)) (fun i _ => 32 - (intOf i).toNat)
  case atStart => exact ⟨0, by omega, rfl, H5⟩
  case round =>
    clear H5
    obtain ⟨n, hn, rfl, HP⟩ := hrel
    have c0 := HP.out.b.c0
    simp only at c0
    · obtain rfl : n = 0 := by omega
      have HQ := Lib.hid HP.out
      clear HP hn
      have hxL : 0 < L := by omega
      have hl8 : ¬ (L : Int) < 8 := by omega
      have HGN := Lib.hid (HGT.out wr HQ.out.below)
      have hgt : (1099511627776 : Int) < (m : Int) := by omega
      go_wp2_with (first | (refine wpList_runR (by rfl) (.slice A4 8 (c3 - (L - 8))) (by rw [HA4.out]; exact exec_cutU (a := A3) (len := L) (cap := c3) (k := L - 8) (t := (L : Int) - 8) (by omega) (by omega) (by omega) (by rfl) (by rfl) _ rfl _) ?_) | (go_at_call 37; refine HGN.out.mono ?_; rintro e w6 ⟨rfl, rfl⟩) | (refine wpList_buildR 24 _ (by rfl) (by rfl) C (by simp only [List.map_toArray, List.map_cons, List.map_nil]; exact HBU.out) ?_) | (refine wpList_store_row (by rfl) 24 _ _ (by rfl) g C (by rfl) (by rfl) 24 C HQ.out.a HI.out rfl HO.out ?_))
      exact bodyPost_ret (results_row_tmpR rfl _ _ g 24 C (0, 0) _ (by rfl) HQ.out.a.setRow Tryd.underlying24 HI.out) rfl ⟨rfl, HQ.out.res.2.1⟩
set_option maxRecDepth 100000 in
set_option maxHeartbeats 8000000 in
theorem rdec0_c3 (a : Option Addr) (len cap : Nat) (zs : List Nat) (w : World) (h : Rd w a len zs) (h0 : 0 < len) (hcap : len ≤ cap) (hm : len ≤ 140737488355328) (hm0 : cap ≤ 9223372036854775807) (P : List Nat) (u : Nat) (hr1 : rt (zs.drop 1) 128 = (P, u, 0)) (G : List Nat) (v : Nat) (hr2 : rt (zs.drop (1 + u)) 128 = (G, v, 0)) (hz1 : ¬ zs.getD 0 0 = 1) (hl : 8 ≤ (zs.drop (1 + u + v)).length) (hx : (Numm.num 0 ((zs.drop (1 + u + v)).drop ((zs.drop (1 + u + v)).length - 8))) ≤ 1099511627776) (hr : rightB (preL ⟨(zs.getD 0 0 : Nat), uB P, uB G, zs32, 0⟩ (zs.drop (1 + u + v))) = false) :
    Calls Tryd.prog 15 #[.slice a len cap] w (fun e w' => e = .returned (.tuple #[.agg (recC rc0), .int .i64 10]) ∧ Below w.heap.size w w') := by
  obtain ⟨b, off, rfl⟩ : ∃ b off, a = some ⟨b, off, none⟩ := by
    rcases h.2.2 with h0 | ⟨b, off, e, _⟩
    · omega
    · exact ⟨b, off, e⟩
  have HR := Lib.hid h
  have hzl := h.1
  have hbz := h.2.1
  obtain ⟨z, hz⟩ : ∃ z, z = zs.getD 0 0 := ⟨_, rfl⟩
  have hzlt : z < 256 := by
    rw [hz]
    match zs, hzl, h.2.1 with
    | y :: l, _, hb => exact hb y (by simp)
    | [], hzl, _ => simp at hzl; omega
  have hcz : wrap64 (z : Int) = (z : Int) := IntWalk.wrap64_in _ (by omega)
  have HC0 := Lib.hid (show ∀ W, Below w.heap.size w W → W.cell? ⟨b, off, none⟩ = some (.int .u8 (z : Int)) from fun W hW => by
    rcases (h.below hW).2.2 with h0 | ⟨b', off', e, _, hc⟩
    · omega
    · cases e
      have c0 := hc 0 (by omega)
      rw [← hz, Nat.add_zero] at c0
      exact c0)
  have hi1 : ¬ (len : Int) < 1 := by omega
  obtain ⟨A1, hA1⟩ : ∃ A, A = sla (some ⟨b, off, none⟩) cap 1 := ⟨_, rfl⟩
  have HA1 := Lib.hid hA1
  have HT1 := Lib.hid fun W (hW : Below w.heap.size w W) => show Calls Tryd.prog 36 #[.slice A1 (len - 1) (cap - 1), .int .i64 128] W (RtRet W.heap.size W (rt (zs.drop 1) 128)) from by
    rw [hA1]
    exact refReadText_c _ (len - 1) (cap - 1) (zs.drop 1) 128 W ((h.below hW).cut cap 1 (by omega) hcap) (by omega) (by omega) (by omega) (by omega) (by omega)
  rw [hr1] at HT1
  obtain ⟨k1, k2, k3, k4, k5⟩ := rt_spec (fun x hx => hbz x (List.mem_of_mem_drop hx)) hr1
  rw [List.length_drop] at k3
  have HPB := Lib.hid k5
  obtain ⟨A2, hA2⟩ : ∃ A, A = sla (some ⟨b, off, none⟩) cap (1 + u) := ⟨_, rfl⟩
  have HA2 := Lib.hid hA2
  have hul : u ≤ len - 1 := by omega
  have HTX := Lib.hid fun W (hW : Below w.heap.size w W) => show Calls Tryd.prog 36 #[.slice A2 (len - (1 + u)) (cap - (1 + u)), .int .i64 128] W (RtRet W.heap.size W (rt (zs.drop (1 + u)) 128)) from by
    rw [hA2]
    exact refReadText_c _ (len - (1 + u)) (cap - (1 + u)) (zs.drop (1 + u)) 128 W ((h.below hW).cut cap (1 + u) (by omega) hcap) (by omega) (by omega) (by omega) (by omega) (by omega)
  rw [hr2] at HTX
  obtain ⟨q1, q2, q3, q4, q5⟩ := rt_spec (fun x hx => hbz x (List.mem_of_mem_drop hx)) hr2
  rw [List.length_drop] at q3
  have HGB := Lib.hid q5
  have hvl : u + v ≤ len - 1 := by omega
  rw [← hz] at hz1 hr
  obtain ⟨A3, hA3⟩ : ∃ A, A = sla (some ⟨b, off, none⟩) cap (1 + u + v) := ⟨_, rfl⟩
  have HA3 := Lib.hid hA3
  have HR3 := Lib.hid fun W (hW : Below w.heap.size w W) => show Rd W A3 (len - (1 + u + v)) (zs.drop (1 + u + v)) from by rw [hA3]; exact (h.below hW).cut cap (1 + u + v) (by omega) hcap
  obtain ⟨rest, hrest⟩ : ∃ r, r = (zs.drop (1 + u + v)) := ⟨_, rfl⟩
  have HRE := Lib.hid hrest
  have HLN := Lib.hid (show rest.length = len - (1 + u + v) from by rw [hrest, List.length_drop]; omega)
  have HRBY := Lib.hid (show ∀ y ∈ rest, y < 256 from fun y hy => by rw [hrest] at hy; exact hbz y (List.mem_of_mem_drop hy))
  rw [← hrest] at HR3 hl hx hr
  obtain ⟨L, hL⟩ : ∃ L, L = len - (1 + u + v) := ⟨_, rfl⟩
  have hLL : rest.length = L := by rw [HLN.out, hL]
  have HLE := Lib.hid hL
  rw [← hL] at HR3 HLN
  rw [hLL] at hl hx
  obtain ⟨c3, hc3⟩ : ∃ c, c = cap - (1 + u + v) := ⟨_, rfl⟩
  have HC3 := Lib.hid hc3
  have hlc3 : L ≤ c3 := by omega
  have hL47 : L ≤ 140737488355328 := by omega
  obtain ⟨A4, hA4⟩ : ∃ A, A = sla A3 c3 (L - 8) := ⟨_, rfl⟩
  have HA4 := Lib.hid hA4
  obtain ⟨m, hm2⟩ : ∃ m, m = Numm.num 0 (rest.drop (L - 8)) := ⟨_, rfl⟩
  have HM2 := Lib.hid hm2
  have HGT := Lib.hid fun W (hW : Below w.heap.size w W) => show Calls Tryd.prog 37 #[.slice A4 8 (c3 - (L - 8))] W _ from by
    have hc := (HR3.out W hW).cut c3 (L - 8) (by omega) hlc3
    rw [show L - (L - 8) = 8 by omega] at hc
    rw [hA4]
    exact refGet_c _ 8 (c3 - (L - 8)) (rest.drop (L - 8)) W hc (by omega)
  rw [← hm2] at HGT hx
  have HPL := Lib.hid (show preL ⟨(z : Nat), uB P, uB G, zs32, 0⟩ rest = ⟨z, uB P, uB G, zs32, m⟩ from by
    unfold preL
    simp only
    rw [if_neg (by omega), hLL, hm2])
  rw [HPL.out] at hr
  have HEN := Lib.hid fun W => renc_c ⟨z, uB P, uB G, zs32, m⟩ dOk_zs ⟨by simp only; rw [uB_len]; omega, by simp only; rw [uB_len]; omega⟩ W
  have HXB := Lib.hid (encX_byte ⟨z, uB P, uB G, zs32, m⟩ dOk_zs)
  have HXL := Lib.hid (encX_len ⟨z, uB P, uB G, zs32, m⟩ dOk_zs)
  have hex : encX ⟨z, uB P, uB G, zs32, m⟩ = ([], 1) := by unfold encX; rw [hr]; rfl
  rw [hex] at HEN HXB HXL
  unfold ER at HEN
  simp only at HEN HXB HXL
  clear hex hr
  have HI9 := Lib.hid (sizeRq (recC ⟨z, uB P, uB G, zs32, m⟩) (recC_size dOk_zs))
  have HO9 := Lib.hid (recC_one ⟨z, uB P, uB G, zs32, m⟩)
  have HZ9 := Lib.hid (recC_size (r := ⟨z, uB P, uB G, zs32, m⟩) dOk_zs)
  obtain ⟨D9, hD9⟩ : ∃ D, D = recC ⟨z, uB P, uB G, zs32, m⟩ := ⟨_, rfl⟩
  rw [← hD9] at HEN HI9 HO9 HZ9
  have HD9 := Lib.hid hD9
  clear hD9
  have HI := Lib.hid (sizeRq (recC rc0) (recC_size rc0_ok))
  have HBU := Lib.hid built_q0
  have HO := Lib.hid (recC_one rc0)
  have HZ := Lib.hid (recC_size rc0_ok)
  obtain ⟨C, hC⟩ : ∃ C, C = recC rc0 := ⟨_, rfl⟩
  have HCC := Lib.hid hC
  rw [← hC] at HI HBU HO HZ ⊢
  clear hC
  have hzi : ¬ (z : Int) = 1 := by omega
  have HBK0 := Lib.hid (built_qk z)
  have HIE := Lib.hid (sizeRq (recC ⟨z, [], [], zs32, 0⟩) (recC_size dOk_zs))
  have HOE := Lib.hid (recC_one ⟨z, [], [], zs32, 0⟩)
  have HZE := Lib.hid (recC_size (r := ⟨z, [], [], zs32, 0⟩) dOk_zs)
  obtain ⟨E, hE⟩ : ∃ E, E = recC ⟨z, [], [], zs32, 0⟩ := ⟨_, rfl⟩
  rw [← hE] at HBK0 HIE HOE HZE
  have HEE := Lib.hid hE
  clear hE
  clear h hA1 hr1 hbz k1 k2 k3 k4 k5 hA2 hr2 q1 q2 q3 q4 q5 hA3 hrest hL hLL hc3 HPL hA4 hm2 hz1 hz
  go_enter Tryd.func15, Tryd.ntmps15
  go_upto_region 1 with (fail)
  obtain ⟨g, hg⟩ : ∃ g, g = w.heap.size := ⟨_, rfl⟩
  refine gen_codeR (F := Bq w g 24 C) (by rw [hg, HCC.out]; exact Bq.new _ _ _) ?_
  rw [← hg]
  intro w0 hb0
  have H0 := Lib.hid hb0
  clear hg hb0
  have c0 := HC0.out w0 H0.out.2.1
  have HNB := Lib.hid (show RW (w0.alloc (.cells C 24 (0, 0))) w0.heap.size 24 C from RW.new _ _ _)
  rw [HCC.out] at HNB
  go_upto_region 4 with (first | (refine wpList_buildR 24 _ (by rfl) (by rfl) E (by simp only [List.map_toArray, List.map_cons, List.map_nil]; exact HBK0.out) ?_) | (refine wpList_store_row (by rfl) 24 _ _ (by rfl) w0.heap.size E (by rfl) (by rfl) 24 (recC rc0) (by exact HNB.out) HIE.out (by rw [recC_size rc0_ok, HZE.out]) HOE.out ?_))
  obtain ⟨j, hj⟩ : ∃ j, j = w0.heap.size := ⟨_, rfl⟩
  refine gen_codeR (F := D2 w g j 24 C (recC ⟨z, [], [], zs32, 0⟩)) (by rw [hj, ← HEE.out]; exact (D2.mk' (D := recC rc0) H0.out).row) ?_
  rw [← hj]
  intro w1 hd1
  have H1 := Lib.hid hd1
  clear hj hd1 H0 HNB c0 HC0 HBK0 HIE HOE HZE HEE
  have HTA := Lib.hid (HT1.out w1 H1.out.below)
  clear HT1
  go_wp2_with (refine wpList_runR (by rfl) (.slice A1 (len - 1) (cap - 1)) (by rw [HA1.out]; exact exec_cutS (a := some ⟨b, off, none⟩) (len := len) (cap := cap) (k := 1) (by omega) (by rfl) (by rfl) _ rfl _) ?_)
  refine HTA.out.mono ?_
  rintro e w2 ⟨v2, rfl, ho2, hb2⟩
  have H2 := Lib.hid (H1.out.step hb2)
  obtain ⟨aP, nP, cP, rfl, -, -, -, -, hrP, -⟩ := ho2.form HPB.out
  have HRP := Lib.hid hrP
  clear ho2 hb2 HTA H1 hrP HPB
  have HTB := Lib.hid (HTX.out w2 H2.out.below)
  clear HTX
  go_wp2_with (refine wpList_runR (by rfl) (.slice A2 (len - (1 + u)) (cap - (1 + u))) (by rw [HA2.out]; exact exec_cutU (a := some ⟨b, off, none⟩) (len := len) (cap := cap) (k := 1 + u) (t := 1 + (u : Int)) (by omega) rfl (by omega) (by rfl) (by rfl) _ rfl _) ?_)
  refine HTB.out.mono ?_
  rintro e w3 ⟨v3, rfl, ho3, hb3⟩
  have H3 := Lib.hid (H2.out.step hb3)
  have HBK := Lib.hid (show ∀ n c a, Own w3 w2.heap.size (.slice a n c) G → 0 < n → blkOf a ≠ some j from fun n c a ho h0 e => by
    have h1 := own_blk ho h0 j e
    have h2 := H2.out.b.lt
    omega)
  obtain ⟨aG, nG, cG, rfl, -, -, -, -, hrG, ho3⟩ := ho3.form HGB.out
  have HRG := Lib.hid hrG
  have HRP3 := Lib.hid (HRP.out.below hb3)
  have HBG := Lib.hid (HBK.out _ _ _ ho3)
  have d1 := H3.out.b.c1
  have f1 := H3.out.b.fz 1
  simp only at d1
  clear ho3 hb3 HTB H2 HRP HBK hrG HGB
  go_upto_region 11 with (refine wpList_runR (by rfl) (.string (T (uB P))) (exec_strS HRP3.out (by rfl) _ rfl) ?_)
  refine gen_codeR (F := fun W => D2 w g j 24 C (recC ⟨z, uB P, [], zs32, 0⟩) W ∧ Rd W aG nG G) (by
    have h := H3.out.cell 1 (.string (T (uB P)))
    rw [recC_one1] at h
    exact ⟨h, (Only.ofCell j 1 _).rd' HRG.out HBG.out⟩) ?_
  rintro w4 ⟨hd4, hg4⟩
  have H4 := Lib.hid hd4
  have HG4 := Lib.hid hg4
  have d2 := H4.out.b.c2
  have f2 := H4.out.b.fz 2
  simp only at d2
  clear hd4 hg4 H3 HRP3 HRG HBG d1 f1
  go_upto_region 12 with (refine wpList_runR (by rfl) (.string (T (uB G))) (exec_strS HG4.out (by rfl) _ rfl) ?_)
  refine gen_codeR (F := D2 w g j 24 C (recC ⟨z, uB P, uB G, zs32, 0⟩)) (by
    have h := H4.out.cell 2 (.string (T (uB G)))
    rw [recC_two2] at h
    exact h) ?_
  intro w5 hd5
  have H5 := Lib.hid hd5
  clear hd5 H4 HG4 d2 f2
  go_wp2_with (refine wpList_runR (by rfl) (.slice A3 L c3) (by rw [HA3.out, HLE.out, HC3.out]; exact exec_cutU (a := some ⟨b, off, none⟩) (len := len) (cap := cap) (k := 1 + u + v) (t := 1 + (u : Int) + (v : Int)) (by omega) rfl (by omega) (by rfl) (by rfl) _ rfl _) ?_)
  go_loopw [12] (fun i wr => ∃ n : Nat, n ≤ 0 ∧ i = .int .i64 n ∧ Hid (D2 w g j 24 C (recC ⟨z, uB P, uB G, zs32, 0⟩) wr)) (fun i _ => 32 - (intOf i).toNat)
  case atStart => exact ⟨0, by omega, rfl, H5⟩
  case round =>
    clear H5
    obtain ⟨n, hn, rfl, HP⟩ := hrel
    have c0 := HP.out.b.c0
    simp only at c0
    · obtain rfl : n = 0 := by omega
      have HQ := Lib.hid HP.out
      clear HP hn
      have hxL : 0 < L := by omega
      have hl8 : ¬ (L : Int) < 8 := by omega
      have HGN := Lib.hid (HGT.out wr HQ.out.below)
      have hgt : ¬ (1099511627776 : Int) < (m : Int) := by omega
      have HCM := Lib.hid (show m ≤ 9223372036854775807 by omega)
      have c35 := HQ.out.b.c35 dOk_zs
      have f35 := HQ.out.b.fz 35
      simp only at c35
      have H7 := Lib.hid (show D2 w g j 24 C D9 (wr.setCell ⟨j, 35, none⟩ (.int .i64 (m : Int))) from by
        have h := HQ.out.cell 35 (.int .i64 (m : Int))
        rw [recC_time _ _ _ _ _ _ dOk_zs.1, ← HD9.out] at h
        exact h)
      go_wp2_with (first | (refine wpList_runR (by rfl) (.slice A4 8 (c3 - (L - 8))) (by rw [HA4.out]; exact exec_cutU (a := A3) (len := L) (cap := c3) (k := L - 8) (t := (L : Int) - 8) (by omega) (by omega) (by omega) (by rfl) (by rfl) _ rfl _) ?_) | (go_at_call 37; refine HGN.out.mono ?_; rintro e w6 ⟨rfl, rfl⟩) | (refine wpList_runR (by rfl) (.int .i64 (m : Int)) (exec_cvR (m := m) HCM.out (by rfl) _ rfl _) ?_) | (refine wpList_runR (by rfl) (.agg D9) (exec_ldRow H7.out.b Tryd.underlying24 HI9.out (by rfl) _ rfl) ?_))
      refine (HEN.out _).mono ?_
      rintro e w8 ⟨v8, rfl, ho8, hb8⟩
      have H8 := Lib.hid (H7.out.step hb8)
      clear ho8 hb8 H7 HEN HQ HGN c35 f35 c0
      go_wp2_with (first | (refine wpList_buildR 24 _ (by rfl) (by rfl) C (by simp only [List.map_toArray, List.map_cons, List.map_nil]; exact HBU.out) ?_) | (refine wpList_store_row (by rfl) 24 _ _ (by rfl) g C (by rfl) (by rfl) 24 C H8.out.a HI.out rfl HO.out ?_))
      exact bodyPost_ret (results_row_tmpR rfl _ _ g 24 C (0, 0) _ (by rfl) H8.out.a.setRow Tryd.underlying24 HI.out) rfl ⟨rfl, H8.out.res.2.1⟩
set_option maxRecDepth 100000 in
set_option maxHeartbeats 8000000 in
theorem rdec0_c4 (a : Option Addr) (len cap : Nat) (zs : List Nat) (w : World) (h : Rd w a len zs) (h0 : 0 < len) (hcap : len ≤ cap) (hm : len ≤ 140737488355328) (hm0 : cap ≤ 9223372036854775807) (P : List Nat) (u : Nat) (hr1 : rt (zs.drop 1) 128 = (P, u, 0)) (G : List Nat) (v : Nat) (hr2 : rt (zs.drop (1 + u)) 128 = (G, v, 0)) (hz1 : ¬ zs.getD 0 0 = 1) (hl : 8 ≤ (zs.drop (1 + u + v)).length) (hx : (Numm.num 0 ((zs.drop (1 + u + v)).drop ((zs.drop (1 + u + v)).length - 8))) ≤ 1099511627776) (hr : rightB (preL ⟨(zs.getD 0 0 : Nat), uB P, uB G, zs32, 0⟩ (zs.drop (1 + u + v))) = true) (hq : encL (preL ⟨(zs.getD 0 0 : Nat), uB P, uB G, zs32, 0⟩ (zs.drop (1 + u + v))) ≠ zs) :
    Calls Tryd.prog 15 #[.slice a len cap] w (fun e w' => e = .returned (.tuple #[.agg (recC rc0), .int .i64 10]) ∧ Below w.heap.size w w') := by
  obtain ⟨b, off, rfl⟩ : ∃ b off, a = some ⟨b, off, none⟩ := by
    rcases h.2.2 with h0 | ⟨b, off, e, _⟩
    · omega
    · exact ⟨b, off, e⟩
  have HR := Lib.hid h
  have hzl := h.1
  have hbz := h.2.1
  obtain ⟨z, hz⟩ : ∃ z, z = zs.getD 0 0 := ⟨_, rfl⟩
  have hzlt : z < 256 := by
    rw [hz]
    match zs, hzl, h.2.1 with
    | y :: l, _, hb => exact hb y (by simp)
    | [], hzl, _ => simp at hzl; omega
  have hcz : wrap64 (z : Int) = (z : Int) := IntWalk.wrap64_in _ (by omega)
  have HC0 := Lib.hid (show ∀ W, Below w.heap.size w W → W.cell? ⟨b, off, none⟩ = some (.int .u8 (z : Int)) from fun W hW => by
    rcases (h.below hW).2.2 with h0 | ⟨b', off', e, _, hc⟩
    · omega
    · cases e
      have c0 := hc 0 (by omega)
      rw [← hz, Nat.add_zero] at c0
      exact c0)
  have hi1 : ¬ (len : Int) < 1 := by omega
  obtain ⟨A1, hA1⟩ : ∃ A, A = sla (some ⟨b, off, none⟩) cap 1 := ⟨_, rfl⟩
  have HA1 := Lib.hid hA1
  have HT1 := Lib.hid fun W (hW : Below w.heap.size w W) => show Calls Tryd.prog 36 #[.slice A1 (len - 1) (cap - 1), .int .i64 128] W (RtRet W.heap.size W (rt (zs.drop 1) 128)) from by
    rw [hA1]
    exact refReadText_c _ (len - 1) (cap - 1) (zs.drop 1) 128 W ((h.below hW).cut cap 1 (by omega) hcap) (by omega) (by omega) (by omega) (by omega) (by omega)
  rw [hr1] at HT1
  obtain ⟨k1, k2, k3, k4, k5⟩ := rt_spec (fun x hx => hbz x (List.mem_of_mem_drop hx)) hr1
  rw [List.length_drop] at k3
  have HPB := Lib.hid k5
  obtain ⟨A2, hA2⟩ : ∃ A, A = sla (some ⟨b, off, none⟩) cap (1 + u) := ⟨_, rfl⟩
  have HA2 := Lib.hid hA2
  have hul : u ≤ len - 1 := by omega
  have HTX := Lib.hid fun W (hW : Below w.heap.size w W) => show Calls Tryd.prog 36 #[.slice A2 (len - (1 + u)) (cap - (1 + u)), .int .i64 128] W (RtRet W.heap.size W (rt (zs.drop (1 + u)) 128)) from by
    rw [hA2]
    exact refReadText_c _ (len - (1 + u)) (cap - (1 + u)) (zs.drop (1 + u)) 128 W ((h.below hW).cut cap (1 + u) (by omega) hcap) (by omega) (by omega) (by omega) (by omega) (by omega)
  rw [hr2] at HTX
  obtain ⟨q1, q2, q3, q4, q5⟩ := rt_spec (fun x hx => hbz x (List.mem_of_mem_drop hx)) hr2
  rw [List.length_drop] at q3
  have HGB := Lib.hid q5
  have hvl : u + v ≤ len - 1 := by omega
  rw [← hz] at hz1 hr hq
  obtain ⟨A3, hA3⟩ : ∃ A, A = sla (some ⟨b, off, none⟩) cap (1 + u + v) := ⟨_, rfl⟩
  have HA3 := Lib.hid hA3
  have HR3 := Lib.hid fun W (hW : Below w.heap.size w W) => show Rd W A3 (len - (1 + u + v)) (zs.drop (1 + u + v)) from by rw [hA3]; exact (h.below hW).cut cap (1 + u + v) (by omega) hcap
  obtain ⟨rest, hrest⟩ : ∃ r, r = (zs.drop (1 + u + v)) := ⟨_, rfl⟩
  have HRE := Lib.hid hrest
  have HLN := Lib.hid (show rest.length = len - (1 + u + v) from by rw [hrest, List.length_drop]; omega)
  have HRBY := Lib.hid (show ∀ y ∈ rest, y < 256 from fun y hy => by rw [hrest] at hy; exact hbz y (List.mem_of_mem_drop hy))
  rw [← hrest] at HR3 hl hx hr hq
  obtain ⟨L, hL⟩ : ∃ L, L = len - (1 + u + v) := ⟨_, rfl⟩
  have hLL : rest.length = L := by rw [HLN.out, hL]
  have HLE := Lib.hid hL
  rw [← hL] at HR3 HLN
  rw [hLL] at hl hx
  obtain ⟨c3, hc3⟩ : ∃ c, c = cap - (1 + u + v) := ⟨_, rfl⟩
  have HC3 := Lib.hid hc3
  have hlc3 : L ≤ c3 := by omega
  have hL47 : L ≤ 140737488355328 := by omega
  obtain ⟨A4, hA4⟩ : ∃ A, A = sla A3 c3 (L - 8) := ⟨_, rfl⟩
  have HA4 := Lib.hid hA4
  obtain ⟨m, hm2⟩ : ∃ m, m = Numm.num 0 (rest.drop (L - 8)) := ⟨_, rfl⟩
  have HM2 := Lib.hid hm2
  have HGT := Lib.hid fun W (hW : Below w.heap.size w W) => show Calls Tryd.prog 37 #[.slice A4 8 (c3 - (L - 8))] W _ from by
    have hc := (HR3.out W hW).cut c3 (L - 8) (by omega) hlc3
    rw [show L - (L - 8) = 8 by omega] at hc
    rw [hA4]
    exact refGet_c _ 8 (c3 - (L - 8)) (rest.drop (L - 8)) W hc (by omega)
  rw [← hm2] at HGT hx
  have HPL := Lib.hid (show preL ⟨(z : Nat), uB P, uB G, zs32, 0⟩ rest = ⟨z, uB P, uB G, zs32, m⟩ from by
    unfold preL
    simp only
    rw [if_neg (by omega), hLL, hm2])
  rw [HPL.out] at hr hq
  have HEN := Lib.hid fun W => renc_c ⟨z, uB P, uB G, zs32, m⟩ dOk_zs ⟨by simp only; rw [uB_len]; omega, by simp only; rw [uB_len]; omega⟩ W
  have HXB := Lib.hid (encX_byte ⟨z, uB P, uB G, zs32, m⟩ dOk_zs)
  have HXL := Lib.hid (encX_len ⟨z, uB P, uB G, zs32, m⟩ dOk_zs)
  have hex : encX ⟨z, uB P, uB G, zs32, m⟩ = (encL ⟨z, uB P, uB G, zs32, m⟩, 0) := by unfold encX; rw [hr]; rfl
  rw [hex] at HEN HXB HXL
  unfold ER at HEN
  simp only at HEN HXB HXL
  clear hex hr
  obtain ⟨xs, hxs⟩ : ∃ xs, xs = encL ⟨z, uB P, uB G, zs32, m⟩ := ⟨_, rfl⟩
  rw [← hxs] at HEN HXB HXL hq
  have HXQ := Lib.hid hq
  clear hxs hq
  have HI9 := Lib.hid (sizeRq (recC ⟨z, uB P, uB G, zs32, m⟩) (recC_size dOk_zs))
  have HO9 := Lib.hid (recC_one ⟨z, uB P, uB G, zs32, m⟩)
  have HZ9 := Lib.hid (recC_size (r := ⟨z, uB P, uB G, zs32, m⟩) dOk_zs)
  obtain ⟨D9, hD9⟩ : ∃ D, D = recC ⟨z, uB P, uB G, zs32, m⟩ := ⟨_, rfl⟩
  rw [← hD9] at HEN HI9 HO9 HZ9
  have HD9 := Lib.hid hD9
  clear hD9
  have HI := Lib.hid (sizeRq (recC rc0) (recC_size rc0_ok))
  have HBU := Lib.hid built_q0
  have HO := Lib.hid (recC_one rc0)
  have HZ := Lib.hid (recC_size rc0_ok)
  obtain ⟨C, hC⟩ : ∃ C, C = recC rc0 := ⟨_, rfl⟩
  have HCC := Lib.hid hC
  rw [← hC] at HI HBU HO HZ ⊢
  clear hC
  have hzi : ¬ (z : Int) = 1 := by omega
  have HBK0 := Lib.hid (built_qk z)
  have HIE := Lib.hid (sizeRq (recC ⟨z, [], [], zs32, 0⟩) (recC_size dOk_zs))
  have HOE := Lib.hid (recC_one ⟨z, [], [], zs32, 0⟩)
  have HZE := Lib.hid (recC_size (r := ⟨z, [], [], zs32, 0⟩) dOk_zs)
  obtain ⟨E, hE⟩ : ∃ E, E = recC ⟨z, [], [], zs32, 0⟩ := ⟨_, rfl⟩
  rw [← hE] at HBK0 HIE HOE HZE
  have HEE := Lib.hid hE
  clear hE
  clear h hA1 hr1 hbz k1 k2 k3 k4 k5 hA2 hr2 q1 q2 q3 q4 q5 hA3 hrest hL hLL hc3 HPL hA4 hm2 hz1 hz
  go_enter Tryd.func15, Tryd.ntmps15
  go_upto_region 1 with (fail)
  obtain ⟨g, hg⟩ : ∃ g, g = w.heap.size := ⟨_, rfl⟩
  refine gen_codeR (F := Bq w g 24 C) (by rw [hg, HCC.out]; exact Bq.new _ _ _) ?_
  rw [← hg]
  intro w0 hb0
  have H0 := Lib.hid hb0
  clear hg hb0
  have c0 := HC0.out w0 H0.out.2.1
  have HNB := Lib.hid (show RW (w0.alloc (.cells C 24 (0, 0))) w0.heap.size 24 C from RW.new _ _ _)
  rw [HCC.out] at HNB
  go_upto_region 4 with (first | (refine wpList_buildR 24 _ (by rfl) (by rfl) E (by simp only [List.map_toArray, List.map_cons, List.map_nil]; exact HBK0.out) ?_) | (refine wpList_store_row (by rfl) 24 _ _ (by rfl) w0.heap.size E (by rfl) (by rfl) 24 (recC rc0) (by exact HNB.out) HIE.out (by rw [recC_size rc0_ok, HZE.out]) HOE.out ?_))
  obtain ⟨j, hj⟩ : ∃ j, j = w0.heap.size := ⟨_, rfl⟩
  refine gen_codeR (F := D2 w g j 24 C (recC ⟨z, [], [], zs32, 0⟩)) (by rw [hj, ← HEE.out]; exact (D2.mk' (D := recC rc0) H0.out).row) ?_
  rw [← hj]
  intro w1 hd1
  have H1 := Lib.hid hd1
  clear hj hd1 H0 HNB c0 HC0 HBK0 HIE HOE HZE HEE
  have HTA := Lib.hid (HT1.out w1 H1.out.below)
  clear HT1
  go_wp2_with (refine wpList_runR (by rfl) (.slice A1 (len - 1) (cap - 1)) (by rw [HA1.out]; exact exec_cutS (a := some ⟨b, off, none⟩) (len := len) (cap := cap) (k := 1) (by omega) (by rfl) (by rfl) _ rfl _) ?_)
  refine HTA.out.mono ?_
  rintro e w2 ⟨v2, rfl, ho2, hb2⟩
  have H2 := Lib.hid (H1.out.step hb2)
  obtain ⟨aP, nP, cP, rfl, -, -, -, -, hrP, -⟩ := ho2.form HPB.out
  have HRP := Lib.hid hrP
  clear ho2 hb2 HTA H1 hrP HPB
  have HTB := Lib.hid (HTX.out w2 H2.out.below)
  clear HTX
  go_wp2_with (refine wpList_runR (by rfl) (.slice A2 (len - (1 + u)) (cap - (1 + u))) (by rw [HA2.out]; exact exec_cutU (a := some ⟨b, off, none⟩) (len := len) (cap := cap) (k := 1 + u) (t := 1 + (u : Int)) (by omega) rfl (by omega) (by rfl) (by rfl) _ rfl _) ?_)
  refine HTB.out.mono ?_
  rintro e w3 ⟨v3, rfl, ho3, hb3⟩
  have H3 := Lib.hid (H2.out.step hb3)
  have HBK := Lib.hid (show ∀ n c a, Own w3 w2.heap.size (.slice a n c) G → 0 < n → blkOf a ≠ some j from fun n c a ho h0 e => by
    have h1 := own_blk ho h0 j e
    have h2 := H2.out.b.lt
    omega)
  obtain ⟨aG, nG, cG, rfl, -, -, -, -, hrG, ho3⟩ := ho3.form HGB.out
  have HRG := Lib.hid hrG
  have HRP3 := Lib.hid (HRP.out.below hb3)
  have HBG := Lib.hid (HBK.out _ _ _ ho3)
  have d1 := H3.out.b.c1
  have f1 := H3.out.b.fz 1
  simp only at d1
  clear ho3 hb3 HTB H2 HRP HBK hrG HGB
  go_upto_region 11 with (refine wpList_runR (by rfl) (.string (T (uB P))) (exec_strS HRP3.out (by rfl) _ rfl) ?_)
  refine gen_codeR (F := fun W => D2 w g j 24 C (recC ⟨z, uB P, [], zs32, 0⟩) W ∧ Rd W aG nG G) (by
    have h := H3.out.cell 1 (.string (T (uB P)))
    rw [recC_one1] at h
    exact ⟨h, (Only.ofCell j 1 _).rd' HRG.out HBG.out⟩) ?_
  rintro w4 ⟨hd4, hg4⟩
  have H4 := Lib.hid hd4
  have HG4 := Lib.hid hg4
  have d2 := H4.out.b.c2
  have f2 := H4.out.b.fz 2
  simp only at d2
  clear hd4 hg4 H3 HRP3 HRG HBG d1 f1
  go_upto_region 12 with (refine wpList_runR (by rfl) (.string (T (uB G))) (exec_strS HG4.out (by rfl) _ rfl) ?_)
  refine gen_codeR (F := D2 w g j 24 C (recC ⟨z, uB P, uB G, zs32, 0⟩)) (by
    have h := H4.out.cell 2 (.string (T (uB G)))
    rw [recC_two2] at h
    exact h) ?_
  intro w5 hd5
  have H5 := Lib.hid hd5
  clear hd5 H4 HG4 d2 f2
  go_wp2_with (refine wpList_runR (by rfl) (.slice A3 L c3) (by rw [HA3.out, HLE.out, HC3.out]; exact exec_cutU (a := some ⟨b, off, none⟩) (len := len) (cap := cap) (k := 1 + u + v) (t := 1 + (u : Int) + (v : Int)) (by omega) rfl (by omega) (by rfl) (by rfl) _ rfl _) ?_)
  go_loopw [12] (fun i wr => ∃ n : Nat, n ≤ 0 ∧ i = .int .i64 n ∧ Hid (D2 w g j 24 C (recC ⟨z, uB P, uB G, zs32, 0⟩) wr)) (fun i _ => 32 - (intOf i).toNat)
  case atStart => exact ⟨0, by omega, rfl, H5⟩
  case round =>
    clear H5
    obtain ⟨n, hn, rfl, HP⟩ := hrel
    have c0 := HP.out.b.c0
    simp only at c0
    · obtain rfl : n = 0 := by omega
      have HQ := Lib.hid HP.out
      clear HP hn
      have hxL : 0 < L := by omega
      have hl8 : ¬ (L : Int) < 8 := by omega
      have HGN := Lib.hid (HGT.out wr HQ.out.below)
      have hgt : ¬ (1099511627776 : Int) < (m : Int) := by omega
      have HCM := Lib.hid (show m ≤ 9223372036854775807 by omega)
      have c35 := HQ.out.b.c35 dOk_zs
      have f35 := HQ.out.b.fz 35
      simp only at c35
      have H7 := Lib.hid (show D2 w g j 24 C D9 (wr.setCell ⟨j, 35, none⟩ (.int .i64 (m : Int))) from by
        have h := HQ.out.cell 35 (.int .i64 (m : Int))
        rw [recC_time _ _ _ _ _ _ dOk_zs.1, ← HD9.out] at h
        exact h)
      go_wp2_with (first | (refine wpList_runR (by rfl) (.slice A4 8 (c3 - (L - 8))) (by rw [HA4.out]; exact exec_cutU (a := A3) (len := L) (cap := c3) (k := L - 8) (t := (L : Int) - 8) (by omega) (by omega) (by omega) (by rfl) (by rfl) _ rfl _) ?_) | (go_at_call 37; refine HGN.out.mono ?_; rintro e w6 ⟨rfl, rfl⟩) | (refine wpList_runR (by rfl) (.int .i64 (m : Int)) (exec_cvR (m := m) HCM.out (by rfl) _ rfl _) ?_) | (refine wpList_runR (by rfl) (.agg D9) (exec_ldRow H7.out.b Tryd.underlying24 HI9.out (by rfl) _ rfl) ?_))
      refine (HEN.out _).mono ?_
      rintro e w8 ⟨v8, rfl, ho8, hb8⟩
      have H8 := Lib.hid (H7.out.step hb8)
      obtain ⟨a15, n15, c15, rfl, hl15, -, -, -, hr15, -⟩ := ho8.form HXB.out
      have HSM := Lib.hid (same_c a15 (some ⟨b, off, none⟩) n15 c15 len cap xs zs w8 hr15 (HR.out.below H8.out.below) (by have := HXL.out; omega))
      rw [decide_eq_false HXQ.out] at HSM
      clear ho8 hb8 H7 HEN hl15 hr15 HQ HGN c35 f35 c0
      go_wp2_with (first | (go_at_call 13; refine HSM.out.mono ?_; rintro e w9 hw9; obtain ⟨rfl, hb9⟩ := (show e = .returned (.bool false) ∧ Below w8.heap.size w8 w9 from ⟨hw9.1, by obtain ⟨q, hq⟩ := hw9.2; rw [hq]; exact below_drewN' _ _ q⟩); have H9 := Lib.hid (H8.out.step hb9); clear hw9 hb9) | (refine wpList_buildR 24 _ (by rfl) (by rfl) C (by simp only [List.map_toArray, List.map_cons, List.map_nil]; exact HBU.out) ?_) | (refine wpList_store_row (by rfl) 24 _ _ (by rfl) g C (by rfl) (by rfl) 24 C H9.out.a HI.out rfl HO.out ?_))
      exact bodyPost_ret (results_row_tmpR rfl _ _ g 24 C (0, 0) _ (by rfl) H9.out.a.setRow Tryd.underlying24 HI.out) rfl ⟨rfl, H9.out.res.2.1⟩
set_option maxRecDepth 100000 in
set_option maxHeartbeats 8000000 in
theorem rdec0_c5 (a : Option Addr) (len cap : Nat) (zs : List Nat) (w : World) (h : Rd w a len zs) (h0 : 0 < len) (hcap : len ≤ cap) (hm : len ≤ 140737488355328) (hm0 : cap ≤ 9223372036854775807) (P : List Nat) (u : Nat) (hr1 : rt (zs.drop 1) 128 = (P, u, 0)) (G : List Nat) (v : Nat) (hr2 : rt (zs.drop (1 + u)) 128 = (G, v, 0)) (hz1 : ¬ zs.getD 0 0 = 1) (hl : 8 ≤ (zs.drop (1 + u + v)).length) (hx : (Numm.num 0 ((zs.drop (1 + u + v)).drop ((zs.drop (1 + u + v)).length - 8))) ≤ 1099511627776) (hr : rightB (preL ⟨(zs.getD 0 0 : Nat), uB P, uB G, zs32, 0⟩ (zs.drop (1 + u + v))) = true) (hq : encL (preL ⟨(zs.getD 0 0 : Nat), uB P, uB G, zs32, 0⟩ (zs.drop (1 + u + v))) = zs) :
    Calls Tryd.prog 15 #[.slice a len cap] w (fun e w' => e = .returned (.tuple #[.agg (recC (preL ⟨(zs.getD 0 0 : Nat), uB P, uB G, zs32, 0⟩ (zs.drop (1 + u + v)))), .int .i64 0]) ∧ Below w.heap.size w w') := by
  obtain ⟨b, off, rfl⟩ : ∃ b off, a = some ⟨b, off, none⟩ := by
    rcases h.2.2 with h0 | ⟨b, off, e, _⟩
    · omega
    · exact ⟨b, off, e⟩
  have HR := Lib.hid h
  have hzl := h.1
  have hbz := h.2.1
  obtain ⟨z, hz⟩ : ∃ z, z = zs.getD 0 0 := ⟨_, rfl⟩
  have hzlt : z < 256 := by
    rw [hz]
    match zs, hzl, h.2.1 with
    | y :: l, _, hb => exact hb y (by simp)
    | [], hzl, _ => simp at hzl; omega
  have hcz : wrap64 (z : Int) = (z : Int) := IntWalk.wrap64_in _ (by omega)
  have HC0 := Lib.hid (show ∀ W, Below w.heap.size w W → W.cell? ⟨b, off, none⟩ = some (.int .u8 (z : Int)) from fun W hW => by
    rcases (h.below hW).2.2 with h0 | ⟨b', off', e, _, hc⟩
    · omega
    · cases e
      have c0 := hc 0 (by omega)
      rw [← hz, Nat.add_zero] at c0
      exact c0)
  have hi1 : ¬ (len : Int) < 1 := by omega
  obtain ⟨A1, hA1⟩ : ∃ A, A = sla (some ⟨b, off, none⟩) cap 1 := ⟨_, rfl⟩
  have HA1 := Lib.hid hA1
  have HT1 := Lib.hid fun W (hW : Below w.heap.size w W) => show Calls Tryd.prog 36 #[.slice A1 (len - 1) (cap - 1), .int .i64 128] W (RtRet W.heap.size W (rt (zs.drop 1) 128)) from by
    rw [hA1]
    exact refReadText_c _ (len - 1) (cap - 1) (zs.drop 1) 128 W ((h.below hW).cut cap 1 (by omega) hcap) (by omega) (by omega) (by omega) (by omega) (by omega)
  rw [hr1] at HT1
  obtain ⟨k1, k2, k3, k4, k5⟩ := rt_spec (fun x hx => hbz x (List.mem_of_mem_drop hx)) hr1
  rw [List.length_drop] at k3
  have HPB := Lib.hid k5
  obtain ⟨A2, hA2⟩ : ∃ A, A = sla (some ⟨b, off, none⟩) cap (1 + u) := ⟨_, rfl⟩
  have HA2 := Lib.hid hA2
  have hul : u ≤ len - 1 := by omega
  have HTX := Lib.hid fun W (hW : Below w.heap.size w W) => show Calls Tryd.prog 36 #[.slice A2 (len - (1 + u)) (cap - (1 + u)), .int .i64 128] W (RtRet W.heap.size W (rt (zs.drop (1 + u)) 128)) from by
    rw [hA2]
    exact refReadText_c _ (len - (1 + u)) (cap - (1 + u)) (zs.drop (1 + u)) 128 W ((h.below hW).cut cap (1 + u) (by omega) hcap) (by omega) (by omega) (by omega) (by omega) (by omega)
  rw [hr2] at HTX
  obtain ⟨q1, q2, q3, q4, q5⟩ := rt_spec (fun x hx => hbz x (List.mem_of_mem_drop hx)) hr2
  rw [List.length_drop] at q3
  have HGB := Lib.hid q5
  have hvl : u + v ≤ len - 1 := by omega
  rw [← hz] at hz1 hr hq ⊢
  obtain ⟨A3, hA3⟩ : ∃ A, A = sla (some ⟨b, off, none⟩) cap (1 + u + v) := ⟨_, rfl⟩
  have HA3 := Lib.hid hA3
  have HR3 := Lib.hid fun W (hW : Below w.heap.size w W) => show Rd W A3 (len - (1 + u + v)) (zs.drop (1 + u + v)) from by rw [hA3]; exact (h.below hW).cut cap (1 + u + v) (by omega) hcap
  obtain ⟨rest, hrest⟩ : ∃ r, r = (zs.drop (1 + u + v)) := ⟨_, rfl⟩
  have HRE := Lib.hid hrest
  have HLN := Lib.hid (show rest.length = len - (1 + u + v) from by rw [hrest, List.length_drop]; omega)
  have HRBY := Lib.hid (show ∀ y ∈ rest, y < 256 from fun y hy => by rw [hrest] at hy; exact hbz y (List.mem_of_mem_drop hy))
  rw [← hrest] at HR3 hl hx hr hq ⊢
  obtain ⟨L, hL⟩ : ∃ L, L = len - (1 + u + v) := ⟨_, rfl⟩
  have hLL : rest.length = L := by rw [HLN.out, hL]
  have HLE := Lib.hid hL
  rw [← hL] at HR3 HLN
  rw [hLL] at hl hx
  obtain ⟨c3, hc3⟩ : ∃ c, c = cap - (1 + u + v) := ⟨_, rfl⟩
  have HC3 := Lib.hid hc3
  have hlc3 : L ≤ c3 := by omega
  have hL47 : L ≤ 140737488355328 := by omega
  obtain ⟨A4, hA4⟩ : ∃ A, A = sla A3 c3 (L - 8) := ⟨_, rfl⟩
  have HA4 := Lib.hid hA4
  obtain ⟨m, hm2⟩ : ∃ m, m = Numm.num 0 (rest.drop (L - 8)) := ⟨_, rfl⟩
  have HM2 := Lib.hid hm2
  have HGT := Lib.hid fun W (hW : Below w.heap.size w W) => show Calls Tryd.prog 37 #[.slice A4 8 (c3 - (L - 8))] W _ from by
    have hc := (HR3.out W hW).cut c3 (L - 8) (by omega) hlc3
    rw [show L - (L - 8) = 8 by omega] at hc
    rw [hA4]
    exact refGet_c _ 8 (c3 - (L - 8)) (rest.drop (L - 8)) W hc (by omega)
  rw [← hm2] at HGT hx
  have HPL := Lib.hid (show preL ⟨(z : Nat), uB P, uB G, zs32, 0⟩ rest = ⟨z, uB P, uB G, zs32, m⟩ from by
    unfold preL
    simp only
    rw [if_neg (by omega), hLL, hm2])
  rw [HPL.out] at hr hq ⊢
  have HEN := Lib.hid fun W => renc_c ⟨z, uB P, uB G, zs32, m⟩ dOk_zs ⟨by simp only; rw [uB_len]; omega, by simp only; rw [uB_len]; omega⟩ W
  have HXB := Lib.hid (encX_byte ⟨z, uB P, uB G, zs32, m⟩ dOk_zs)
  have HXL := Lib.hid (encX_len ⟨z, uB P, uB G, zs32, m⟩ dOk_zs)
  have hex : encX ⟨z, uB P, uB G, zs32, m⟩ = (encL ⟨z, uB P, uB G, zs32, m⟩, 0) := by unfold encX; rw [hr]; rfl
  rw [hex] at HEN HXB HXL
  unfold ER at HEN
  simp only at HEN HXB HXL
  clear hex hr
  obtain ⟨xs, hxs⟩ : ∃ xs, xs = encL ⟨z, uB P, uB G, zs32, m⟩ := ⟨_, rfl⟩
  rw [← hxs] at HEN HXB HXL hq
  have HXQ := Lib.hid hq
  clear hxs hq
  have HI9 := Lib.hid (sizeRq (recC ⟨z, uB P, uB G, zs32, m⟩) (recC_size dOk_zs))
  have HO9 := Lib.hid (recC_one ⟨z, uB P, uB G, zs32, m⟩)
  have HZ9 := Lib.hid (recC_size (r := ⟨z, uB P, uB G, zs32, m⟩) dOk_zs)
  obtain ⟨D9, hD9⟩ : ∃ D, D = recC ⟨z, uB P, uB G, zs32, m⟩ := ⟨_, rfl⟩
  rw [← hD9] at HEN HI9 HO9 HZ9 ⊢
  have HD9 := Lib.hid hD9
  clear hD9
  have HI := Lib.hid (sizeRq (recC rc0) (recC_size rc0_ok))
  have HBU := Lib.hid built_q0
  have HO := Lib.hid (recC_one rc0)
  have HZ := Lib.hid (recC_size rc0_ok)
  obtain ⟨C, hC⟩ : ∃ C, C = recC rc0 := ⟨_, rfl⟩
  have HCC := Lib.hid hC
  rw [← hC] at HI HBU HO HZ
  clear hC
  have hzi : ¬ (z : Int) = 1 := by omega
  have HBK0 := Lib.hid (built_qk z)
  have HIE := Lib.hid (sizeRq (recC ⟨z, [], [], zs32, 0⟩) (recC_size dOk_zs))
  have HOE := Lib.hid (recC_one ⟨z, [], [], zs32, 0⟩)
  have HZE := Lib.hid (recC_size (r := ⟨z, [], [], zs32, 0⟩) dOk_zs)
  obtain ⟨E, hE⟩ : ∃ E, E = recC ⟨z, [], [], zs32, 0⟩ := ⟨_, rfl⟩
  rw [← hE] at HBK0 HIE HOE HZE
  have HEE := Lib.hid hE
  clear hE
  clear h hA1 hr1 hbz k1 k2 k3 k4 k5 hA2 hr2 q1 q2 q3 q4 q5 hA3 hrest hL hLL hc3 HPL hA4 hm2 hz1 hz
  go_enter Tryd.func15, Tryd.ntmps15
  go_upto_region 1 with (fail)
  obtain ⟨g, hg⟩ : ∃ g, g = w.heap.size := ⟨_, rfl⟩
  refine gen_codeR (F := Bq w g 24 C) (by rw [hg, HCC.out]; exact Bq.new _ _ _) ?_
  rw [← hg]
  intro w0 hb0
  have H0 := Lib.hid hb0
  clear hg hb0
  have c0 := HC0.out w0 H0.out.2.1
  have HNB := Lib.hid (show RW (w0.alloc (.cells C 24 (0, 0))) w0.heap.size 24 C from RW.new _ _ _)
  rw [HCC.out] at HNB
  go_upto_region 4 with (first | (refine wpList_buildR 24 _ (by rfl) (by rfl) E (by simp only [List.map_toArray, List.map_cons, List.map_nil]; exact HBK0.out) ?_) | (refine wpList_store_row (by rfl) 24 _ _ (by rfl) w0.heap.size E (by rfl) (by rfl) 24 (recC rc0) (by exact HNB.out) HIE.out (by rw [recC_size rc0_ok, HZE.out]) HOE.out ?_))
  obtain ⟨j, hj⟩ : ∃ j, j = w0.heap.size := ⟨_, rfl⟩
  refine gen_codeR (F := D2 w g j 24 C (recC ⟨z, [], [], zs32, 0⟩)) (by rw [hj, ← HEE.out]; exact (D2.mk' (D := recC rc0) H0.out).row) ?_
  rw [← hj]
  intro w1 hd1
  have H1 := Lib.hid hd1
  clear hj hd1 H0 HNB c0 HC0 HBK0 HIE HOE HZE HEE
  have HTA := Lib.hid (HT1.out w1 H1.out.below)
  clear HT1
  go_wp2_with (refine wpList_runR (by rfl) (.slice A1 (len - 1) (cap - 1)) (by rw [HA1.out]; exact exec_cutS (a := some ⟨b, off, none⟩) (len := len) (cap := cap) (k := 1) (by omega) (by rfl) (by rfl) _ rfl _) ?_)
  refine HTA.out.mono ?_
  rintro e w2 ⟨v2, rfl, ho2, hb2⟩
  have H2 := Lib.hid (H1.out.step hb2)
  obtain ⟨aP, nP, cP, rfl, -, -, -, -, hrP, -⟩ := ho2.form HPB.out
  have HRP := Lib.hid hrP
  clear ho2 hb2 HTA H1 hrP HPB
  have HTB := Lib.hid (HTX.out w2 H2.out.below)
  clear HTX
  go_wp2_with (refine wpList_runR (by rfl) (.slice A2 (len - (1 + u)) (cap - (1 + u))) (by rw [HA2.out]; exact exec_cutU (a := some ⟨b, off, none⟩) (len := len) (cap := cap) (k := 1 + u) (t := 1 + (u : Int)) (by omega) rfl (by omega) (by rfl) (by rfl) _ rfl _) ?_)
  refine HTB.out.mono ?_
  rintro e w3 ⟨v3, rfl, ho3, hb3⟩
  have H3 := Lib.hid (H2.out.step hb3)
  have HBK := Lib.hid (show ∀ n c a, Own w3 w2.heap.size (.slice a n c) G → 0 < n → blkOf a ≠ some j from fun n c a ho h0 e => by
    have h1 := own_blk ho h0 j e
    have h2 := H2.out.b.lt
    omega)
  obtain ⟨aG, nG, cG, rfl, -, -, -, -, hrG, ho3⟩ := ho3.form HGB.out
  have HRG := Lib.hid hrG
  have HRP3 := Lib.hid (HRP.out.below hb3)
  have HBG := Lib.hid (HBK.out _ _ _ ho3)
  have d1 := H3.out.b.c1
  have f1 := H3.out.b.fz 1
  simp only at d1
  clear ho3 hb3 HTB H2 HRP HBK hrG HGB
  go_upto_region 11 with (refine wpList_runR (by rfl) (.string (T (uB P))) (exec_strS HRP3.out (by rfl) _ rfl) ?_)
  refine gen_codeR (F := fun W => D2 w g j 24 C (recC ⟨z, uB P, [], zs32, 0⟩) W ∧ Rd W aG nG G) (by
    have h := H3.out.cell 1 (.string (T (uB P)))
    rw [recC_one1] at h
    exact ⟨h, (Only.ofCell j 1 _).rd' HRG.out HBG.out⟩) ?_
  rintro w4 ⟨hd4, hg4⟩
  have H4 := Lib.hid hd4
  have HG4 := Lib.hid hg4
  have d2 := H4.out.b.c2
  have f2 := H4.out.b.fz 2
  simp only at d2
  clear hd4 hg4 H3 HRP3 HRG HBG d1 f1
  go_upto_region 12 with (refine wpList_runR (by rfl) (.string (T (uB G))) (exec_strS HG4.out (by rfl) _ rfl) ?_)
  refine gen_codeR (F := D2 w g j 24 C (recC ⟨z, uB P, uB G, zs32, 0⟩)) (by
    have h := H4.out.cell 2 (.string (T (uB G)))
    rw [recC_two2] at h
    exact h) ?_
  intro w5 hd5
  have H5 := Lib.hid hd5
  clear hd5 H4 HG4 d2 f2
  go_wp2_with (refine wpList_runR (by rfl) (.slice A3 L c3) (by rw [HA3.out, HLE.out, HC3.out]; exact exec_cutU (a := some ⟨b, off, none⟩) (len := len) (cap := cap) (k := 1 + u + v) (t := 1 + (u : Int) + (v : Int)) (by omega) rfl (by omega) (by rfl) (by rfl) _ rfl _) ?_)
  go_loopw [12] (fun i wr => ∃ n : Nat, n ≤ 0 ∧ i = .int .i64 n ∧ Hid (D2 w g j 24 C (recC ⟨z, uB P, uB G, zs32, 0⟩) wr)) (fun i _ => 32 - (intOf i).toNat)
  case atStart => exact ⟨0, by omega, rfl, H5⟩
  case round =>
    clear H5
    obtain ⟨n, hn, rfl, HP⟩ := hrel
    have c0 := HP.out.b.c0
    simp only at c0
    · obtain rfl : n = 0 := by omega
      have HQ := Lib.hid HP.out
      clear HP hn
      have hxL : 0 < L := by omega
      have hl8 : ¬ (L : Int) < 8 := by omega
      have HGN := Lib.hid (HGT.out wr HQ.out.below)
      have hgt : ¬ (1099511627776 : Int) < (m : Int) := by omega
      have HCM := Lib.hid (show m ≤ 9223372036854775807 by omega)
      have c35 := HQ.out.b.c35 dOk_zs
      have f35 := HQ.out.b.fz 35
      simp only at c35
      have H7 := Lib.hid (show D2 w g j 24 C D9 (wr.setCell ⟨j, 35, none⟩ (.int .i64 (m : Int))) from by
        have h := HQ.out.cell 35 (.int .i64 (m : Int))
        rw [recC_time _ _ _ _ _ _ dOk_zs.1, ← HD9.out] at h
        exact h)
      go_wp2_with (first | (refine wpList_runR (by rfl) (.slice A4 8 (c3 - (L - 8))) (by rw [HA4.out]; exact exec_cutU (a := A3) (len := L) (cap := c3) (k := L - 8) (t := (L : Int) - 8) (by omega) (by omega) (by omega) (by rfl) (by rfl) _ rfl _) ?_) | (go_at_call 37; refine HGN.out.mono ?_; rintro e w6 ⟨rfl, rfl⟩) | (refine wpList_runR (by rfl) (.int .i64 (m : Int)) (exec_cvR (m := m) HCM.out (by rfl) _ rfl _) ?_) | (refine wpList_runR (by rfl) (.agg D9) (exec_ldRow H7.out.b Tryd.underlying24 HI9.out (by rfl) _ rfl) ?_))
      refine (HEN.out _).mono ?_
      rintro e w8 ⟨v8, rfl, ho8, hb8⟩
      have H8 := Lib.hid (H7.out.step hb8)
      obtain ⟨a15, n15, c15, rfl, hl15, -, -, -, hr15, -⟩ := ho8.form HXB.out
      have HSM := Lib.hid (same_c a15 (some ⟨b, off, none⟩) n15 c15 len cap xs zs w8 hr15 (HR.out.below H8.out.below) (by have := HXL.out; omega))
      rw [decide_eq_true HXQ.out] at HSM
      clear ho8 hb8 H7 HEN hl15 hr15 HQ HGN c35 f35 c0
      go_wp2_with (first | (go_at_call 13; refine HSM.out.mono ?_; rintro e w9 hw9; obtain ⟨rfl, hb9⟩ := (show e = .returned (.bool true) ∧ Below w8.heap.size w8 w9 from ⟨hw9.1, by obtain ⟨q, hq⟩ := hw9.2; rw [hq]; exact below_drewN' _ _ q⟩); have H9 := Lib.hid (H8.out.step hb9); clear hw9 hb9) | (refine wpList_runR (by rfl) (.agg D9) (exec_ldRow H9.out.b Tryd.underlying24 HI9.out (by rfl) _ rfl) ?_) | (refine wpList_store_row (by rfl) 24 _ _ (by rfl) g D9 (by rfl) (by rfl) 24 C H9.out.a HI9.out (by rw [HZ9.out, HZ.out]) HO9.out ?_))
      exact bodyPost_ret (results_row_tmpR rfl _ _ g 24 D9 (0, 0) _ (by rfl) H9.out.a.setRow Tryd.underlying24 HI9.out) rfl ⟨rfl, H9.out.res.2.1⟩
end Go.Proofs.YtjjkfbebaoikbaaDoor.Rc
