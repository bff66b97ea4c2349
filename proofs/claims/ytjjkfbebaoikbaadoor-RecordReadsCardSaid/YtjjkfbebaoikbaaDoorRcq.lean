/-
  The document's record of any bytes, whole.
-/
import Derived.Test.YtjjkfbebaoikbaaDoorRck
namespace Go.Proofs.YtjjkfbebaoikbaaDoor.Rc
open Go.RowKit Go.Proofs.Nm Go.Proofs.YtjjkfbebaoikbaaDoor
set_option linter.unusedVariables false
set_option maxRecDepth 100000 in
set_option maxHeartbeats 8000000 in
theorem rdec1_c1 (a : Option Addr) (len cap : Nat) (zs : List Nat) (w : World) (h : Rd w a len zs) (h0 : 0 < len) (hcap : len ≤ cap) (hm : len ≤ 140737488355328) (hm0 : cap ≤ 9223372036854775807) (P : List Nat) (u : Nat) (hr1 : rt (zs.drop 1) 128 = (P, u, 0)) (G : List Nat) (v : Nat) (hr2 : rt (zs.drop (1 + u)) 128 = (G, v, 0)) (hz1 : zs.getD 0 0 = 1) (hl : (zs.drop (1 + u + v)).length < 8) :
    Calls Tryd.prog 15 #[.slice a len cap] w (fun e w' => e = .returned (.tuple #[.agg (recC rc0), .int .i64 10]) ∧ Below w.heap.size w w') := by
  obtain ⟨b, off, rfl⟩ : ∃ b off, a = some ⟨b, off, none⟩ := by
    rcases h.2.2 with h0 | ⟨b, off, e, _⟩
    · omega
    · exact ⟨b, off, e⟩
  have HR := Lib.hid h
  have hzl := h.1
  have hbz := h.2.1
  obtain ⟨z, hz⟩ : ∃ z, z = zs.getD 0 0 := ⟨_, rfl⟩
  have hzlt : z < 256 := by
    rw [hz]
    match zs, hzl, h.2.1 with
    | y :: l, _, hb => exact hb y (by simp)
    | [], hzl, _ => simp at hzl; omega
  have hcz : wrap64 (z : Int) = (z : Int) := IntWalk.wrap64_in _ (by omega)
  have HC0 := Lib.hid (show ∀ W, Below w.heap.size w W → W.cell? ⟨b, off, none⟩ = some (.int .u8 (z : Int)) from fun W hW => by
    rcases (h.below hW).2.2 with h0 | ⟨b', off', e, _, hc⟩
    · omega
    · cases e
      have c0 := hc 0 (by omega)
      rw [← hz, Nat.add_zero] at c0
      exact c0)
  have hi1 : ¬ (len : Int) < 1 := by omega
  obtain ⟨A1, hA1⟩ : ∃ A, A = sla (some ⟨b, off, none⟩) cap 1 := ⟨_, rfl⟩
  have HA1 := Lib.hid hA1
  have HT1 := Lib.hid fun W (hW : Below w.heap.size w W) => show Calls Tryd.prog 36 #[.slice A1 (len - 1) (cap - 1), .int .i64 128] W (RtRet W.heap.size W (rt (zs.drop 1) 128)) from by
    rw [hA1]
    exact refReadText_c _ (len - 1) (cap - 1) (zs.drop 1) 128 W ((h.below hW).cut cap 1 (by omega) hcap) (by omega) (by omega) (by omega) (by omega) (by omega)
  rw [hr1] at HT1
  obtain ⟨k1, k2, k3, k4, k5⟩ := rt_spec (fun x hx => hbz x (List.mem_of_mem_drop hx)) hr1
  rw [List.length_drop] at k3
  have HPB := Lib.hid k5
  obtain ⟨A2, hA2⟩ : ∃ A, A = sla (some ⟨b, off, none⟩) cap (1 + u) := ⟨_, rfl⟩
  have HA2 := Lib.hid hA2
  have hul : u ≤ len - 1 := by omega
  have HTX := Lib.hid fun W (hW : Below w.heap.size w W) => show Calls Tryd.prog 36 #[.slice A2 (len - (1 + u)) (cap - (1 + u)), .int .i64 128] W (RtRet W.heap.size W (rt (zs.drop (1 + u)) 128)) from by
    rw [hA2]
    exact refReadText_c _ (len - (1 + u)) (cap - (1 + u)) (zs.drop (1 + u)) 128 W ((h.below hW).cut cap (1 + u) (by omega) hcap) (by omega) (by omega) (by omega) (by omega) (by omega)
  rw [hr2] at HTX
  obtain ⟨q1, q2, q3, q4, q5⟩ := rt_spec (fun x hx => hbz x (List.mem_of_mem_drop hx)) hr2
  rw [List.length_drop] at q3
  have HGB := Lib.hid q5
  have hvl : u + v ≤ len - 1 := by omega
  rw [← hz] at hz1
  obtain ⟨A3, hA3⟩ : ∃ A, A = sla (some ⟨b, off, none⟩) cap (1 + u + v) := ⟨_, rfl⟩
  have HA3 := Lib.hid hA3
  have HR3 := Lib.hid fun W (hW : Below w.heap.size w W) => show Rd W A3 (len - (1 + u + v)) (zs.drop (1 + u + v)) from by rw [hA3]; exact (h.below hW).cut cap (1 + u + v) (by omega) hcap
  obtain ⟨rest, hrest⟩ : ∃ r, r = (zs.drop (1 + u + v)) := ⟨_, rfl⟩
  have HRE := Lib.hid hrest
  have HLN := Lib.hid (show rest.length = len - (1 + u + v) from by rw [hrest, List.length_drop]; omega)
  have HRBY := Lib.hid (show ∀ y ∈ rest, y < 256 from fun y hy => by rw [hrest] at hy; exact hbz y (List.mem_of_mem_drop hy))
  rw [← hrest] at HR3 hl
  obtain ⟨L, hL⟩ : ∃ L, L = len - (1 + u + v) := ⟨_, rfl⟩
  have hLL : rest.length = L := by rw [HLN.out, hL]
  have HLE := Lib.hid hL
  rw [← hL] at HR3 HLN
  rw [hLL] at hl
  obtain ⟨c3, hc3⟩ : ∃ c, c = cap - (1 + u + v) := ⟨_, rfl⟩
  have HC3 := Lib.hid hc3
  have hlc3 : L ≤ c3 := by omega
  have hL47 : L ≤ 140737488355328 := by omega
  obtain ⟨K, hK⟩ : ∃ K, K = min 32 rest.length := ⟨_, rfl⟩
  have HYK := Lib.hid (yk_min rest K hK)
  rw [hLL] at hK
  have hK1 : K ≤ 32 := by omega
  have hK2 : K ≤ L := by omega
  have HK3 := Lib.hid (show K = 32 ∨ K = L by omega)
  have HDG := Lib.hid (yk_ok HRBY.out hK1 (by rw [hLL]; exact hK2))
  have HPL := Lib.hid (show preL ⟨(z : Nat), uB P, uB G, zs32, 0⟩ rest = ⟨1, uB P, uB G, yk rest K, (Numm.num 0 (rest.drop (rest.length - 8)) : Nat)⟩ from by
    unfold preL
    simp only
    rw [if_pos (by omega), ← HYK.out, hz1]; rfl)
  have HI := Lib.hid (sizeRq (recC rc0) (recC_size rc0_ok))
  have HBU := Lib.hid built_q0
  have HO := Lib.hid (recC_one rc0)
  have HZ := Lib.hid (recC_size rc0_ok)
  obtain ⟨C, hC⟩ : ∃ C, C = recC rc0 := ⟨_, rfl⟩
  have HCC := Lib.hid hC
  rw [← hC] at HI HBU HO HZ ⊢
  clear hC
  subst hz1
  simp only [Int.cast_ofNat_Int] at HC0
  clear hcz
  have HBK0 := Lib.hid (built_qk 1)
  have HIE := Lib.hid (sizeRq (recC ⟨1, [], [], zs32, 0⟩) (recC_size dOk_zs))
  have HOE := Lib.hid (recC_one ⟨1, [], [], zs32, 0⟩)
  have HZE := Lib.hid (recC_size (r := ⟨1, [], [], zs32, 0⟩) dOk_zs)
  obtain ⟨E, hE⟩ : ∃ E, E = recC ⟨1, [], [], zs32, 0⟩ := ⟨_, rfl⟩
  rw [← hE] at HBK0 HIE HOE HZE
  have HEE := Lib.hid hE
  clear hE
  clear h hA1 hr1 hbz k1 k2 k3 k4 k5 hA2 hr2 q1 q2 q3 q4 q5 hA3 hrest hL hLL hc3 HPL hK HYK hz
  go_enter Tryd.func15, Tryd.ntmps15
  go_upto_region 1 with (fail)
  obtain ⟨g, hg⟩ : ∃ g, g = w.heap.size := ⟨_, rfl⟩
  refine gen_codeR (F := Bq w g 24 C) (by rw [hg, HCC.out]; exact Bq.new _ _ _) ?_
  rw [← hg]
  intro w0 hb0
  have H0 := Lib.hid hb0
  clear hg hb0
  have c0 := HC0.out w0 H0.out.2.1
  have HNB := Lib.hid (show RW (w0.alloc (.cells C 24 (0, 0))) w0.heap.size 24 C from RW.new _ _ _)
  rw [HCC.out] at HNB
  go_upto_region 4 with (first | (refine wpList_buildR 24 _ (by rfl) (by rfl) E (by simp only [List.map_toArray, List.map_cons, List.map_nil]; exact HBK0.out) ?_) | (refine wpList_store_row (by rfl) 24 _ _ (by rfl) w0.heap.size E (by rfl) (by rfl) 24 (recC rc0) (by exact HNB.out) HIE.out (by rw [recC_size rc0_ok, HZE.out]) HOE.out ?_))
  obtain ⟨j, hj⟩ : ∃ j, j = w0.heap.size := ⟨_, rfl⟩
  refine gen_codeR (F := D2 w g j 24 C (recC ⟨1, [], [], zs32, 0⟩)) (by rw [hj, ← HEE.out]; exact (D2.mk' (D := recC rc0) H0.out).row) ?_
  rw [← hj]
  intro w1 hd1
  have H1 := Lib.hid hd1
  clear hj hd1 H0 HNB c0 HC0 HBK0 HIE HOE HZE HEE
  have HTA := Lib.hid (HT1.out w1 H1.out.below)
  clear HT1
  go_wp2_with (refine wpList_runR (by rfl) (.slice A1 (len - 1) (cap - 1)) (by rw [HA1.out]; exact exec_cutS (a := some ⟨b, off, none⟩) (len := len) (cap := cap) (k := 1) (by omega) (by rfl) (by rfl) _ rfl _) ?_)
  refine HTA.out.mono ?_
  rintro e w2 ⟨v2, rfl, ho2, hb2⟩
  have H2 := Lib.hid (H1.out.step hb2)
  obtain ⟨aP, nP, cP, rfl, -, -, -, -, hrP, -⟩ := ho2.form HPB.out
  have HRP := Lib.hid hrP
  clear ho2 hb2 HTA H1 hrP HPB
  have HTB := Lib.hid (HTX.out w2 H2.out.below)
  clear HTX
  go_wp2_with (refine wpList_runR (by rfl) (.slice A2 (len - (1 + u)) (cap - (1 + u))) (by rw [HA2.out]; exact exec_cutU (a := some ⟨b, off, none⟩) (len := len) (cap := cap) (k := 1 + u) (t := 1 + (u : Int)) (by omega) rfl (by omega) (by rfl) (by rfl) _ rfl _) ?_)
  refine HTB.out.mono ?_
  rintro e w3 ⟨v3, rfl, ho3, hb3⟩
  have H3 := Lib.hid (H2.out.step hb3)
  have HBK := Lib.hid (show ∀ n c a, Own w3 w2.heap.size (.slice a n c) G → 0 < n → blkOf a ≠ some j from fun n c a ho h0 e => by
    have h1 := own_blk ho h0 j e
    have h2 := H2.out.b.lt
    omega)
  obtain ⟨aG, nG, cG, rfl, -, -, -, -, hrG, ho3⟩ := ho3.form HGB.out
  have HRG := Lib.hid hrG
  have HRP3 := Lib.hid (HRP.out.below hb3)
  have HBG := Lib.hid (HBK.out _ _ _ ho3)
  have d1 := H3.out.b.c1
  have f1 := H3.out.b.fz 1
  simp only at d1
  clear ho3 hb3 HTB H2 HRP HBK hrG HGB
  go_upto_region 11 with (refine wpList_runR (by rfl) (.string (T (uB P))) (exec_strS HRP3.out (by rfl) _ rfl) ?_)
  refine gen_codeR (F := fun W => D2 w g j 24 C (recC ⟨1, uB P, [], zs32, 0⟩) W ∧ Rd W aG nG G) (by
    have h := H3.out.cell 1 (.string (T (uB P)))
    rw [recC_one1] at h
    exact ⟨h, (Only.ofCell j 1 _).rd' HRG.out HBG.out⟩) ?_
  rintro w4 ⟨hd4, hg4⟩
  have H4 := Lib.hid hd4
  have HG4 := Lib.hid hg4
  have d2 := H4.out.b.c2
  have f2 := H4.out.b.fz 2
  simp only at d2
  clear hd4 hg4 H3 HRP3 HRG HBG d1 f1
  go_upto_region 12 with (refine wpList_runR (by rfl) (.string (T (uB G))) (exec_strS HG4.out (by rfl) _ rfl) ?_)
  refine gen_codeR (F := D2 w g j 24 C (recC ⟨1, uB P, uB G, zs32, 0⟩)) (by
    have h := H4.out.cell 2 (.string (T (uB G)))
    rw [recC_two2] at h
    exact h) ?_
  intro w5 hd5
  have H5 := Lib.hid hd5
  clear hd5 H4 HG4 d2 f2
  go_wp2_with (refine wpList_runR (by rfl) (.slice A3 L c3) (by rw [HA3.out, HLE.out, HC3.out]; exact exec_cutU (a := some ⟨b, off, none⟩) (len := len) (cap := cap) (k := 1 + u + v) (t := 1 + (u : Int) + (v : Int)) (by omega) rfl (by omega) (by rfl) (by rfl) _ rfl _) ?_)
  go_loopw [12] (fun i wr => ∃ n : Nat, n ≤ K ∧ i = .int .i64 n ∧ Hid (D2 w g j 24 C (recC ⟨1, uB P, uB G, yk rest n, 0⟩) wr)) (fun i _ => 32 - (intOf i).toNat)
  case atStart => exact ⟨0, by omega, rfl, H5⟩
  case round =>
    clear H5
    obtain ⟨n, hn, rfl, HP⟩ := hrel
    have c0 := HP.out.b.c0
    simp only at c0
    by_cases hnk : n < K
    · obtain ⟨b3, o3, hA3s⟩ : ∃ b3 o3, A3 = some ⟨b3, o3, none⟩ := by
        rcases (HR3.out wr HP.out.below).2.2 with h0 | ⟨b', o', e, _⟩
        · omega
        · exact ⟨b', o', e⟩
      subst hA3s
      have hcl : wr.cell? ⟨b3, o3 + n, none⟩ = some (.int .u8 ((rest.getD n 0 : Nat) : Int)) := by
        rcases (HR3.out wr HP.out.below).2.2 with h0 | ⟨b', off', e, _, hc⟩
        · omega
        · cases e
          exact hc n (by omega)
      have hyl : (yk rest n).length = 32 := yk_len rest n (by omega) (by rw [HLN.out]; omega)
      have hdt : wr.cell? ⟨j, 3 + n, none⟩ = some (.int .u8 (((yk rest n).getD n 0 : Nat) : Int)) := HP.out.b.digAt n _ (by
        show (cellsOf (yk rest n))[n]? = _
        rw [cellsOf_get _ _ (by omega), getD_at _ _ (by omega)])
      have hfz := HP.out.b.fz (3 + n)
      have HS := Lib.hid (show D2 w g j 24 C (recC ⟨1, uB P, uB G, yk rest (n + 1), 0⟩) (wr.setCell ⟨j, 3 + n, none⟩ (.int .u8 ((rest.getD n 0 : Nat) : Int))) from by
        have h := HP.out.cell (3 + n) (.int .u8 ((rest.getD n 0 : Nat) : Int))
        rw [recC_at _ _ _ _ _ _ _ (by omega), yk_step rest n (by omega) (by rw [HLN.out]; omega)] at h
        exact h)
      obtain ⟨y1, hy1⟩ : ∃ y, y = rest.getD n 0 := ⟨_, rfl⟩
      obtain ⟨y2, hy2⟩ : ∃ y, y = (yk rest n).getD n 0 := ⟨_, rfl⟩
      rw [← hy1] at hcl HS
      rw [← hy2] at hdt
      have hn32 : n < 32 := by omega
      have hnL : n < L := by omega
      clear hy1 hy2 hyl
      go_wp2_with fail
      go_roundw
      case rel => exact ⟨n + 1, by omega, by go_num, HS⟩
      case measure => simp [intOf]; omega
    · obtain rfl : n = K := by omega
      have HQ := Lib.hid HP.out
      clear HP hn hnk
      by_cases hx32 : n = 32
      · exfalso
        omega
      · have hy32 : n < 32 := by omega
        have hyL : ¬ n < L := by have := HK3.out; omega
        clear hx32
        have hl8 : (L : Int) < 8 := by omega
        go_wp2_with (first | (refine wpList_buildR 24 _ (by rfl) (by rfl) C (by simp only [List.map_toArray, List.map_cons, List.map_nil]; exact HBU.out) ?_) | (refine wpList_store_row (by rfl) 24 _ _ (by rfl) g C (by rfl) (by rfl) 24 C HQ.out.a HI.out rfl HO.out ?_))
        exact bodyPost_ret (results_row_tmpR rfl _ _ g 24 C (0, 0) _ (by rfl) HQ.out.a.setRow Tryd.underlying24 HI.out) rfl ⟨rfl, HQ.out.res.2.1⟩
set_option maxRecDepth 100000 in
set_option maxHeartbeats 8000000 in
theorem rdec1_c2 (a : Option Addr) (len cap : Nat) (zs : List Nat) (w : World) (h : Rd w a len zs) (h0 : 0 < len) (hcap : len ≤ cap) (hm : len ≤ 140737488355328) (hm0 : cap ≤ 9223372036854775807) (P : List Nat) (u : Nat) (hr1 : rt (zs.drop 1) 128 = (P, u, 0)) (G : List Nat) (v : Nat) (hr2 : rt (zs.drop (1 + u)) 128 = (G, v, 0)) (hz1 : zs.getD 0 0 = 1) (hl : 8 ≤ (zs.drop (1 + u + v)).length) (hx : 1099511627776 < (Numm.num 0 ((zs.drop (1 + u + v)).drop ((zs.drop (1 + u + v)).length - 8)))) :
    Calls Tryd.prog 15 #[.slice a len cap] w (fun e w' => e = .returned (.tuple #[.agg (recC rc0), .int .i64 10]) ∧ Below w.heap.size w w') := by
  obtain ⟨b, off, rfl⟩ : ∃ b off, a = some ⟨b, off, none⟩ := by
    rcases h.2.2 with h0 | ⟨b, off, e, _⟩
    · omega
    · exact ⟨b, off, e⟩
  have HR := Lib.hid h
  have hzl := h.1
  have hbz := h.2.1
  obtain ⟨z, hz⟩ : ∃ z, z = zs.getD 0 0 := ⟨_, rfl⟩
  have hzlt : z < 256 := by
    rw [hz]
    match zs, hzl, h.2.1 with
    | y :: l, _, hb => exact hb y (by simp)
    | [], hzl, _ => simp at hzl; omega
  have hcz : wrap64 (z : Int) = (z : Int) := IntWalk.wrap64_in _ (by omega)
  have HC0 := Lib.hid (show ∀ W, Below w.heap.size w W → W.cell? ⟨b, off, none⟩ = some (.int .u8 (z : Int)) from fun W hW => by
    rcases (h.below hW).2.2 with h0 | ⟨b', off', e, _, hc⟩
    · omega
    · cases e
      have c0 := hc 0 (by omega)
      rw [← hz, Nat.add_zero] at c0
      exact c0)
  have hi1 : ¬ (len : Int) < 1 := by omega
  obtain ⟨A1, hA1⟩ : ∃ A, A = sla (some ⟨b, off, none⟩) cap 1 := ⟨_, rfl⟩
  have HA1 := Lib.hid hA1
  have HT1 := Lib.hid fun W (hW : Below w.heap.size w W) => show Calls Tryd.prog 36 #[.slice A1 (len - 1) (cap - 1), .int .i64 128] W (RtRet W.heap.size W (rt (zs.drop 1) 128)) from by
    rw [hA1]
    exact refReadText_c _ (len - 1) (cap - 1) (zs.drop 1) 128 W ((h.below hW).cut cap 1 (by omega) hcap) (by omega) (by omega) (by omega) (by omega) (by omega)
  rw [hr1] at HT1
  obtain ⟨k1, k2, k3, k4, k5⟩ := rt_spec (fun x hx => hbz x (List.mem_of_mem_drop hx)) hr1
  rw [List.length_drop] at k3
  have HPB := Lib.hid k5
  obtain ⟨A2, hA2⟩ : ∃ A, A = sla (some ⟨b, off, none⟩) cap (1 + u) := ⟨_, rfl⟩
  have HA2 := Lib.hid hA2
  have hul : u ≤ len - 1 := by omega
  have HTX := Lib.hid fun W (hW : Below w.heap.size w W) => show Calls Tryd.prog 36 #[.slice A2 (len - (1 + u)) (cap - (1 + u)), .int .i64 128] W (RtRet W.heap.size W (rt (zs.drop (1 + u)) 128)) from by
    rw [hA2]
    exact refReadText_c _ (len - (1 + u)) (cap - (1 + u)) (zs.drop (1 + u)) 128 W ((h.below hW).cut cap (1 + u) (by omega) hcap) (by omega) (by omega) (by omega) (by omega) (by omega)
  rw [hr2] at HTX
  obtain ⟨q1, q2, q3, q4, q5⟩ := rt_spec (fun x hx => hbz x (List.mem_of_mem_drop hx)) hr2
  rw [List.length_drop] at q3
  have HGB := Lib.hid q5
  have hvl : u + v ≤ len - 1 := by omega
  rw [← hz] at hz1
  obtain ⟨A3, hA3⟩ : ∃ A, A = sla (some ⟨b, off, none⟩) cap (1 + u + v) := ⟨_, rfl⟩
  have HA3 := Lib.hid hA3
  have HR3 := Lib.hid fun W (hW : Below w.heap.size w W) => show Rd W A3 (len - (1 + u + v)) (zs.drop (1 + u + v)) from by rw [hA3]; exact (h.below hW).cut cap (1 + u + v) (by omega) hcap
  obtain ⟨rest, hrest⟩ : ∃ r, r = (zs.drop (1 + u + v)) := ⟨_, rfl⟩
  have HRE := Lib.hid hrest
  have HLN := Lib.hid (show rest.length = len - (1 + u + v) from by rw [hrest, List.length_drop]; omega)
  have HRBY := Lib.hid (show ∀ y ∈ rest, y < 256 from fun y hy => by rw [hrest] at hy; exact hbz y (List.mem_of_mem_drop hy))
  rw [← hrest] at HR3 hl hx
  obtain ⟨L, hL⟩ : ∃ L, L = len - (1 + u + v) := ⟨_, rfl⟩
  have hLL : rest.length = L := by rw [HLN.out, hL]
  have HLE := Lib.hid hL
  rw [← hL] at HR3 HLN
  rw [hLL] at hl hx
  obtain ⟨c3, hc3⟩ : ∃ c, c = cap - (1 + u + v) := ⟨_, rfl⟩
  have HC3 := Lib.hid hc3
  have hlc3 : L ≤ c3 := by omega
  have hL47 : L ≤ 140737488355328 := by omega
  obtain ⟨A4, hA4⟩ : ∃ A, A = sla A3 c3 (L - 8) := ⟨_, rfl⟩
  have HA4 := Lib.hid hA4
  obtain ⟨m, hm2⟩ : ∃ m, m = Numm.num 0 (rest.drop (L - 8)) := ⟨_, rfl⟩
  have HM2 := Lib.hid hm2
  have HGT := Lib.hid fun W (hW : Below w.heap.size w W) => show Calls Tryd.prog 37 #[.slice A4 8 (c3 - (L - 8))] W _ from by
    have hc := (HR3.out W hW).cut c3 (L - 8) (by omega) hlc3
    rw [show L - (L - 8) = 8 by omega] at hc
    rw [hA4]
    exact refGet_c _ 8 (c3 - (L - 8)) (rest.drop (L - 8)) W hc (by omega)
  rw [← hm2] at HGT hx
  obtain ⟨K, hK⟩ : ∃ K, K = min 32 rest.length := ⟨_, rfl⟩
  have HYK := Lib.hid (yk_min rest K hK)
  rw [hLL] at hK
  have hK1 : K ≤ 32 := by omega
  have hK2 : K ≤ L := by omega
  have HK3 := Lib.hid (show K = 32 ∨ K = L by omega)
  have HDG := Lib.hid (yk_ok HRBY.out hK1 (by rw [hLL]; exact hK2))
  have HPL := Lib.hid (show preL ⟨(z : Nat), uB P, uB G, zs32, 0⟩ rest = ⟨1, uB P, uB G, yk rest K, m⟩ from by
    unfold preL
    simp only
    rw [if_pos (by omega), ← HYK.out, hLL, hm2, hz1]; rfl)
  have HI := Lib.hid (sizeRq (recC rc0) (recC_size rc0_ok))
  have HBU := Lib.hid built_q0
  have HO := Lib.hid (recC_one rc0)
  have HZ := Lib.hid (recC_size rc0_ok)
  obtain ⟨C, hC⟩ : ∃ C, C = recC rc0 := ⟨_, rfl⟩
  have HCC := Lib.hid hC
  rw [← hC] at HI HBU HO HZ ⊢
  clear hC
  subst hz1
  simp only [Int.cast_ofNat_Int] at HC0
  clear hcz
  have HBK0 := Lib.hid (built_qk 1)
  have HIE := Lib.hid (sizeRq (recC ⟨1, [], [], zs32, 0⟩) (recC_size dOk_zs))
  have HOE := Lib.hid (recC_one ⟨1, [], [], zs32, 0⟩)
  have HZE := Lib.hid (recC_size (r := ⟨1, [], [], zs32, 0⟩) dOk_zs)
  obtain ⟨E, hE⟩ : ∃ E, E = recC ⟨1, [], [], zs32, 0⟩ := ⟨_, rfl⟩
  rw [← hE] at HBK0 HIE HOE HZE
  have HEE := Lib.hid hE
  clear hE
  clear h hA1 hr1 hbz k1 k2 k3 k4 k5 hA2 hr2 q1 q2 q3 q4 q5 hA3 hrest hL hLL hc3 HPL hA4 hm2 hK HYK hz
  go_enter Tryd.func15, Tryd.ntmps15
  go_upto_region 1 with (fail)
  obtain ⟨g, hg⟩ : ∃ g, g = w.heap.size := ⟨_, rfl⟩
  refine gen_codeR (F := Bq w g 24 C) (by rw [hg, HCC.out]; exact Bq.new _ _ _) ?_
  rw [← hg]
  intro w0 hb0
  have H0 := Lib.hid hb0
  clear hg hb0
  have c0 := HC0.out w0 H0.out.2.1
  have HNB := Lib.hid (show RW (w0.alloc (.cells C 24 (0, 0))) w0.heap.size 24 C from RW.new _ _ _)
  rw [HCC.out] at HNB
  go_upto_region 4 with (first | (refine wpList_buildR 24 _ (by rfl) (by rfl) E (by simp only [List.map_toArray, List.map_cons, List.map_nil]; exact HBK0.out) ?_) | (refine wpList_store_row (by rfl) 24 _ _ (by rfl) w0.heap.size E (by rfl) (by rfl) 24 (recC rc0) (by exact HNB.out) HIE.out (by rw [recC_size rc0_ok, HZE.out]) HOE.out ?_))
  obtain ⟨j, hj⟩ : ∃ j, j = w0.heap.size := ⟨_, rfl⟩
  refine gen_codeR (F := D2 w g j 24 C (recC ⟨1, [], [], zs32, 0⟩)) (by rw [hj, ← HEE.out]; exact (D2.mk' (D := recC rc0) H0.out).row) ?_
  rw [← hj]
  intro w1 hd1
  have H1 := Lib.hid hd1
  clear hj hd1 H0 HNB c0 HC0 HBK0 HIE HOE HZE HEE
  have HTA := Lib.hid (HT1.out w1 H1.out.below)
  clear HT1
  go_wp2_with (refine wpList_runR (by rfl) (.slice A1 (len - 1) (cap - 1)) (by rw [HA1.out]; exact exec_cutS (a := some ⟨b, off, none⟩) (len := len) (cap := cap) (k := 1) (by omega) (by rfl) (by rfl) _ rfl _) ?_)
  refine HTA.out.mono ?_
  rintro e w2 ⟨v2, rfl, ho2, hb2⟩
  have H2 := Lib.hid (H1.out.step hb2)
  obtain ⟨aP, nP, cP, rfl, -, -, -, -, hrP, -⟩ := ho2.form HPB.out
  have HRP := Lib.hid hrP
  clear ho2 hb2 HTA H1 hrP HPB
  have HTB := Lib.hid (HTX.out w2 H2.out.below)
  clear HTX
  go_wp2_with (refine wpList_runR (by rfl) (.slice A2 (len - (1 + u)) (cap - (1 + u))) (by rw [HA2.out]; exact exec_cutU (a := some ⟨b, off, none⟩) (len := len) (cap := cap) (k := 1 + u) (t := 1 + (u : Int)) (by omega) rfl (by omega) (by rfl) (by rfl) _ rfl _) ?_)
  refine HTB.out.mono ?_
  rintro e w3 ⟨v3, rfl, ho3, hb3⟩
  have H3 := Lib.hid (H2.out.step hb3)
  have HBK := Lib.hid (show ∀ n c a, Own w3 w2.heap.size (.slice a n c) G → 0 < n → blkOf a ≠ some j from fun n c a ho h0 e => by
    have h1 := own_blk ho h0 j e
    have h2 := H2.out.b.lt
    omega)
  obtain ⟨aG, nG, cG, rfl, -, -, -, -, hrG, ho3⟩ := ho3.form HGB.out
  have HRG := Lib.hid hrG
  have HRP3 := Lib.hid (HRP.out.below hb3)
  have HBG := Lib.hid (HBK.out _ _ _ ho3)
  have d1 := H3.out.b.c1
  have f1 := H3.out.b.fz 1
  simp only at d1
  clear ho3 hb3 HTB H2 HRP HBK hrG HGB
  go_upto_region 11 with (refine wpList_runR (by rfl) (.string (T (uB P))) (exec_strS HRP3.out (by rfl) _ rfl) ?_)
  refine gen_codeR (F := fun W => D2 w g j 24 C (recC ⟨1, uB P, [], zs32, 0⟩) W ∧ Rd W aG nG G) (by
    have h := H3.out.cell 1 (.string (T (uB P)))
    rw [recC_one1] at h
    exact ⟨h, (Only.ofCell j 1 _).rd' HRG.out HBG.out⟩) ?_
  rintro w4 ⟨hd4, hg4⟩
  have H4 := Lib.hid hd4
  have HG4 := Lib.hid hg4
  have d2 := H4.out.b.c2
  have f2 := H4.out.b.fz 2
  simp only at d2
  clear hd4 hg4 H3 HRP3 HRG HBG d1 f1
  go_upto_region 12 with (refine wpList_runR (by rfl) (.string (T (uB G))) (exec_strS HG4.out (by rfl) _ rfl) ?_)
  refine gen_codeR (F := D2 w g j 24 C (recC ⟨1, uB P, uB G, zs32, 0⟩)) (by
    have h := H4.out.cell 2 (.string (T (uB G)))
    rw [recC_two2] at h
    exact h) ?_
  intro w5 hd5
  have H5 := Lib.hid hd5
  clear hd5 H4 HG4 d2 f2
  go_wp2_with (refine wpList_runR (by rfl) (.slice A3 L c3) (by rw [HA3.out, HLE.out, HC3.out]; exact exec_cutU (a := some ⟨b, off, none⟩) (len := len) (cap := cap) (k := 1 + u + v) (t := 1 + (u : Int) + (v : Int)) (by omega) rfl (by omega) (by rfl) (by rfl) _ rfl _) ?_)
  go_loopw [12] (fun i wr => ∃ n : Nat, n ≤ K ∧ i = .int .i64 n ∧ Hid (D2 w g j 24 C (recC ⟨1, uB P, uB G, yk rest n, 0⟩) wr)) (fun i _ => 32 - (intOf i).toNat)
  case atStart => exact ⟨0, by omega, rfl, H5⟩
  case round =>
    clear H5
    obtain ⟨n, hn, rfl, HP⟩ := hrel
    have c0 := HP.out.b.c0
    simp only at c0
    by_cases hnk : n < K
    · obtain ⟨b3, o3, hA3s⟩ : ∃ b3 o3, A3 = some ⟨b3, o3, none⟩ := by
        rcases (HR3.out wr HP.out.below).2.2 with h0 | ⟨b', o', e, _⟩
        · omega
        · exact ⟨b', o', e⟩
      subst hA3s
      have hcl : wr.cell? ⟨b3, o3 + n, none⟩ = some (.int .u8 ((rest.getD n 0 : Nat) : Int)) := by
        rcases (HR3.out wr HP.out.below).2.2 with h0 | ⟨b', off', e, _, hc⟩
        · omega
        · cases e
          exact hc n (by omega)
      have hyl : (yk rest n).length = 32 := yk_len rest n (by omega) (by rw [HLN.out]; omega)
      have hdt : wr.cell? ⟨j, 3 + n, none⟩ = some (.int .u8 (((yk rest n).getD n 0 : Nat) : Int)) := HP.out.b.digAt n _ (by
        show (cellsOf (yk rest n))[n]? = _
        rw [cellsOf_get _ _ (by omega), getD_at _ _ (by omega)])
      have hfz := HP.out.b.fz (3 + n)
      have HS := Lib.hid (show D2 w g j 24 C (recC ⟨1, uB P, uB G, yk rest (n + 1), 0⟩) (wr.setCell ⟨j, 3 + n, none⟩ (.int .u8 ((rest.getD n 0 : Nat) : Int))) from by
        have h := HP.out.cell (3 + n) (.int .u8 ((rest.getD n 0 : Nat) : Int))
        rw [recC_at _ _ _ _ _ _ _ (by omega), yk_step rest n (by omega) (by rw [HLN.out]; omega)] at h
        exact h)
      obtain ⟨y1, hy1⟩ : ∃ y, y = rest.getD n 0 := ⟨_, rfl⟩
      obtain ⟨y2, hy2⟩ : ∃ y, y = (yk rest n).getD n 0 := ⟨_, rfl⟩
      rw [← hy1] at hcl HS
      rw [← hy2] at hdt
      have hn32 : n < 32 := by omega
      have hnL : n < L := by omega
      clear hy1 hy2 hyl
      go_wp2_with fail
      go_roundw
      case rel => exact ⟨n + 1, by omega, by go_num, HS⟩
      case measure => simp [intOf]; omega
    · obtain rfl : n = K := by omega
      have HQ := Lib.hid HP.out
      clear HP hn hnk
      by_cases hx32 : n = 32
      · have hy32 : ¬ n < 32 := by omega
        clear hx32
        have hl8 : ¬ (L : Int) < 8 := by omega
        have HGN := Lib.hid (HGT.out wr HQ.out.below)
        have hgt : (1099511627776 : Int) < (m : Int) := by omega
        go_wp2_with (first | (refine wpList_runR (by rfl) (.slice A4 8 (c3 - (L - 8))) (by rw [HA4.out]; exact exec_cutU (a := A3) (len := L) (cap := c3) (k := L - 8) (t := (L : Int) - 8) (by omega) (by omega) (by omega) (by rfl) (by rfl) _ rfl _) ?_) | (go_at_call 37; refine HGN.out.mono ?_; rintro e w6 ⟨rfl, rfl⟩) | (refine wpList_buildR 24 _ (by rfl) (by rfl) C (by simp only [List.map_toArray, List.map_cons, List.map_nil]; exact HBU.out) ?_) | (refine wpList_store_row (by rfl) 24 _ _ (by rfl) g C (by rfl) (by rfl) 24 C HQ.out.a HI.out rfl HO.out ?_))
        exact bodyPost_ret (results_row_tmpR rfl _ _ g 24 C (0, 0) _ (by rfl) HQ.out.a.setRow Tryd.underlying24 HI.out) rfl ⟨rfl, HQ.out.res.2.1⟩
      · have hy32 : n < 32 := by omega
        have hyL : ¬ n < L := by have := HK3.out; omega
        clear hx32
        have hl8 : ¬ (L : Int) < 8 := by omega
        have HGN := Lib.hid (HGT.out wr HQ.out.below)
        have hgt : (1099511627776 : Int) < (m : Int) := by omega
        go_wp2_with (first | (refine wpList_runR (by rfl) (.slice A4 8 (c3 - (L - 8))) (by rw [HA4.out]; exact exec_cutU (a := A3) (len := L) (cap := c3) (k := L - 8) (t := (L : Int) - 8) (by omega) (by omega) (by omega) (by rfl) (by rfl) _ rfl _) ?_) | (go_at_call 37; refine HGN.out.mono ?_; rintro e w6 ⟨rfl, rfl⟩) | (refine wpList_buildR 24 _ (by rfl) (by rfl) C (by simp only [List.map_toArray, List.map_cons, List.map_nil]; exact HBU.out) ?_) | (refine wpList_store_row (by rfl) 24 _ _ (by rfl) g C (by rfl) (by rfl) 24 C HQ.out.a HI.out rfl HO.out ?_))
        exact bodyPost_ret (results_row_tmpR rfl _ _ g 24 C (0, 0) _ (by rfl) HQ.out.a.setRow Tryd.underlying24 HI.out) rfl ⟨rfl, HQ.out.res.2.1⟩
set_option maxRecDepth 100000 in
set_option maxHeartbeats 8000000 in
theorem rdec1_c3 (a : Option Addr) (len cap : Nat) (zs : List Nat) (w : World) (h : Rd w a len zs) (h0 : 0 < len) (hcap : len ≤ cap) (hm : len ≤ 140737488355328) (hm0 : cap ≤ 9223372036854775807) (P : List Nat) (u : Nat) (hr1 : rt (zs.drop 1) 128 = (P, u, 0)) (G : List Nat) (v : Nat) (hr2 : rt (zs.drop (1 + u)) 128 = (G, v, 0)) (hz1 : zs.getD 0 0 = 1) (hl : 8 ≤ (zs.drop (1 + u + v)).length) (hx : (Numm.num 0 ((zs.drop (1 + u + v)).drop ((zs.drop (1 + u + v)).length - 8))) ≤ 1099511627776) (hr : rightB (preL ⟨(zs.getD 0 0 : Nat), uB P, uB G, zs32, 0⟩ (zs.drop (1 + u + v))) = false) :
    Calls Tryd.prog 15 #[.slice a len cap] w (fun e w' => e = .returned (.tuple #[.agg (recC rc0), .int .i64 10]) ∧ Below w.heap.size w w') := by
  obtain ⟨b, off, rfl⟩ : ∃ b off, a = some ⟨b, off, none⟩ := by
    rcases h.2.2 with h0 | ⟨b, off, e, _⟩
    · omega
    · exact ⟨b, off, e⟩
  have HR := Lib.hid h
  have hzl := h.1
  have hbz := h.2.1
  obtain ⟨z, hz⟩ : ∃ z, z = zs.getD 0 0 := ⟨_, rfl⟩
  have hzlt : z < 256 := by
    rw [hz]
    match zs, hzl, h.2.1 with
    | y :: l, _, hb => exact hb y (by simp)
    | [], hzl, _ => simp at hzl; omega
  have hcz : wrap64 (z : Int) = (z : Int) := IntWalk.wrap64_in _ (by omega)
  have HC0 := Lib.hid (show ∀ W, Below w.heap.size w W → W.cell? ⟨b, off, none⟩ = some (.int .u8 (z : Int)) from fun W hW => by
    rcases (h.below hW).2.2 with h0 | ⟨b', off', e, _, hc⟩
    · omega
    · cases e
      have c0 := hc 0 (by omega)
      rw [← hz, Nat.add_zero] at c0
      exact c0)
  have hi1 : ¬ (len : Int) < 1 := by omega
  obtain ⟨A1, hA1⟩ : ∃ A, A = sla (some ⟨b, off, none⟩) cap 1 := ⟨_, rfl⟩
  have HA1 := Lib.hid hA1
  have HT1 := Lib.hid fun W (hW : Below w.heap.size w W) => show Calls Tryd.prog 36 #[.slice A1 (len - 1) (cap - 1), .int .i64 128] W (RtRet W.heap.size W (rt (zs.drop 1) 128)) from by
    rw [hA1]
    exact refReadText_c _ (len - 1) (cap - 1) (zs.drop 1) 128 W ((h.below hW).cut cap 1 (by omega) hcap) (by omega) (by omega) (by omega) (by omega) (by omega)
  rw [hr1] at HT1
  obtain ⟨k1, k2, k3, k4, k5⟩ := rt_spec (fun x hx => hbz x (List.mem_of_mem_drop hx)) hr1
  rw [List.length_drop] at k3
  have HPB := Lib.hid k5
  obtain ⟨A2, hA2⟩ : ∃ A, A = sla (some ⟨b, off, none⟩) cap (1 + u) := ⟨_, rfl⟩
  have HA2 := Lib.hid hA2
  have hul : u ≤ len - 1 := by omega
  have HTX := Lib.hid fun W (hW : Below w.heap.size w W) => show Calls Tryd.prog 36 #[.slice A2 (len - (1 + u)) (cap - (1 + u)), .int .i64 128] W (RtRet W.heap.size W (rt (zs.drop (1 + u)) 128)) from by
    rw [hA2]
    exact refReadText_c _ (len - (1 + u)) (cap - (1 + u)) (zs.drop (1 + u)) 128 W ((h.below hW).cut cap (1 + u) (by omega) hcap) (by omega) (by omega) (by omega) (by omega) (by omega)
  rw [hr2] at HTX
  obtain ⟨q1, q2, q3, q4, q5⟩ := rt_spec (fun x hx => hbz x (List.mem_of_mem_drop hx)) hr2
  rw [List.length_drop] at q3
  have HGB := Lib.hid q5
  have hvl : u + v ≤ len - 1 := by omega
  rw [← hz] at hz1 hr
  obtain ⟨A3, hA3⟩ : ∃ A, A = sla (some ⟨b, off, none⟩) cap (1 + u + v) := ⟨_, rfl⟩
  have HA3 := Lib.hid hA3
  have HR3 := Lib.hid fun W (hW : Below w.heap.size w W) => show Rd W A3 (len - (1 + u + v)) (zs.drop (1 + u + v)) from by rw [hA3]; exact (h.below hW).cut cap (1 + u + v) (by omega) hcap
  obtain ⟨rest, hrest⟩ : ∃ r, r = (zs.drop (1 + u + v)) := ⟨_, rfl⟩
  have HRE := Lib.hid hrest
  have HLN := Lib.hid (show rest.length = len - (1 + u + v) from by rw [hrest, List.length_drop]; omega)
  have HRBY := Lib.hid (show ∀ y ∈ rest, y < 256 from fun y hy => by rw [hrest] at hy; exact hbz y (List.mem_of_mem_drop hy))
  rw [← hrest] at HR3 hl hx hr
  obtain ⟨L, hL⟩ : ∃ L, L = len - (1 + u + v) := ⟨_, rfl⟩
  have hLL : rest.length = L := by rw [HLN.out, hL]
  have HLE := Lib.hid hL
  rw [← hL] at HR3 HLN
  rw [hLL] at hl hx
  obtain ⟨c3, hc3⟩ : ∃ c, c = cap - (1 + u + v) := ⟨_, rfl⟩
  have HC3 := Lib.hid hc3
  have hlc3 : L ≤ c3 := by omega
  have hL47 : L ≤ 140737488355328 := by omega
  obtain ⟨A4, hA4⟩ : ∃ A, A = sla A3 c3 (L - 8) := ⟨_, rfl⟩
  have HA4 := Lib.hid hA4
  obtain ⟨m, hm2⟩ : ∃ m, m = Numm.num 0 (rest.drop (L - 8)) := ⟨_, rfl⟩
  have HM2 := Lib.hid hm2
  have HGT := Lib.hid fun W (hW : Below w.heap.size w W) => show Calls Tryd.prog 37 #[.slice A4 8 (c3 - (L - 8))] W _ from by
    have hc := (HR3.out W hW).cut c3 (L - 8) (by omega) hlc3
    rw [show L - (L - 8) = 8 by omega] at hc
    rw [hA4]
    exact refGet_c _ 8 (c3 - (L - 8)) (rest.drop (L - 8)) W hc (by omega)
  rw [← hm2] at HGT hx
  obtain ⟨K, hK⟩ : ∃ K, K = min 32 rest.length := ⟨_, rfl⟩
  have HYK := Lib.hid (yk_min rest K hK)
  rw [hLL] at hK
  have hK1 : K ≤ 32 := by omega
  have hK2 : K ≤ L := by omega
  have HK3 := Lib.hid (show K = 32 ∨ K = L by omega)
  have HDG := Lib.hid (yk_ok HRBY.out hK1 (by rw [hLL]; exact hK2))
  have HPL := Lib.hid (show preL ⟨(z : Nat), uB P, uB G, zs32, 0⟩ rest = ⟨1, uB P, uB G, yk rest K, m⟩ from by
    unfold preL
    simp only
    rw [if_pos (by omega), ← HYK.out, hLL, hm2, hz1]; rfl)
  rw [HPL.out] at hr
  have HEN := Lib.hid fun W => renc_c ⟨1, uB P, uB G, yk rest K, m⟩ HDG.out ⟨by simp only; rw [uB_len]; omega, by simp only; rw [uB_len]; omega⟩ W
  have HXB := Lib.hid (encX_byte ⟨1, uB P, uB G, yk rest K, m⟩ HDG.out)
  have HXL := Lib.hid (encX_len ⟨1, uB P, uB G, yk rest K, m⟩ HDG.out)
  have hex : encX ⟨1, uB P, uB G, yk rest K, m⟩ = ([], 1) := by unfold encX; rw [hr]; rfl
  rw [hex] at HEN HXB HXL
  unfold ER at HEN
  simp only at HEN HXB HXL
  clear hex hr
  have HI9 := Lib.hid (sizeRq (recC ⟨1, uB P, uB G, yk rest K, m⟩) (recC_size HDG.out))
  have HO9 := Lib.hid (recC_one ⟨1, uB P, uB G, yk rest K, m⟩)
  have HZ9 := Lib.hid (recC_size (r := ⟨1, uB P, uB G, yk rest K, m⟩) HDG.out)
  obtain ⟨D9, hD9⟩ : ∃ D, D = recC ⟨1, uB P, uB G, yk rest K, m⟩ := ⟨_, rfl⟩
  rw [← hD9] at HEN HI9 HO9 HZ9
  have HD9 := Lib.hid hD9
  clear hD9
  have HI := Lib.hid (sizeRq (recC rc0) (recC_size rc0_ok))
  have HBU := Lib.hid built_q0
  have HO := Lib.hid (recC_one rc0)
  have HZ := Lib.hid (recC_size rc0_ok)
  obtain ⟨C, hC⟩ : ∃ C, C = recC rc0 := ⟨_, rfl⟩
  have HCC := Lib.hid hC
  rw [← hC] at HI HBU HO HZ ⊢
  clear hC
  subst hz1
  simp only [Int.cast_ofNat_Int] at HC0
  clear hcz
  have HBK0 := Lib.hid (built_qk 1)
  have HIE := Lib.hid (sizeRq (recC ⟨1, [], [], zs32, 0⟩) (recC_size dOk_zs))
  have HOE := Lib.hid (recC_one ⟨1, [], [], zs32, 0⟩)
  have HZE := Lib.hid (recC_size (r := ⟨1, [], [], zs32, 0⟩) dOk_zs)
  obtain ⟨E, hE⟩ : ∃ E, E = recC ⟨1, [], [], zs32, 0⟩ := ⟨_, rfl⟩
  rw [← hE] at HBK0 HIE HOE HZE
  have HEE := Lib.hid hE
  clear hE
  clear h hA1 hr1 hbz k1 k2 k3 k4 k5 hA2 hr2 q1 q2 q3 q4 q5 hA3 hrest hL hLL hc3 HPL hA4 hm2 hK HYK hz
  go_enter Tryd.func15, Tryd.ntmps15
  go_upto_region 1 with (fail)
  obtain ⟨g, hg⟩ : ∃ g, g = w.heap.size := ⟨_, rfl⟩
  refine gen_codeR (F := Bq w g 24 C) (by rw [hg, HCC.out]; exact Bq.new _ _ _) ?_
  rw [← hg]
  intro w0 hb0
  have H0 := Lib.hid hb0
  clear hg hb0
  have c0 := HC0.out w0 H0.out.2.1
  have HNB := Lib.hid (show RW (w0.alloc (.cells C 24 (0, 0))) w0.heap.size 24 C from RW.new _ _ _)
  rw [HCC.out] at HNB
  go_upto_region 4 with (first | (refine wpList_buildR 24 _ (by rfl) (by rfl) E (by simp only [List.map_toArray, List.map_cons, List.map_nil]; exact HBK0.out) ?_) | (refine wpList_store_row (by rfl) 24 _ _ (by rfl) w0.heap.size E (by rfl) (by rfl) 24 (recC rc0) (by exact HNB.out) HIE.out (by rw [recC_size rc0_ok, HZE.out]) HOE.out ?_))
  obtain ⟨j, hj⟩ : ∃ j, j = w0.heap.size := ⟨_, rfl⟩
  refine gen_codeR (F := D2 w g j 24 C (recC ⟨1, [], [], zs32, 0⟩)) (by rw [hj, ← HEE.out]; exact (D2.mk' (D := recC rc0) H0.out).row) ?_
  rw [← hj]
  intro w1 hd1
  have H1 := Lib.hid hd1
  clear hj hd1 H0 HNB c0 HC0 HBK0 HIE HOE HZE HEE
  have HTA := Lib.hid (HT1.out w1 H1.out.below)
  clear HT1
  go_wp2_with (refine wpList_runR (by rfl) (.slice A1 (len - 1) (cap - 1)) (by rw [HA1.out]; exact exec_cutS (a := some ⟨b, off, none⟩) (len := len) (cap := cap) (k := 1) (by omega) (by rfl) (by rfl) _ rfl _) ?_)
  refine HTA.out.mono ?_
  rintro e w2 ⟨v2, rfl, ho2, hb2⟩
  have H2 := Lib.hid (H1.out.step hb2)
  obtain ⟨aP, nP, cP, rfl, -, -, -, -, hrP, -⟩ := ho2.form HPB.out
  have HRP := Lib.hid hrP
  clear ho2 hb2 HTA H1 hrP HPB
  have HTB := Lib.hid (HTX.out w2 H2.out.below)
  clear HTX
  go_wp2_with (refine wpList_runR (by rfl) (.slice A2 (len - (1 + u)) (cap - (1 + u))) (by rw [HA2.out]; exact exec_cutU (a := some ⟨b, off, none⟩) (len := len) (cap := cap) (k := 1 + u) (t := 1 + (u : Int)) (by omega) rfl (by omega) (by rfl) (by rfl) _ rfl _) ?_)
  refine HTB.out.mono ?_
  rintro e w3 ⟨v3, rfl, ho3, hb3⟩
  have H3 := Lib.hid (H2.out.step hb3)
  have HBK := Lib.hid (show ∀ n c a, Own w3 w2.heap.size (.slice a n c) G → 0 < n → blkOf a ≠ some j from fun n c a ho h0 e => by
    have h1 := own_blk ho h0 j e
    have h2 := H2.out.b.lt
    omega)
  obtain ⟨aG, nG, cG, rfl, -, -, -, -, hrG, ho3⟩ := ho3.form HGB.out
  have HRG := Lib.hid hrG
  have HRP3 := Lib.hid (HRP.out.below hb3)
  have HBG := Lib.hid (HBK.out _ _ _ ho3)
  have d1 := H3.out.b.c1
  have f1 := H3.out.b.fz 1
  simp only at d1
  clear ho3 hb3 HTB H2 HRP HBK hrG HGB
  go_upto_region 11 with (refine wpList_runR (by rfl) (.string (T (uB P))) (exec_strS HRP3.out (by rfl) _ rfl) ?_)
  refine gen_codeR (F := fun W => D2 w g j 24 C (recC ⟨1, uB P, [], zs32, 0⟩) W ∧ Rd W aG nG G) (by
    have h := H3.out.cell 1 (.string (T (uB P)))
    rw [recC_one1] at h
    exact ⟨h, (Only.ofCell j 1 _).rd' HRG.out HBG.out⟩) ?_
  rintro w4 ⟨hd4, hg4⟩
  have H4 := Lib.hid hd4
  have HG4 := Lib.hid hg4
  have d2 := H4.out.b.c2
  have f2 := H4.out.b.fz 2
  simp only at d2
  clear hd4 hg4 H3 HRP3 HRG HBG d1 f1
  go_upto_region 12 with (refine wpList_runR (by rfl) (.string (T (uB G))) (exec_strS HG4.out (by rfl) _ rfl) ?_)
  refine gen_codeR (F := D2 w g j 24 C (recC ⟨1, uB P, uB G, zs32, 0⟩)) (by
    have h := H4.out.cell 2 (.string (T (uB G)))
    rw [recC_two2] at h
    exact h) ?_
  intro w5 hd5
  have H5 := Lib.hid hd5
  clear hd5 H4 HG4 d2 f2
  go_wp2_with (refine wpList_runR (by rfl) (.slice A3 L c3) (by rw [HA3.out, HLE.out, HC3.out]; exact exec_cutU (a := some ⟨b, off, none⟩) (len := len) (cap := cap) (k := 1 + u + v) (t := 1 + (u : Int) + (v : Int)) (by omega) rfl (by omega) (by rfl) (by rfl) _ rfl _) ?_)
  go_loopw [12] (fun i wr => ∃ n : Nat, n ≤ K ∧ i = .int .i64 n ∧ Hid (D2 w g j 24 C (recC ⟨1, uB P, uB G, yk rest n, 0⟩) wr)) (fun i _ => 32 - (intOf i).toNat)
  case atStart => exact ⟨0, by omega, rfl, H5⟩
  case round =>
    clear H5
    obtain ⟨n, hn, rfl, HP⟩ := hrel
    have c0 := HP.out.b.c0
    simp only at c0
    by_cases hnk : n < K
    · obtain ⟨b3, o3, hA3s⟩ : ∃ b3 o3, A3 = some ⟨b3, o3, none⟩ := by
        rcases (HR3.out wr HP.out.below).2.2 with h0 | ⟨b', o', e, _⟩
        · omega
        · exact ⟨b', o', e⟩
      subst hA3s
      have hcl : wr.cell? ⟨b3, o3 + n, none⟩ = some (.int .u8 ((rest.getD n 0 : Nat) : Int)) := by
        rcases (HR3.out wr HP.out.below).2.2 with h0 | ⟨b', off', e, _, hc⟩
        · omega
        · cases e
          exact hc n (by omega)
      have hyl : (yk rest n).length = 32 := yk_len rest n (by omega) (by rw [HLN.out]; omega)
      have hdt : wr.cell? ⟨j, 3 + n, none⟩ = some (.int .u8 (((yk rest n).getD n 0 : Nat) : Int)) := HP.out.b.digAt n _ (by
        show (cellsOf (yk rest n))[n]? = _
        rw [cellsOf_get _ _ (by omega), getD_at _ _ (by omega)])
      have hfz := HP.out.b.fz (3 + n)
      have HS := Lib.hid (show D2 w g j 24 C (recC ⟨1, uB P, uB G, yk rest (n + 1), 0⟩) (wr.setCell ⟨j, 3 + n, none⟩ (.int .u8 ((rest.getD n 0 : Nat) : Int))) from by
        have h := HP.out.cell (3 + n) (.int .u8 ((rest.getD n 0 : Nat) : Int))
        rw [recC_at _ _ _ _ _ _ _ (by omega), yk_step rest n (by omega) (by rw [HLN.out]; omega)] at h
        exact h)
      obtain ⟨y1, hy1⟩ : ∃ y, y = rest.getD n 0 := ⟨_, rfl⟩
      obtain ⟨y2, hy2⟩ : ∃ y, y = (yk rest n).getD n 0 := ⟨_, rfl⟩
      rw [← hy1] at hcl HS
      rw [← hy2] at hdt
      have hn32 : n < 32 := by omega
      have hnL : n < L := by omega
      clear hy1 hy2 hyl
      go_wp2_with fail
      go_roundw
      case rel => exact ⟨n + 1, by omega, by go_num, HS⟩
      case measure => simp [intOf]; omega
    · obtain rfl : n = K := by omega
      have HQ := Lib.hid HP.out
      clear HP hn hnk
      by_cases hx32 : n = 32
      · have hy32 : ¬ n < 32 := by omega
        clear hx32
        have hl8 : ¬ (L : Int) < 8 := by omega
        have HGN := Lib.hid (HGT.out wr HQ.out.below)
        have hgt : ¬ (1099511627776 : Int) < (m : Int) := by omega
        have HCM := Lib.hid (show m ≤ 9223372036854775807 by omega)
        have c35 := HQ.out.b.c35 HDG.out
        have f35 := HQ.out.b.fz 35
        simp only at c35
        have H7 := Lib.hid (show D2 w g j 24 C D9 (wr.setCell ⟨j, 35, none⟩ (.int .i64 (m : Int))) from by
          have h := HQ.out.cell 35 (.int .i64 (m : Int))
          rw [recC_time _ _ _ _ _ _ HDG.out.1, ← HD9.out] at h
          exact h)
        go_wp2_with (first | (refine wpList_runR (by rfl) (.slice A4 8 (c3 - (L - 8))) (by rw [HA4.out]; exact exec_cutU (a := A3) (len := L) (cap := c3) (k := L - 8) (t := (L : Int) - 8) (by omega) (by omega) (by omega) (by rfl) (by rfl) _ rfl _) ?_) | (go_at_call 37; refine HGN.out.mono ?_; rintro e w6 ⟨rfl, rfl⟩) | (refine wpList_runR (by rfl) (.int .i64 (m : Int)) (exec_cvR (m := m) HCM.out (by rfl) _ rfl _) ?_) | (refine wpList_runR (by rfl) (.agg D9) (exec_ldRow H7.out.b Tryd.underlying24 HI9.out (by rfl) _ rfl) ?_))
        refine (HEN.out _).mono ?_
        rintro e w8 ⟨v8, rfl, ho8, hb8⟩
        have H8 := Lib.hid (H7.out.step hb8)
        clear ho8 hb8 H7 HEN HQ HGN c35 f35 c0
        go_wp2_with (first | (refine wpList_buildR 24 _ (by rfl) (by rfl) C (by simp only [List.map_toArray, List.map_cons, List.map_nil]; exact HBU.out) ?_) | (refine wpList_store_row (by rfl) 24 _ _ (by rfl) g C (by rfl) (by rfl) 24 C H8.out.a HI.out rfl HO.out ?_))
        exact bodyPost_ret (results_row_tmpR rfl _ _ g 24 C (0, 0) _ (by rfl) H8.out.a.setRow Tryd.underlying24 HI.out) rfl ⟨rfl, H8.out.res.2.1⟩
      · have hy32 : n < 32 := by omega
        have hyL : ¬ n < L := by have := HK3.out; omega
        clear hx32
        have hl8 : ¬ (L : Int) < 8 := by omega
        have HGN := Lib.hid (HGT.out wr HQ.out.below)
        have hgt : ¬ (1099511627776 : Int) < (m : Int) := by omega
        have HCM := Lib.hid (show m ≤ 9223372036854775807 by omega)
        have c35 := HQ.out.b.c35 HDG.out
        have f35 := HQ.out.b.fz 35
        simp only at c35
        have H7 := Lib.hid (show D2 w g j 24 C D9 (wr.setCell ⟨j, 35, none⟩ (.int .i64 (m : Int))) from by
          have h := HQ.out.cell 35 (.int .i64 (m : Int))
          rw [recC_time _ _ _ _ _ _ HDG.out.1, ← HD9.out] at h
          exact h)
        go_wp2_with (first | (refine wpList_runR (by rfl) (.slice A4 8 (c3 - (L - 8))) (by rw [HA4.out]; exact exec_cutU (a := A3) (len := L) (cap := c3) (k := L - 8) (t := (L : Int) - 8) (by omega) (by omega) (by omega) (by rfl) (by rfl) _ rfl _) ?_) | (go_at_call 37; refine HGN.out.mono ?_; rintro e w6 ⟨rfl, rfl⟩) | (refine wpList_runR (by rfl) (.int .i64 (m : Int)) (exec_cvR (m := m) HCM.out (by rfl) _ rfl _) ?_) | (refine wpList_runR (by rfl) (.agg D9) (exec_ldRow H7.out.b Tryd.underlying24 HI9.out (by rfl) _ rfl) ?_))
        refine (HEN.out _).mono ?_
        rintro e w8 ⟨v8, rfl, ho8, hb8⟩
        have H8 := Lib.hid (H7.out.step hb8)
        clear ho8 hb8 H7 HEN HQ HGN c35 f35 c0
        go_wp2_with (first | (refine wpList_buildR 24 _ (by rfl) (by rfl) C (by simp only [List.map_toArray, List.map_cons, List.map_nil]; exact HBU.out) ?_) | (refine wpList_store_row (by rfl) 24 _ _ (by rfl) g C (by rfl) (by rfl) 24 C H8.out.a HI.out rfl HO.out ?_))
        exact bodyPost_ret (results_row_tmpR rfl _ _ g 24 C (0, 0) _ (by rfl) H8.out.a.setRow Tryd.underlying24 HI.out) rfl ⟨rfl, H8.out.res.2.1⟩
set_option maxRecDepth 100000 in
set_option maxHeartbeats 8000000 in
theorem rdec1_c4 (a : Option Addr) (len cap : Nat) (zs : List Nat) (w : World) (h : Rd w a len zs) (h0 : 0 < len) (hcap : len ≤ cap) (hm : len ≤ 140737488355328) (hm0 : cap ≤ 9223372036854775807) (P : List Nat) (u : Nat) (hr1 : rt (zs.drop 1) 128 = (P, u, 0)) (G : List Nat) (v : Nat) (hr2 : rt (zs.drop (1 + u)) 128 = (G, v, 0)) (hz1 : zs.getD 0 0 = 1) (hl : 8 ≤ (zs.drop (1 + u + v)).length) (hx : (Numm.num 0 ((zs.drop (1 + u + v)).drop ((zs.drop (1 + u + v)).length - 8))) ≤ 1099511627776) (hr : rightB (preL ⟨(zs.getD 0 0 : Nat), uB P, uB G, zs32, 0⟩ (zs.drop (1 + u + v))) = true) (hq : encL (preL ⟨(zs.getD 0 0 : Nat), uB P, uB G, zs32, 0⟩ (zs.drop (1 + u + v))) ≠ zs) :
    Calls Tryd.prog 15 #[.slice a len cap] w (fun e w' => e = .returned (.tuple #[.agg (recC rc0), .int .i64 10]) ∧ Below w.heap.size w w') := by
  obtain ⟨b, off, rfl⟩ : ∃ b off, a = some ⟨b, off, none⟩ := by
    rcases h.2.2 with h0 | ⟨b, off, e, _⟩
    · omega
    · exact ⟨b, off, e⟩
  have HR := Lib.hid h
  have hzl := h.1
  have hbz := h.2.1
  obtain ⟨z, hz⟩ : ∃ z, z = zs.getD 0 0 := ⟨_, rfl⟩
  have hzlt : z < 256 := by
    rw [hz]
    match zs, hzl, h.2.1 with
    | y :: l, _, hb => exact hb y (by simp)
    | [], hzl, _ => simp at hzl; omega
  have hcz : wrap64 (z : Int) = (z : Int) := IntWalk.wrap64_in _ (by omega)
  have HC0 := Lib.hid (show ∀ W, Below w.heap.size w W → W.cell? ⟨b, off, none⟩ = some (.int .u8 (z : Int)) from fun W hW => by
    rcases (h.below hW).2.2 with h0 | ⟨b', off', e, _, hc⟩
    · omega
    · cases e
      have c0 := hc 0 (by omega)
      rw [← hz, Nat.add_zero] at c0
      exact c0)
  have hi1 : ¬ (len : Int) < 1 := by omega
  obtain ⟨A1, hA1⟩ : ∃ A, A = sla (some ⟨b, off, none⟩) cap 1 := ⟨_, rfl⟩
  have HA1 := Lib.hid hA1
  have HT1 := Lib.hid fun W (hW : Below w.heap.size w W) => show Calls Tryd.prog 36 #[.slice A1 (len - 1) (cap - 1), .int .i64 128] W (RtRet W.heap.size W (rt (zs.drop 1) 128)) from by
    rw [hA1]
    exact refReadText_c _ (len - 1) (cap - 1) (zs.drop 1) 128 W ((h.below hW).cut cap 1 (by omega) hcap) (by omega) (by omega) (by omega) (by omega) (by omega)
  rw [hr1] at HT1
  obtain ⟨k1, k2, k3, k4, k5⟩ := rt_spec (fun x hx => hbz x (List.mem_of_mem_drop hx)) hr1
  rw [List.length_drop] at k3
  have HPB := Lib.hid k5
  obtain ⟨A2, hA2⟩ : ∃ A, A = sla (some ⟨b, off, none⟩) cap (1 + u) := ⟨_, rfl⟩
  have HA2 := Lib.hid hA2
  have hul : u ≤ len - 1 := by omega
  have HTX := Lib.hid fun W (hW : Below w.heap.size w W) => show Calls Tryd.prog 36 #[.slice A2 (len - (1 + u)) (cap - (1 + u)), .int .i64 128] W (RtRet W.heap.size W (rt (zs.drop (1 + u)) 128)) from by
    rw [hA2]
    exact refReadText_c _ (len - (1 + u)) (cap - (1 + u)) (zs.drop (1 + u)) 128 W ((h.below hW).cut cap (1 + u) (by omega) hcap) (by omega) (by omega) (by omega) (by omega) (by omega)
  rw [hr2] at HTX
  obtain ⟨q1, q2, q3, q4, q5⟩ := rt_spec (fun x hx => hbz x (List.mem_of_mem_drop hx)) hr2
  rw [List.length_drop] at q3
  have HGB := Lib.hid q5
  have hvl : u + v ≤ len - 1 := by omega
  rw [← hz] at hz1 hr hq
  obtain ⟨A3, hA3⟩ : ∃ A, A = sla (some ⟨b, off, none⟩) cap (1 + u + v) := ⟨_, rfl⟩
  have HA3 := Lib.hid hA3
  have HR3 := Lib.hid fun W (hW : Below w.heap.size w W) => show Rd W A3 (len - (1 + u + v)) (zs.drop (1 + u + v)) from by rw [hA3]; exact (h.below hW).cut cap (1 + u + v) (by omega) hcap
  obtain ⟨rest, hrest⟩ : ∃ r, r = (zs.drop (1 + u + v)) := ⟨_, rfl⟩
  have HRE := Lib.hid hrest
  have HLN := Lib.hid (show rest.length = len - (1 + u + v) from by rw [hrest, List.length_drop]; omega)
  have HRBY := Lib.hid (show ∀ y ∈ rest, y < 256 from fun y hy => by rw [hrest] at hy; exact hbz y (List.mem_of_mem_drop hy))
  rw [← hrest] at HR3 hl hx hr hq
  obtain ⟨L, hL⟩ : ∃ L, L = len - (1 + u + v) := ⟨_, rfl⟩
  have hLL : rest.length = L := by rw [HLN.out, hL]
  have HLE := Lib.hid hL
  rw [← hL] at HR3 HLN
  rw [hLL] at hl hx
  obtain ⟨c3, hc3⟩ : ∃ c, c = cap - (1 + u + v) := ⟨_, rfl⟩
  have HC3 := Lib.hid hc3
  have hlc3 : L ≤ c3 := by omega
  have hL47 : L ≤ 140737488355328 := by omega
  obtain ⟨A4, hA4⟩ : ∃ A, A = sla A3 c3 (L - 8) := ⟨_, rfl⟩
  have HA4 := Lib.hid hA4
  obtain ⟨m, hm2⟩ : ∃ m, m = Numm.num 0 (rest.drop (L - 8)) := ⟨_, rfl⟩
  have HM2 := Lib.hid hm2
  have HGT := Lib.hid fun W (hW : Below w.heap.size w W) => show Calls Tryd.prog 37 #[.slice A4 8 (c3 - (L - 8))] W _ from by
    have hc := (HR3.out W hW).cut c3 (L - 8) (by omega) hlc3
    rw [show L - (L - 8) = 8 by omega] at hc
    rw [hA4]
    exact refGet_c _ 8 (c3 - (L - 8)) (rest.drop (L - 8)) W hc (by omega)
  rw [← hm2] at HGT hx
  obtain ⟨K, hK⟩ : ∃ K, K = min 32 rest.length := ⟨_, rfl⟩
  have HYK := Lib.hid (yk_min rest K hK)
  rw [hLL] at hK
  have hK1 : K ≤ 32 := by omega
  have hK2 : K ≤ L := by omega
  have HK3 := Lib.hid (show K = 32 ∨ K = L by omega)
  have HDG := Lib.hid (yk_ok HRBY.out hK1 (by rw [hLL]; exact hK2))
  have HPL := Lib.hid (show preL ⟨(z : Nat), uB P, uB G, zs32, 0⟩ rest = ⟨1, uB P, uB G, yk rest K, m⟩ from by
    unfold preL
    simp only
    rw [if_pos (by omega), ← HYK.out, hLL, hm2, hz1]; rfl)
  rw [HPL.out] at hr hq
  have HEN := Lib.hid fun W => renc_c ⟨1, uB P, uB G, yk rest K, m⟩ HDG.out ⟨by simp only; rw [uB_len]; omega, by simp only; rw [uB_len]; omega⟩ W
  have HXB := Lib.hid (encX_byte ⟨1, uB P, uB G, yk rest K, m⟩ HDG.out)
  have HXL := Lib.hid (encX_len ⟨1, uB P, uB G, yk rest K, m⟩ HDG.out)
  have hex : encX ⟨1, uB P, uB G, yk rest K, m⟩ = (encL ⟨1, uB P, uB G, yk rest K, m⟩, 0) := by unfold encX; rw [hr]; rfl
  rw [hex] at HEN HXB HXL
  unfold ER at HEN
  simp only at HEN HXB HXL
  clear hex hr
  obtain ⟨xs, hxs⟩ : ∃ xs, xs = encL ⟨1, uB P, uB G, yk rest K, m⟩ := ⟨_, rfl⟩
  rw [← hxs] at HEN HXB HXL hq
  have HXQ := Lib.hid hq
  clear hxs hq
  have HI9 := Lib.hid (sizeRq (recC ⟨1, uB P, uB G, yk rest K, m⟩) (recC_size HDG.out))
  have HO9 := Lib.hid (recC_one ⟨1, uB P, uB G, yk rest K, m⟩)
  have HZ9 := Lib.hid (recC_size (r := ⟨1, uB P, uB G, yk rest K, m⟩) HDG.out)
  obtain ⟨D9, hD9⟩ : ∃ D, D = recC ⟨1, uB P, uB G, yk rest K, m⟩ := ⟨_, rfl⟩
  rw [← hD9] at HEN HI9 HO9 HZ9
  have HD9 := Lib.hid hD9
  clear hD9
  have HI := Lib.hid (sizeRq (recC rc0) (recC_size rc0_ok))
  have HBU := Lib.hid built_q0
  have HO := Lib.hid (recC_one rc0)
  have HZ := Lib.hid (recC_size rc0_ok)
  obtain ⟨C, hC⟩ : ∃ C, C = recC rc0 := ⟨_, rfl⟩
  have HCC := Lib.hid hC
  rw [← hC] at HI HBU HO HZ ⊢
  clear hC
  subst hz1
  simp only [Int.cast_ofNat_Int] at HC0
  clear hcz
  have HBK0 := Lib.hid (built_qk 1)
  have HIE := Lib.hid (sizeRq (recC ⟨1, [], [], zs32, 0⟩) (recC_size dOk_zs))
  have HOE := Lib.hid (recC_one ⟨1, [], [], zs32, 0⟩)
  have HZE := Lib.hid (recC_size (r := ⟨1, [], [], zs32, 0⟩) dOk_zs)
  obtain ⟨E, hE⟩ : ∃ E, E = recC ⟨1, [], [], zs32, 0⟩ := ⟨_, rfl⟩
  rw [← hE] at HBK0 HIE HOE HZE
  have HEE := Lib.hid hE
  clear hE
  clear h hA1 hr1 hbz k1 k2 k3 k4 k5 hA2 hr2 q1 q2 q3 q4 q5 hA3 hrest hL hLL hc3 HPL hA4 hm2 hK HYK hz
  go_enter Tryd.func15, Tryd.ntmps15
  go_upto_region 1 with (fail)
  obtain ⟨g, hg⟩ : ∃ g, g = w.heap.size := ⟨_, rfl⟩
  refine gen_codeR (F := Bq w g 24 C) (by rw [hg, HCC.out]; exact Bq.new _ _ _) ?_
  rw [← hg]
  intro w0 hb0
  have H0 := Lib.hid hb0
  clear hg hb0
  have c0 := HC0.out w0 H0.out.2.1
  have HNB := Lib.hid (show RW (w0.alloc (.cells C 24 (0, 0))) w0.heap.size 24 C from RW.new _ _ _)
  rw [HCC.out] at HNB
  go_upto_region 4 with (first | (refine wpList_buildR 24 _ (by rfl) (by rfl) E (by simp only [List.map_toArray, List.map_cons, List.map_nil]; exact HBK0.out) ?_) | (refine wpList_store_row (by rfl) 24 _ _ (by rfl) w0.heap.size E (by rfl) (by rfl) 24 (recC rc0) (by exact HNB.out) HIE.out (by rw [recC_size rc0_ok, HZE.out]) HOE.out ?_))
  obtain ⟨j, hj⟩ : ∃ j, j = w0.heap.size := ⟨_, rfl⟩
  refine gen_codeR (F := D2 w g j 24 C (recC ⟨1, [], [], zs32, 0⟩)) (by rw [hj, ← HEE.out]; exact (D2.mk' (D := recC rc0) H0.out).row) ?_
  rw [← hj]
  intro w1 hd1
  have H1 := Lib.hid hd1
  clear hj hd1 H0 HNB c0 HC0 HBK0 HIE HOE HZE HEE
  have HTA := Lib.hid (HT1.out w1 H1.out.below)
  clear HT1
  go_wp2_with (refine wpList_runR (by rfl) (.slice A1 (len - 1) (cap - 1)) (by rw [HA1.out]; exact exec_cutS (a := some ⟨b, off, none⟩) (len := len) (cap := cap) (k := 1) (by omega) (by rfl) (by rfl) _ rfl _) ?_)
  refine HTA.out.mono ?_
  rintro e w2 ⟨v2, rfl, ho2, hb2⟩
  have H2 := Lib.hid (H1.out.step hb2)
  obtain ⟨aP, nP, cP, rfl, -, -, -, -, hrP, -⟩ := ho2.form HPB.out
  have HRP := Lib.hid hrP
  clear ho2 hb2 HTA H1 hrP HPB
  have HTB := Lib.hid (HTX.out w2 H2.out.below)
  clear HTX
  go_wp2_with (refine wpList_runR (by rfl) (.slice A2 (len - (1 + u)) (cap - (1 + u))) (by rw [HA2.out]; exact exec_cutU (a := some ⟨b, off, none⟩) (len := len) (cap := cap) (k := 1 + u) (t := 1 + (u : Int)) (by omega) rfl (by omega) (by rfl) (by rfl) _ rfl _) ?_)
  refine HTB.out.mono ?_
  rintro e w3 ⟨v3, rfl, ho3, hb3⟩
  have H3 := Lib.hid (H2.out.step hb3)
  have HBK := Lib.hid (show ∀ n c a, Own w3 w2.heap.size (.slice a n c) G → 0 < n → blkOf a ≠ some j from fun n c a ho h0 e => by
    have h1 := own_blk ho h0 j e
    have h2 := H2.out.b.lt
    omega)
  obtain ⟨aG, nG, cG, rfl, -, -, -, -, hrG, ho3⟩ := ho3.form HGB.out
  have HRG := Lib.hid hrG
  have HRP3 := Lib.hid (HRP.out.below hb3)
  have HBG := Lib.hid (HBK.out _ _ _ ho3)
  have d1 := H3.out.b.c1
  have f1 := H3.out.b.fz 1
  simp only at d1
  clear ho3 hb3 HTB H2 HRP HBK hrG HGB
  go_upto_region 11 with (refine wpList_runR (by rfl) (.string (T (uB P))) (exec_strS HRP3.out (by rfl) _ rfl) ?_)
  refine gen_codeR (F := fun W => D2 w g j 24 C (recC ⟨1, uB P, [], zs32, 0⟩) W ∧ Rd W aG nG G) (by
    have h := H3.out.cell 1 (.string (T (uB P)))
    rw [recC_one1] at h
    exact ⟨h, (Only.ofCell j 1 _).rd' HRG.out HBG.out⟩) ?_
  rintro w4 ⟨hd4, hg4⟩
  have H4 := Lib.hid hd4
  have HG4 := Lib.hid hg4
  have d2 := H4.out.b.c2
  have f2 := H4.out.b.fz 2
  simp only at d2
  clear hd4 hg4 H3 HRP3 HRG HBG d1 f1
  go_upto_region 12 with (refine wpList_runR (by rfl) (.string (T (uB G))) (exec_strS HG4.out (by rfl) _ rfl) ?_)
  refine gen_codeR (F := D2 w g j 24 C (recC ⟨1, uB P, uB G, zs32, 0⟩)) (by
    have h := H4.out.cell 2 (.string (T (uB G)))
    rw [recC_two2] at h
    exact h) ?_
  intro w5 hd5
  have H5 := Lib.hid hd5
  clear hd5 H4 HG4 d2 f2
  go_wp2_with (refine wpList_runR (by rfl) (.slice A3 L c3) (by rw [HA3.out, HLE.out, HC3.out]; exact exec_cutU (a := some ⟨b, off, none⟩) (len := len) (cap := cap) (k := 1 + u + v) (t := 1 + (u : Int) + (v : Int)) (by omega) rfl (by omega) (by rfl) (by rfl) _ rfl _) ?_)
  go_loopw [12] (fun i wr => ∃ n : Nat, n ≤ K ∧ i = .int .i64 n ∧ Hid (D2 w g j 24 C (recC ⟨1, uB P, uB G, yk rest n, 0⟩) wr)) (fun i _ => 32 - (intOf i).toNat)
  case atStart => exact ⟨0, by omega, rfl, H5⟩
  case round =>
    clear H5
    obtain ⟨n, hn, rfl, HP⟩ := hrel
    have c0 := HP.out.b.c0
    simp only at c0
    by_cases hnk : n < K
    · obtain ⟨b3, o3, hA3s⟩ : ∃ b3 o3, A3 = some ⟨b3, o3, none⟩ := by
        rcases (HR3.out wr HP.out.below).2.2 with h0 | ⟨b', o', e, _⟩
        · omega
        · exact ⟨b', o', e⟩
      subst hA3s
      have hcl : wr.cell? ⟨b3, o3 + n, none⟩ = some (.int .u8 ((rest.getD n 0 : Nat) : Int)) := by
        rcases (HR3.out wr HP.out.below).2.2 with h0 | ⟨b', off', e, _, hc⟩
        · omega
        · cases e
          exact hc n (by omega)
      have hyl : (yk rest n).length = 32 := yk_len rest n (by omega) (by rw [HLN.out]; omega)
      have hdt : wr.cell? ⟨j, 3 + n, none⟩ = some (.int .u8 (((yk rest n).getD n 0 : Nat) : Int)) := HP.out.b.digAt n _ (by
        show (cellsOf (yk rest n))[n]? = _
        rw [cellsOf_get _ _ (by omega), getD_at _ _ (by omega)])
      have hfz := HP.out.b.fz (3 + n)
      have HS := Lib.hid (show D2 w g j 24 C (recC ⟨1, uB P, uB G, yk rest (n + 1), 0⟩) (wr.setCell ⟨j, 3 + n, none⟩ (.int .u8 ((rest.getD n 0 : Nat) : Int))) from by
        have h := HP.out.cell (3 + n) (.int .u8 ((rest.getD n 0 : Nat) : Int))
        rw [recC_at _ _ _ _ _ _ _ (by omega), yk_step rest n (by omega) (by rw [HLN.out]; omega)] at h
        exact h)
      obtain ⟨y1, hy1⟩ : ∃ y, y = rest.getD n 0 := ⟨_, rfl⟩
      obtain ⟨y2, hy2⟩ : ∃ y, y = (yk rest n).getD n 0 := ⟨_, rfl⟩
      rw [← hy1] at hcl HS
      rw [← hy2] at hdt
      have hn32 : n < 32 := by omega
      have hnL : n < L := by omega
      clear hy1 hy2 hyl
      go_wp2_with fail
      go_roundw
      case rel => exact ⟨n + 1, by omega, by go_num, HS⟩
      case measure => simp [intOf]; omega
    · obtain rfl : n = K := by omega
      have HQ := Lib.hid HP.out
      clear HP hn hnk
      by_cases hx32 : n = 32
      · have hy32 : ¬ n < 32 := by omega
        clear hx32
        have hl8 : ¬ (L : Int) < 8 := by omega
        have HGN := Lib.hid (HGT.out wr HQ.out.below)
        have hgt : ¬ (1099511627776 : Int) < (m : Int) := by omega
        have HCM := Lib.hid (show m ≤ 9223372036854775807 by omega)
        have c35 := HQ.out.b.c35 HDG.out
        have f35 := HQ.out.b.fz 35
        simp only at c35
        have H7 := Lib.hid (show D2 w g j 24 C D9 (wr.setCell ⟨j, 35, none⟩ (.int .i64 (m : Int))) from by
          have h := HQ.out.cell 35 (.int .i64 (m : Int))
          rw [recC_time _ _ _ _ _ _ HDG.out.1, ← HD9.out] at h
          exact h)
        go_wp2_with (first | (refine wpList_runR (by rfl) (.slice A4 8 (c3 - (L - 8))) (by rw [HA4.out]; exact exec_cutU (a := A3) (len := L) (cap := c3) (k := L - 8) (t := (L : Int) - 8) (by omega) (by omega) (by omega) (by rfl) (by rfl) _ rfl _) ?_) | (go_at_call 37; refine HGN.out.mono ?_; rintro e w6 ⟨rfl, rfl⟩) | (refine wpList_runR (by rfl) (.int .i64 (m : Int)) (exec_cvR (m := m) HCM.out (by rfl) _ rfl _) ?_) | (refine wpList_runR (by rfl) (.agg D9) (exec_ldRow H7.out.b Tryd.underlying24 HI9.out (by rfl) _ rfl) ?_))
        refine (HEN.out _).mono ?_
        rintro e w8 ⟨v8, rfl, ho8, hb8⟩
        have H8 := Lib.hid (H7.out.step hb8)
        obtain ⟨a15, n15, c15, rfl, hl15, -, -, -, hr15, -⟩ := ho8.form HXB.out
        have HSM := Lib.hid (same_c a15 (some ⟨b, off, none⟩) n15 c15 len cap xs zs w8 hr15 (HR.out.below H8.out.below) (by have := HXL.out; omega))
        rw [decide_eq_false HXQ.out] at HSM
        clear ho8 hb8 H7 HEN hl15 hr15 HQ HGN c35 f35 c0
        go_wp2_with (first | (go_at_call 13; refine HSM.out.mono ?_; rintro e w9 hw9; obtain ⟨rfl, hb9⟩ := (show e = .returned (.bool false) ∧ Below w8.heap.size w8 w9 from ⟨hw9.1, by obtain ⟨q, hq⟩ := hw9.2; rw [hq]; exact below_drewN' _ _ q⟩); have H9 := Lib.hid (H8.out.step hb9); clear hw9 hb9) | (refine wpList_buildR 24 _ (by rfl) (by rfl) C (by simp only [List.map_toArray, List.map_cons, List.map_nil]; exact HBU.out) ?_) | (refine wpList_store_row (by rfl) 24 _ _ (by rfl) g C (by rfl) (by rfl) 24 C H9.out.a HI.out rfl HO.out ?_))
        exact bodyPost_ret (results_row_tmpR rfl _ _ g 24 C (0, 0) _ (by rfl) H9.out.a.setRow Tryd.underlying24 HI.out) rfl ⟨rfl, H9.out.res.2.1⟩
      · have hy32 : n < 32 := by omega
        have hyL : ¬ n < L := by have := HK3.out; omega
        clear hx32
        have hl8 : ¬ (L : Int) < 8 := by omega
        have HGN := Lib.hid (HGT.out wr HQ.out.below)
        have hgt : ¬ (1099511627776 : Int) < (m : Int) := by omega
        have HCM := Lib.hid (show m ≤ 9223372036854775807 by omega)
        have c35 := HQ.out.b.c35 HDG.out
        have f35 := HQ.out.b.fz 35
        simp only at c35
        have H7 := Lib.hid (show D2 w g j 24 C D9 (wr.setCell ⟨j, 35, none⟩ (.int .i64 (m : Int))) from by
          have h := HQ.out.cell 35 (.int .i64 (m : Int))
          rw [recC_time _ _ _ _ _ _ HDG.out.1, ← HD9.out] at h
          exact h)
        go_wp2_with (first | (refine wpList_runR (by rfl) (.slice A4 8 (c3 - (L - 8))) (by rw [HA4.out]; exact exec_cutU (a := A3) (len := L) (cap := c3) (k := L - 8) (t := (L : Int) - 8) (by omega) (by omega) (by omega) (by rfl) (by rfl) _ rfl _) ?_) | (go_at_call 37; refine HGN.out.mono ?_; rintro e w6 ⟨rfl, rfl⟩) | (refine wpList_runR (by rfl) (.int .i64 (m : Int)) (exec_cvR (m := m) HCM.out (by rfl) _ rfl _) ?_) | (refine wpList_runR (by rfl) (.agg D9) (exec_ldRow H7.out.b Tryd.underlying24 HI9.out (by rfl) _ rfl) ?_))
        refine (HEN.out _).mono ?_
        rintro e w8 ⟨v8, rfl, ho8, hb8⟩
        have H8 := Lib.hid (H7.out.step hb8)
        obtain ⟨a15, n15, c15, rfl, hl15, -, -, -, hr15, -⟩ := ho8.form HXB.out
        have HSM := Lib.hid (same_c a15 (some ⟨b, off, none⟩) n15 c15 len cap xs zs w8 hr15 (HR.out.below H8.out.below) (by have := HXL.out; omega))
        rw [decide_eq_false HXQ.out] at HSM
        clear ho8 hb8 H7 HEN hl15 hr15 HQ HGN c35 f35 c0
        go_wp2_with (first | (go_at_call 13; refine HSM.out.mono ?_; rintro e w9 hw9; obtain ⟨rfl, hb9⟩ := (show e = .returned (.bool false) ∧ Below w8.heap.size w8 w9 from ⟨hw9.1, by obtain ⟨q, hq⟩ := hw9.2; rw [hq]; exact below_drewN' _ _ q⟩); have H9 := Lib.hid (H8.out.step hb9); clear hw9 hb9) | (refine wpList_buildR 24 _ (by rfl) (by rfl) C (by simp only [List.map_toArray, List.map_cons, List.map_nil]; exact HBU.out) ?_) | (refine wpList_store_row (by rfl) 24 _ _ (by rfl) g C (by rfl) (by rfl) 24 C H9.out.a HI.out rfl HO.out ?_))
        exact bodyPost_ret (results_row_tmpR rfl _ _ g 24 C (0, 0) _ (by rfl) H9.out.a.setRow Tryd.underlying24 HI.out) rfl ⟨rfl, H9.out.res.2.1⟩
set_option maxRecDepth 100000 in
set_option maxHeartbeats 8000000 in
theorem rdec1_c5 (a : Option Addr) (len cap : Nat) (zs : List Nat) (w : World) (h : Rd w a len zs) (h0 : 0 < len) (hcap : len ≤ cap) (hm : len ≤ 140737488355328) (hm0 : cap ≤ 9223372036854775807) (P : List Nat) (u : Nat) (hr1 : rt (zs.drop 1) 128 = (P, u, 0)) (G : List Nat) (v : Nat) (hr2 : rt (zs.drop (1 + u)) 128 = (G, v, 0)) (hz1 : zs.getD 0 0 = 1) (hl : 8 ≤ (zs.drop (1 + u + v)).length) (hx : (Numm.num 0 ((zs.drop (1 + u + v)).drop ((zs.drop (1 + u + v)).length - 8))) ≤ 1099511627776) (hr : rightB (preL ⟨(zs.getD 0 0 : Nat), uB P, uB G, zs32, 0⟩ (zs.drop (1 + u + v))) = true) (hq : encL (preL ⟨(zs.getD 0 0 : Nat), uB P, uB G, zs32, 0⟩ (zs.drop (1 + u + v))) = zs) :
    Calls Tryd.prog 15 #[.slice a len cap] w (fun e w' => e = .returned (.tuple #[.agg (recC (preL ⟨(zs.getD 0 0 : Nat), uB P, uB G, zs32, 0⟩ (zs.drop (1 + u + v)))), .int .i64 0]) ∧ Below w.heap.size w w') := by
  obtain ⟨b, off, rfl⟩ : ∃ b off, a = some ⟨b, off, none⟩ := by
    rcases h.2.2 with h0 | ⟨b, off, e, _⟩
    · omega
    · exact ⟨b, off, e⟩
  have HR := Lib.hid h
  have hzl := h.1
  have hbz := h.2.1
  obtain ⟨z, hz⟩ : ∃ z, z = zs.getD 0 0 := ⟨_, rfl⟩
  have hzlt : z < 256 := by
    rw [hz]
    match zs, hzl, h.2.1 with
    | y :: l, _, hb => exact hb y (by simp)
    | [], hzl, _ => simp at hzl; omega
  have hcz : wrap64 (z : Int) = (z : Int) := IntWalk.wrap64_in _ (by omega)
  have HC0 := Lib.hid (show ∀ W, Below w.heap.size w W → W.cell? ⟨b, off, none⟩ = some (.int .u8 (z : Int)) from fun W hW => by
    rcases (h.below hW).2.2 with h0 | ⟨b', off', e, _, hc⟩
    · omega
    · cases e
      have c0 := hc 0 (by omega)
      rw [← hz, Nat.add_zero] at c0
      exact c0)
  have hi1 : ¬ (len : Int) < 1 := by omega
  obtain ⟨A1, hA1⟩ : ∃ A, A = sla (some ⟨b, off, none⟩) cap 1 := ⟨_, rfl⟩
  have HA1 := Lib.hid hA1
  have HT1 := Lib.hid fun W (hW : Below w.heap.size w W) => show Calls Tryd.prog 36 #[.slice A1 (len - 1) (cap - 1), .int .i64 128] W (RtRet W.heap.size W (rt (zs.drop 1) 128)) from by
    rw [hA1]
    exact refReadText_c _ (len - 1) (cap - 1) (zs.drop 1) 128 W ((h.below hW).cut cap 1 (by omega) hcap) (by omega) (by omega) (by omega) (by omega) (by omega)
  rw [hr1] at HT1
  obtain ⟨k1, k2, k3, k4, k5⟩ := rt_spec (fun x hx => hbz x (List.mem_of_mem_drop hx)) hr1
  rw [List.length_drop] at k3
  have HPB := Lib.hid k5
  obtain ⟨A2, hA2⟩ : ∃ A, A = sla (some ⟨b, off, none⟩) cap (1 + u) := ⟨_, rfl⟩
  have HA2 := Lib.hid hA2
  have hul : u ≤ len - 1 := by omega
  have HTX := Lib.hid fun W (hW : Below w.heap.size w W) => show Calls Tryd.prog 36 #[.slice A2 (len - (1 + u)) (cap - (1 + u)), .int .i64 128] W (RtRet W.heap.size W (rt (zs.drop (1 + u)) 128)) from by
    rw [hA2]
    exact refReadText_c _ (len - (1 + u)) (cap - (1 + u)) (zs.drop (1 + u)) 128 W ((h.below hW).cut cap (1 + u) (by omega) hcap) (by omega) (by omega) (by omega) (by omega) (by omega)
  rw [hr2] at HTX
  obtain ⟨q1, q2, q3, q4, q5⟩ := rt_spec (fun x hx => hbz x (List.mem_of_mem_drop hx)) hr2
  rw [List.length_drop] at q3
  have HGB := Lib.hid q5
  have hvl : u + v ≤ len - 1 := by omega
  rw [← hz] at hz1 hr hq ⊢
  obtain ⟨A3, hA3⟩ : ∃ A, A = sla (some ⟨b, off, none⟩) cap (1 + u + v) := ⟨_, rfl⟩
  have HA3 := Lib.hid hA3
  have HR3 := Lib.hid fun W (hW : Below w.heap.size w W) => show Rd W A3 (len - (1 + u + v)) (zs.drop (1 + u + v)) from by rw [hA3]; exact (h.below hW).cut cap (1 + u + v) (by omega) hcap
  obtain ⟨rest, hrest⟩ : ∃ r, r = (zs.drop (1 + u + v)) := ⟨_, rfl⟩
  have HRE := Lib.hid hrest
  have HLN := Lib.hid (show rest.length = len - (1 + u + v) from by rw [hrest, List.length_drop]; omega)
  have HRBY := Lib.hid (show ∀ y ∈ rest, y < 256 from fun y hy => by rw [hrest] at hy; exact hbz y (List.mem_of_mem_drop hy))
  rw [← hrest] at HR3 hl hx hr hq ⊢
  obtain ⟨L, hL⟩ : ∃ L, L = len - (1 + u + v) := ⟨_, rfl⟩
  have hLL : rest.length = L := by rw [HLN.out, hL]
  have HLE := Lib.hid hL
  rw [← hL] at HR3 HLN
  rw [hLL] at hl hx
  obtain ⟨c3, hc3⟩ : ∃ c, c = cap - (1 + u + v) := ⟨_, rfl⟩
  have HC3 := Lib.hid hc3
  have hlc3 : L ≤ c3 := by omega
  have hL47 : L ≤ 140737488355328 := by omega
  obtain ⟨A4, hA4⟩ : ∃ A, A = sla A3 c3 (L - 8) := ⟨_, rfl⟩
  have HA4 := Lib.hid hA4
  obtain ⟨m, hm2⟩ : ∃ m, m = Numm.num 0 (rest.drop (L - 8)) := ⟨_, rfl⟩
  have HM2 := Lib.hid hm2
  have HGT := Lib.hid fun W (hW : Below w.heap.size w W) => show Calls Tryd.prog 37 #[.slice A4 8 (c3 - (L - 8))] W _ from by
    have hc := (HR3.out W hW).cut c3 (L - 8) (by omega) hlc3
    rw [show L - (L - 8) = 8 by omega] at hc
    rw [hA4]
    exact refGet_c _ 8 (c3 - (L - 8)) (rest.drop (L - 8)) W hc (by omega)
  rw [← hm2] at HGT hx
  obtain ⟨K, hK⟩ : ∃ K, K = min 32 rest.length := ⟨_, rfl⟩
  have HYK := Lib.hid (yk_min rest K hK)
  rw [hLL] at hK
  have hK1 : K ≤ 32 := by omega
  have hK2 : K ≤ L := by omega
  have HK3 := Lib.hid (show K = 32 ∨ K = L by omega)
  have HDG := Lib.hid (yk_ok HRBY.out hK1 (by rw [hLL]; exact hK2))
  have HPL := Lib.hid (show preL ⟨(z : Nat), uB P, uB G, zs32, 0⟩ rest = ⟨1, uB P, uB G, yk rest K, m⟩ from by
    unfold preL
    simp only
    rw [if_pos (by omega), ← HYK.out, hLL, hm2, hz1]; rfl)
  rw [HPL.out] at hr hq ⊢
  have HEN := Lib.hid fun W => renc_c ⟨1, uB P, uB G, yk rest K, m⟩ HDG.out ⟨by simp only; rw [uB_len]; omega, by simp only; rw [uB_len]; omega⟩ W
  have HXB := Lib.hid (encX_byte ⟨1, uB P, uB G, yk rest K, m⟩ HDG.out)
  have HXL := Lib.hid (encX_len ⟨1, uB P, uB G, yk rest K, m⟩ HDG.out)
  have hex : encX ⟨1, uB P, uB G, yk rest K, m⟩ = (encL ⟨1, uB P, uB G, yk rest K, m⟩, 0) := by unfold encX; rw [hr]; rfl
  rw [hex] at HEN HXB HXL
  unfold ER at HEN
  simp only at HEN HXB HXL
  clear hex hr
  obtain ⟨xs, hxs⟩ : ∃ xs, xs = encL ⟨1, uB P, uB G, yk rest K, m⟩ := ⟨_, rfl⟩
  rw [← hxs] at HEN HXB HXL hq
  have HXQ := Lib.hid hq
  clear hxs hq
  have HI9 := Lib.hid (sizeRq (recC ⟨1, uB P, uB G, yk rest K, m⟩) (recC_size HDG.out))
  have HO9 := Lib.hid (recC_one ⟨1, uB P, uB G, yk rest K, m⟩)
  have HZ9 := Lib.hid (recC_size (r := ⟨1, uB P, uB G, yk rest K, m⟩) HDG.out)
  obtain ⟨D9, hD9⟩ : ∃ D, D = recC ⟨1, uB P, uB G, yk rest K, m⟩ := ⟨_, rfl⟩
  rw [← hD9] at HEN HI9 HO9 HZ9 ⊢
  have HD9 := Lib.hid hD9
  clear hD9
  have HI := Lib.hid (sizeRq (recC rc0) (recC_size rc0_ok))
  have HBU := Lib.hid built_q0
  have HO := Lib.hid (recC_one rc0)
  have HZ := Lib.hid (recC_size rc0_ok)
  obtain ⟨C, hC⟩ : ∃ C, C = recC rc0 := ⟨_, rfl⟩
  have HCC := Lib.hid hC
  rw [← hC] at HI HBU HO HZ
  clear hC
  subst hz1
  simp only [Int.cast_ofNat_Int] at HC0
  clear hcz
  have HBK0 := Lib.hid (built_qk 1)
  have HIE := Lib.hid (sizeRq (recC ⟨1, [], [], zs32, 0⟩) (recC_size dOk_zs))
  have HOE := Lib.hid (recC_one ⟨1, [], [], zs32, 0⟩)
  have HZE := Lib.hid (recC_size (r := ⟨1, [], [], zs32, 0⟩) dOk_zs)
  obtain ⟨E, hE⟩ : ∃ E, E = recC ⟨1, [], [], zs32, 0⟩ := ⟨_, rfl⟩
  rw [← hE] at HBK0 HIE HOE HZE
  have HEE := Lib.hid hE
  clear hE
  clear h hA1 hr1 hbz k1 k2 k3 k4 k5 hA2 hr2 q1 q2 q3 q4 q5 hA3 hrest hL hLL hc3 HPL hA4 hm2 hK HYK hz
  go_enter Tryd.func15, Tryd.ntmps15
  go_upto_region 1 with (fail)
  obtain ⟨g, hg⟩ : ∃ g, g = w.heap.size := ⟨_, rfl⟩
  refine gen_codeR (F := Bq w g 24 C) (by rw [hg, HCC.out]; exact Bq.new _ _ _) ?_
  rw [← hg]
  intro w0 hb0
  have H0 := Lib.hid hb0
  clear hg hb0
  have c0 := HC0.out w0 H0.out.2.1
  have HNB := Lib.hid (show RW (w0.alloc (.cells C 24 (0, 0))) w0.heap.size 24 C from RW.new _ _ _)
  rw [HCC.out] at HNB
  go_upto_region 4 with (first | (refine wpList_buildR 24 _ (by rfl) (by rfl) E (by simp only [List.map_toArray, List.map_cons, List.map_nil]; exact HBK0.out) ?_) | (refine wpList_store_row (by rfl) 24 _ _ (by rfl) w0.heap.size E (by rfl) (by rfl) 24 (recC rc0) (by exact HNB.out) HIE.out (by rw [recC_size rc0_ok, HZE.out]) HOE.out ?_))
  obtain ⟨j, hj⟩ : ∃ j, j = w0.heap.size := ⟨_, rfl⟩
  refine gen_codeR (F := D2 w g j 24 C (recC ⟨1, [], [], zs32, 0⟩)) (by rw [hj, ← HEE.out]; exact (D2.mk' (D := recC rc0) H0.out).row) ?_
  rw [← hj]
  intro w1 hd1
  have H1 := Lib.hid hd1
  clear hj hd1 H0 HNB c0 HC0 HBK0 HIE HOE HZE HEE
  have HTA := Lib.hid (HT1.out w1 H1.out.below)
  clear HT1
  go_wp2_with (refine wpList_runR (by rfl) (.slice A1 (len - 1) (cap - 1)) (by rw [HA1.out]; exact exec_cutS (a := some ⟨b, off, none⟩) (len := len) (cap := cap) (k := 1) (by omega) (by rfl) (by rfl) _ rfl _) ?_)
  refine HTA.out.mono ?_
  rintro e w2 ⟨v2, rfl, ho2, hb2⟩
  have H2 := Lib.hid (H1.out.step hb2)
  obtain ⟨aP, nP, cP, rfl, -, -, -, -, hrP, -⟩ := ho2.form HPB.out
  have HRP := Lib.hid hrP
  clear ho2 hb2 HTA H1 hrP HPB
  have HTB := Lib.hid (HTX.out w2 H2.out.below)
  clear HTX
  go_wp2_with (refine wpList_runR (by rfl) (.slice A2 (len - (1 + u)) (cap - (1 + u))) (by rw [HA2.out]; exact exec_cutU (a := some ⟨b, off, none⟩) (len := len) (cap := cap) (k := 1 + u) (t := 1 + (u : Int)) (by omega) rfl (by omega) (by rfl) (by rfl) _ rfl _) ?_)
  refine HTB.out.mono ?_
  rintro e w3 ⟨v3, rfl, ho3, hb3⟩
  have H3 := Lib.hid (H2.out.step hb3)
  have HBK := Lib.hid (show ∀ n c a, Own w3 w2.heap.size (.slice a n c) G → 0 < n → blkOf a ≠ some j from fun n c a ho h0 e => by
    have h1 := own_blk ho h0 j e
    have h2 := H2.out.b.lt
    omega)
  obtain ⟨aG, nG, cG, rfl, -, -, -, -, hrG, ho3⟩ := ho3.form HGB.out
  have HRG := Lib.hid hrG
  have HRP3 := Lib.hid (HRP.out.below hb3)
  have HBG := Lib.hid (HBK.out _ _ _ ho3)
  have d1 := H3.out.b.c1
  have f1 := H3.out.b.fz 1
  simp only at d1
  clear ho3 hb3 HTB H2 HRP HBK hrG HGB
  go_upto_region 11 with (refine wpList_runR (by rfl) (.string (T (uB P))) (exec_strS HRP3.out (by rfl) _ rfl) ?_)
  refine gen_codeR (F := fun W => D2 w g j 24 C (recC ⟨1, uB P, [], zs32, 0⟩) W ∧ Rd W aG nG G) (by
    have h := H3.out.cell 1 (.string (T (uB P)))
    rw [recC_one1] at h
    exact ⟨h, (Only.ofCell j 1 _).rd' HRG.out HBG.out⟩) ?_
  rintro w4 ⟨hd4, hg4⟩
  have H4 := Lib.hid hd4
  have HG4 := Lib.hid hg4
  have d2 := H4.out.b.c2
  have f2 := H4.out.b.fz 2
  simp only at d2
  clear hd4 hg4 H3 HRP3 HRG HBG d1 f1
  go_upto_region 12 with (refine wpList_runR (by rfl) (.string (T (uB G))) (exec_strS HG4.out (by rfl) _ rfl) ?_)
  refine gen_codeR (F := D2 w g j 24 C (recC ⟨1, uB P, uB G, zs32, 0⟩)) (by
    have h := H4.out.cell 2 (.string (T (uB G)))
    rw [recC_two2] at h
    exact h) ?_
  intro w5 hd5
  have H5 := Lib.hid hd5
  clear hd5 H4 HG4 d2 f2
  go_wp2_with (refine wpList_runR (by rfl) (.slice A3 L c3) (by rw [HA3.out, HLE.out, HC3.out]; exact exec_cutU (a := some ⟨b, off, none⟩) (len := len) (cap := cap) (k := 1 + u + v) (t := 1 + (u : Int) + (v : Int)) (by omega) rfl (by omega) (by rfl) (by rfl) _ rfl _) ?_)
  go_loopw [12] (fun i wr => ∃ n : Nat, n ≤ K ∧ i = .int .i64 n ∧ Hid (D2 w g j 24 C (recC ⟨1, uB P, uB G, yk rest n, 0⟩) wr)) (fun i _ => 32 - (intOf i).toNat)
  case atStart => exact ⟨0, by omega, rfl, H5⟩
  case round =>
    clear H5
    obtain ⟨n, hn, rfl, HP⟩ := hrel
    have c0 := HP.out.b.c0
    simp only at c0
    by_cases hnk : n < K
    · obtain ⟨b3, o3, hA3s⟩ : ∃ b3 o3, A3 = some ⟨b3, o3, none⟩ := by
        rcases (HR3.out wr HP.out.below).2.2 with h0 | ⟨b', o', e, _⟩
        · omega
        · exact ⟨b', o', e⟩
      subst hA3s
      have hcl : wr.cell? ⟨b3, o3 + n, none⟩ = some (.int .u8 ((rest.getD n 0 : Nat) : Int)) := by
        rcases (HR3.out wr HP.out.below).2.2 with h0 | ⟨b', off', e, _, hc⟩
        · omega
        · cases e
          exact hc n (by omega)
      have hyl : (yk rest n).length = 32 := yk_len rest n (by omega) (by rw [HLN.out]; omega)
      have hdt : wr.cell? ⟨j, 3 + n, none⟩ = some (.int .u8 (((yk rest n).getD n 0 : Nat) : Int)) := HP.out.b.digAt n _ (by
        show (cellsOf (yk rest n))[n]? = _
        rw [cellsOf_get _ _ (by omega), getD_at _ _ (by omega)])
      have hfz := HP.out.b.fz (3 + n)
      have HS := Lib.hid (show D2 w g j 24 C (recC ⟨1, uB P, uB G, yk rest (n + 1), 0⟩) (wr.setCell ⟨j, 3 + n, none⟩ (.int .u8 ((rest.getD n 0 : Nat) : Int))) from by
        have h := HP.out.cell (3 + n) (.int .u8 ((rest.getD n 0 : Nat) : Int))
        rw [recC_at _ _ _ _ _ _ _ (by omega), yk_step rest n (by omega) (by rw [HLN.out]; omega)] at h
        exact h)
      obtain ⟨y1, hy1⟩ : ∃ y, y = rest.getD n 0 := ⟨_, rfl⟩
      obtain ⟨y2, hy2⟩ : ∃ y, y = (yk rest n).getD n 0 := ⟨_, rfl⟩
      rw [← hy1] at hcl HS
      rw [← hy2] at hdt
      have hn32 : n < 32 := by omega
      have hnL : n < L := by omega
      clear hy1 hy2 hyl
      go_wp2_with fail
      go_roundw
      case rel => exact ⟨n + 1, by omega, by go_num, HS⟩
      case measure => simp [intOf]; omega
    · obtain rfl : n = K := by omega
      have HQ := Lib.hid HP.out
      clear HP hn hnk
      by_cases hx32 : n = 32
      · have hy32 : ¬ n < 32 := by omega
        clear hx32
        have hl8 : ¬ (L : Int) < 8 := by omega
        have HGN := Lib.hid (HGT.out wr HQ.out.below)
        have hgt : ¬ (1099511627776 : Int) < (m : Int) := by omega
        have HCM := Lib.hid (show m ≤ 9223372036854775807 by omega)
        have c35 := HQ.out.b.c35 HDG.out
        have f35 := HQ.out.b.fz 35
        simp only at c35
        have H7 := Lib.hid (show D2 w g j 24 C D9 (wr.setCell ⟨j, 35, none⟩ (.int .i64 (m : Int))) from by
          have h := HQ.out.cell 35 (.int .i64 (m : Int))
          rw [recC_time _ _ _ _ _ _ HDG.out.1, ← HD9.out] at h
          exact h)
        go_wp2_with (first | (refine wpList_runR (by rfl) (.slice A4 8 (c3 - (L - 8))) (by rw [HA4.out]; exact exec_cutU (a := A3) (len := L) (cap := c3) (k := L - 8) (t := (L : Int) - 8) (by omega) (by omega) (by omega) (by rfl) (by rfl) _ rfl _) ?_) | (go_at_call 37; refine HGN.out.mono ?_; rintro e w6 ⟨rfl, rfl⟩) | (refine wpList_runR (by rfl) (.int .i64 (m : Int)) (exec_cvR (m := m) HCM.out (by rfl) _ rfl _) ?_) | (refine wpList_runR (by rfl) (.agg D9) (exec_ldRow H7.out.b Tryd.underlying24 HI9.out (by rfl) _ rfl) ?_))
        refine (HEN.out _).mono ?_
        rintro e w8 ⟨v8, rfl, ho8, hb8⟩
        have H8 := Lib.hid (H7.out.step hb8)
        obtain ⟨a15, n15, c15, rfl, hl15, -, -, -, hr15, -⟩ := ho8.form HXB.out
        have HSM := Lib.hid (same_c a15 (some ⟨b, off, none⟩) n15 c15 len cap xs zs w8 hr15 (HR.out.below H8.out.below) (by have := HXL.out; omega))
        rw [decide_eq_true HXQ.out] at HSM
        clear ho8 hb8 H7 HEN hl15 hr15 HQ HGN c35 f35 c0
        go_wp2_with (first | (go_at_call 13; refine HSM.out.mono ?_; rintro e w9 hw9; obtain ⟨rfl, hb9⟩ := (show e = .returned (.bool true) ∧ Below w8.heap.size w8 w9 from ⟨hw9.1, by obtain ⟨q, hq⟩ := hw9.2; rw [hq]; exact below_drewN' _ _ q⟩); have H9 := Lib.hid (H8.out.step hb9); clear hw9 hb9) | (refine wpList_runR (by rfl) (.agg D9) (exec_ldRow H9.out.b Tryd.underlying24 HI9.out (by rfl) _ rfl) ?_) | (refine wpList_store_row (by rfl) 24 _ _ (by rfl) g D9 (by rfl) (by rfl) 24 C H9.out.a HI9.out (by rw [HZ9.out, HZ.out]) HO9.out ?_))
        exact bodyPost_ret (results_row_tmpR rfl _ _ g 24 D9 (0, 0) _ (by rfl) H9.out.a.setRow Tryd.underlying24 HI9.out) rfl ⟨rfl, H9.out.res.2.1⟩
      · have hy32 : n < 32 := by omega
        have hyL : ¬ n < L := by have := HK3.out; omega
        clear hx32
        have hl8 : ¬ (L : Int) < 8 := by omega
        have HGN := Lib.hid (HGT.out wr HQ.out.below)
        have hgt : ¬ (1099511627776 : Int) < (m : Int) := by omega
        have HCM := Lib.hid (show m ≤ 9223372036854775807 by omega)
        have c35 := HQ.out.b.c35 HDG.out
        have f35 := HQ.out.b.fz 35
        simp only at c35
        have H7 := Lib.hid (show D2 w g j 24 C D9 (wr.setCell ⟨j, 35, none⟩ (.int .i64 (m : Int))) from by
          have h := HQ.out.cell 35 (.int .i64 (m : Int))
          rw [recC_time _ _ _ _ _ _ HDG.out.1, ← HD9.out] at h
          exact h)
        go_wp2_with (first | (refine wpList_runR (by rfl) (.slice A4 8 (c3 - (L - 8))) (by rw [HA4.out]; exact exec_cutU (a := A3) (len := L) (cap := c3) (k := L - 8) (t := (L : Int) - 8) (by omega) (by omega) (by omega) (by rfl) (by rfl) _ rfl _) ?_) | (go_at_call 37; refine HGN.out.mono ?_; rintro e w6 ⟨rfl, rfl⟩) | (refine wpList_runR (by rfl) (.int .i64 (m : Int)) (exec_cvR (m := m) HCM.out (by rfl) _ rfl _) ?_) | (refine wpList_runR (by rfl) (.agg D9) (exec_ldRow H7.out.b Tryd.underlying24 HI9.out (by rfl) _ rfl) ?_))
        refine (HEN.out _).mono ?_
        rintro e w8 ⟨v8, rfl, ho8, hb8⟩
        have H8 := Lib.hid (H7.out.step hb8)
        obtain ⟨a15, n15, c15, rfl, hl15, -, -, -, hr15, -⟩ := ho8.form HXB.out
        have HSM := Lib.hid (same_c a15 (some ⟨b, off, none⟩) n15 c15 len cap xs zs w8 hr15 (HR.out.below H8.out.below) (by have := HXL.out; omega))
        rw [decide_eq_true HXQ.out] at HSM
        clear ho8 hb8 H7 HEN hl15 hr15 HQ HGN c35 f35 c0
        go_wp2_with (first | (go_at_call 13; refine HSM.out.mono ?_; rintro e w9 hw9; obtain ⟨rfl, hb9⟩ := (show e = .returned (.bool true) ∧ Below w8.heap.size w8 w9 from ⟨hw9.1, by obtain ⟨q, hq⟩ := hw9.2; rw [hq]; exact below_drewN' _ _ q⟩); have H9 := Lib.hid (H8.out.step hb9); clear hw9 hb9) | (refine wpList_runR (by rfl) (.agg D9) (exec_ldRow H9.out.b Tryd.underlying24 HI9.out (by rfl) _ rfl) ?_) | (refine wpList_store_row (by rfl) 24 _ _ (by rfl) g D9 (by rfl) (by rfl) 24 C H9.out.a HI9.out (by rw [HZ9.out, HZ.out]) HO9.out ?_))
        exact bodyPost_ret (results_row_tmpR rfl _ _ g 24 D9 (0, 0) _ (by rfl) H9.out.a.setRow Tryd.underlying24 HI9.out) rfl ⟨rfl, H9.out.res.2.1⟩
/-- the document's record of any bytes -/
theorem rdec_c (a : Option Addr) (len cap : Nat) (zs : List Nat) (w : World) (h : Rd w a len zs) (hcap : len ≤ cap) (hm : len ≤ 140737488355328) (hm0 : cap ≤ 9223372036854775807) :
    Calls Tryd.prog 15 #[.slice a len cap] w (DR w (decL zs)) := by
  have no : decL zs = none → Calls Tryd.prog 15 #[.slice a len cap] w (fun e w' => e = .returned (.tuple #[.agg (recC rc0), .int .i64 10]) ∧ Below w.heap.size w w') → Calls Tryd.prog 15 #[.slice a len cap] w (DR w (decL zs)) := fun hn hc => by
    rw [hn]
    exact hc
  have hzl := h.1
  by_cases h0 : len = 0
  · subst h0
    exact no (decL_none (if_pos hzl)) (rdec_nil a cap w)
  · have h0' : 0 < len := by omega
    obtain ⟨P, u, e1, hr1⟩ : ∃ P u e, rt (zs.drop 1) 128 = (P, u, e) := ⟨_, _, _, rfl⟩
    by_cases he1 : e1 = 0
    · subst he1
      obtain ⟨G, v, e2, hr2⟩ : ∃ G v e, rt (zs.drop (1 + u)) 128 = (G, v, e) := ⟨_, _, _, rfl⟩
      by_cases he2 : e2 = 0
      · subst he2
        have hn : nmL zs = some (⟨(zs.getD 0 0 : Nat), uB P, uB G, zs32, 0⟩, zs.drop (1 + u + v)) := by
          unfold nmL
          rw [if_neg (by omega), hr1]
          simp only
          rw [if_neg (by omega), hr2]
          simp only
          rw [if_neg (by omega)]
        have e := decL_ref h.2.1 hn
        by_cases c1 : (zs.drop (1 + u + v)).length < 8
        · refine no (by rw [e, if_pos (.inl c1)]) ?_
          by_cases hz1 : zs.getD 0 0 = 1
          · exact rdec1_c1 a len cap zs w h h0' hcap hm hm0 P u hr1 G v hr2 hz1 c1
          · exact rdec0_c1 a len cap zs w h h0' hcap hm hm0 P u hr1 G v hr2 hz1 c1
        · by_cases c2 : 1099511627776 < Numm.num 0 ((zs.drop (1 + u + v)).drop ((zs.drop (1 + u + v)).length - 8))
          · refine no (by rw [e, if_pos (.inr (.inl c2))]) ?_
            by_cases hz1 : zs.getD 0 0 = 1
            · exact rdec1_c2 a len cap zs w h h0' hcap hm hm0 P u hr1 G v hr2 hz1 (by omega) c2
            · exact rdec0_c2 a len cap zs w h h0' hcap hm hm0 P u hr1 G v hr2 hz1 (by omega) c2
          · cases c3 : rightB (preL ⟨(zs.getD 0 0 : Nat), uB P, uB G, zs32, 0⟩ (zs.drop (1 + u + v))) with
            | false =>
              refine no (by rw [e, if_pos (.inr (.inr (.inl c3)))]) ?_
              by_cases hz1 : zs.getD 0 0 = 1
              · exact rdec1_c3 a len cap zs w h h0' hcap hm hm0 P u hr1 G v hr2 hz1 (by omega) (by omega) c3
              · exact rdec0_c3 a len cap zs w h h0' hcap hm hm0 P u hr1 G v hr2 hz1 (by omega) (by omega) c3
            | true =>
              by_cases c4 : encL (preL ⟨(zs.getD 0 0 : Nat), uB P, uB G, zs32, 0⟩ (zs.drop (1 + u + v))) = zs
              · rw [e, if_neg (by
                rintro (h | h | h | h)
                · exact c1 h
                · exact c2 h
                · rw [c3] at h; cases h
                · exact h c4)]
                by_cases hz1 : zs.getD 0 0 = 1
                · exact rdec1_c5 a len cap zs w h h0' hcap hm hm0 P u hr1 G v hr2 hz1 (by omega) (by omega) c3 c4
                · exact rdec0_c5 a len cap zs w h h0' hcap hm hm0 P u hr1 G v hr2 hz1 (by omega) (by omega) c3 c4
              · refine no (by rw [e, if_pos (.inr (.inr (.inr c4)))]) ?_
                by_cases hz1 : zs.getD 0 0 = 1
                · exact rdec1_c4 a len cap zs w h h0' hcap hm hm0 P u hr1 G v hr2 hz1 (by omega) (by omega) c3 c4
                · exact rdec0_c4 a len cap zs w h h0' hcap hm hm0 P u hr1 G v hr2 hz1 (by omega) (by omega) c3 c4
      · refine no (decL_none ?_) (rdec_t2 a len cap zs w h h0' hcap hm hm0 P u hr1 (by rw [hr2]; exact he2))
        unfold nmL
        rw [if_neg (by omega), hr1]
        simp only
        rw [if_neg (by omega), hr2]
        simp only
        rw [if_pos he2]
    · refine no (decL_none ?_) (rdec_t1 a len cap zs w h h0' hcap hm hm0 (by rw [hr1]; exact he1))
      unfold nmL
      rw [if_neg (by omega), hr1]
      simp only
      rw [if_pos he1]
end Go.Proofs.YtjjkfbebaoikbaaDoor.Rc
