/-
  The document's bytes of a head and of a record.
-/
import Derived.Test.YtjjkfbebaoikbaaDoorRcf
namespace Go.Proofs.YtjjkfbebaoikbaaDoor.Rc
open Go.RowKit Go.Proofs.Nm Go.Proofs.YtjjkfbebaoikbaaDoor
set_option linter.unusedVariables false
theorem wpList_toBytesR {w : World} {ops : Array Oper} {rest : List Oper} {o : Oper} {a : Act} {Q : Exit → Act → World → Prop} (hgd : o.guard = none) (x : Operand)
    (ho : o.op = .convert 9 25 x) (l : List UInt8) (hx : a.eval x = .string (T l)) (hs : l.length ≤ 140737488351232)
    (h : ∀ b c w', Rd w' (some ⟨b, 0, none⟩) l.length (sB l) → l.length ≤ c → w.heap.size ≤ b → Below w.heap.size w w' → wpList Tryd.prog ops Q rest (a.put o.dst (.slice (some ⟨b, 0, none⟩) l.length c)) w') : wpList Tryd.prog ops Q (o :: rest) a w := by
  refine wpList_plain hgd fun K hK => ?_
  exact wp_toBytesR x ho l hx hs fun b c w' h1 h2 h3 h4 => hK _ _ (h b c w' h1 h2 h3 h4)
set_option maxRecDepth 100000 in
set_option maxHeartbeats 4000000 in
theorem rencH_no (h : Hdv) (hd : dOk h.root) (hr : hrB h = false) (w : World) :
    Calls Tryd.prog 18 #[.agg (hdC h)] w fun e w' => e = .returned (.tuple #[.slice none 0 0, .int .i64 1]) ∧ Below w.heap.size w w' := by
  have HI := Lib.hid (show (Tryd.prog.info? 46).map (·.size) = some (hdC h).size from by rw [hdC_size hd]; exact info_qh)
  have HK := Lib.hid fun W => rrightH_c h hd W
  rw [hr] at HK
  obtain ⟨C, hC⟩ : ∃ C, C = hdC h := ⟨_, rfl⟩
  rw [← hC] at HI HK ⊢
  clear hC hd hr
  go_enter Tryd.func18, Tryd.ntmps18
  go_upto_region 1 with (fail)
  obtain ⟨g, hg⟩ : ∃ g, g = w.heap.size := ⟨_, rfl⟩
  refine gen_codeR (F := Bx w g 46 C) (by rw [hg]; exact Bx.new _ _ _) ?_
  rw [← hg]
  rintro w0 hb0
  have H0 := Lib.hid hb0
  clear hg hb0
  go_wp2_with (first | (refine wpList_loadg 46 _ (by rfl) (by rfl) (.pointer (some ⟨g, 0, none⟩)) (by rfl) (.agg C) (H0.out.1.load Tryd.underlying46 HI.out) ?_) | (go_at_call 22; (refine (HK.out _).mono ?_); rintro e w1 ⟨rfl, hb⟩; have H1 := Lib.hid (H0.out.step hb); clear hb))
  go_ret2
  exact ⟨rfl, H1.out.2⟩
/-- the bytes ahead of the sum's -/
theorem own_start (w w1 w2 : World) (n : Nat) (h2 : Below (w1.alloc (.cells #[.int .u8 (n : Int)] 5)).heap.size (w1.alloc (.cells #[.int .u8 (n : Int)] 5)) w2) : Own w2 w1.heap.size (.slice (some ⟨w1.heap.size, 0, none⟩) 1 1) [n] := (own_lay w1 n).keep h2
theorem Bx.stepB {w W W' : World} {g B : Nat} {t : TypeId} {C : Array Value} (h : Bx w g t C W) (hb : Below B W W') (hg : g < B) (hB : w.heap.size ≤ B) : Bx w g t C W' := ⟨(hb.block g hg).trans h.1, h.2.trans (hb.mono hB)⟩
set_option maxRecDepth 100000 in
set_option maxHeartbeats 8000000 in
theorem rencH_ok (N M : Nat) (root : List Nat) (hd : dOk root) (hN : N ≤ 1048576) (hM : M ≤ 1099511627776) (w : World) :
    Calls Tryd.prog 18 #[.agg (hdC ⟨N, root, M⟩)] w fun e w' => ∃ v, e = .returned (.tuple #[v, .int .i64 0]) ∧ Own w' w.heap.size v (hencL ⟨N, root, M⟩) ∧ Below w.heap.size w w' := by
  have hr : hrB ⟨N, root, M⟩ = true := by unfold hrB; simp only [Bool.and_eq_true, decide_eq_true_eq]; omega
  have HI := Lib.hid (show (Tryd.prog.info? 46).map (·.size) = some (hdC ⟨N, root, M⟩).size from by rw [hdC_size hd]; exact info_qh)
  have HK := Lib.hid fun W => rrightH_c ⟨N, root, M⟩ hd W
  rw [hr] at HK
  have HD := Lib.hid hd
  have HPN := Lib.hid fun W => (refPut_in N 8 W (by omega) (by omega) (by omega)).mono (RetB.form (Numm.put_byte _ _))
  have HPM := Lib.hid fun W => (refPut_in M 8 W (by omega) (by omega) (by omega)).mono (RetB.form (Numm.put_byte _ _))
  have hcN : IntKind.u64.wrap (N : Int) = (N : Int) := by
    show (N : Int) % 18446744073709551616 = _
    omega
  have hcM : IntKind.u64.wrap (M : Int) = (M : Int) := by
    show (M : Int) % 18446744073709551616 = _
    omega
  obtain ⟨C, hC⟩ : ∃ C, C = hdC ⟨N, root, M⟩ := ⟨_, rfl⟩
  rw [← hC] at HI HK ⊢
  have HC := Lib.hid hC
  clear hC hd hr hN hM
  go_enter Tryd.func18, Tryd.ntmps18
  go_upto_region 1 with (fail)
  obtain ⟨g, hg⟩ : ∃ g, g = w.heap.size := ⟨_, rfl⟩
  refine gen_codeR (F := Bx w g 46 C) (by rw [hg]; exact Bx.new _ _ _) ?_
  rw [← hg]
  rintro w0 hb0
  have H0 := Lib.hid hb0
  clear hg hb0
  go_wp2_with (first | (refine wpList_loadg 46 _ (by rfl) (by rfl) (.pointer (some ⟨g, 0, none⟩)) (by rfl) (.agg C) (H0.out.1.load Tryd.underlying46 HI.out) ?_) | (go_at_call 22; (refine (HK.out _).mono ?_); rintro e w1 ⟨rfl, hb⟩; have H1 := Lib.hid (H0.out.step hb); have r1 := H1.out.1.below ((Below.refl w1.heap.size w1).alloc (Nat.le_refl _) (.cells #[.int .u8 7] 5)); rw [HC.out] at r1; have c0 := r1.h0; clear r1 hb))
  clear c0 H0
  refine (HPN.out _).mono ?_
  rintro e w2 ⟨a13, n13, c13, rfl, hl, hlc, hcm, hn, hr, ho, hb⟩
  have HR := Lib.hid hr
  have HN := Lib.hid hn
  have hL : n13 = 8 := by rw [← hl, Numm.put_len]
  subst hL
  have HAL := Lib.hid ((Below.refl w1.heap.size w1).alloc (Nat.le_refl _) (.cells #[.int .u8 7] 5))
  have HOS := Lib.hid (own_start w w1 w2 7 hb)
  have H2 := Lib.hid (show Bx w g 46 (hdC ⟨N, root, M⟩) w2 from by rw [← HC.out]; exact (H1.out.step HAL.out).step hb)
  have HGB := Lib.hid H1.out.1.lt
  have HSB := Lib.hid H1.out.2.size
  have hsz : w1.heap.size ≤ w2.heap.size := Nat.le_trans HAL.out.size hb.size
  have hln : ([7] : List Nat).length + (Numm.put N 8).length ≤ 140737488355328 := by rw [Numm.put_len]; decide
  clear hl hlc hcm hn hr ho hb HPN H1 HI HK HAL
  go_wp2_with (at_builtin; refine wpList_cat rfl _ _ rfl w1.heap.size (.slice (some ⟨w1.heap.size, 0, none⟩) 1 1) [7] (Numm.put N 8) rfl HOS.out hsz a13 8 c13 rfl HR.out HN.out hln ?_; intro v3 w3 ho3 hb3; have HO3 := Lib.hid ho3; have H3 := Lib.hid (H2.out.stepB hb3 HGB.out HSB.out); have HZ3 := Lib.hid (Nat.le_trans hsz hb3.size); clear ho3 hb3)
  obtain ⟨pre, hpre⟩ : ∃ pre, pre = [7] ++ Numm.put N 8 := ⟨_, rfl⟩
  have HPRE := Lib.hid hpre
  have HPL := Lib.hid (show pre.length = 9 from by rw [hpre, List.length_append, Numm.put_len]; rfl)
  rw [← hpre] at HO3
  clear hpre HOS H2 HR HN hsz hln HC
  go_loopw [4, 5] (fun v i wr => ∃ k : Nat, k ≤ 32 ∧ i = .int .i64 k ∧ Hid (w1.heap.size ≤ wr.heap.size ∧ Own wr w1.heap.size v (pre ++ root.take k) ∧ Bx w g 46 (hdC ⟨N, root, M⟩) wr)) (fun _ i _ => 32 - (intOf i).toNat)
  case atStart => exact ⟨0, by omega, rfl, Lib.hid ⟨HZ3.out, by rw [List.take_zero, List.append_nil]; exact HO3.out, H3.out⟩⟩
  case round =>
    clear HO3 H3 HZ3
    obtain ⟨k, hk, rfl, HP⟩ := hrel
    by_cases hkl : k < 32
    · have ck : wr.cell? ⟨g, 1 + k, none⟩ = some (.int .u8 ((root.getD k 0 : Nat) : Int)) := HP.out.2.2.1.rootAt k _ (cellsOf_get root k (by rw [HD.out.1]; exact hkl) ▸ by
        rw [cellsOf_get _ _ (by rw [HD.out.1]; exact hkl), getD_at _ _ (by rw [HD.out.1]; exact hkl)])
      have hlen : (pre ++ root.take k).length + 1 ≤ 140737488355328 := by rw [List.length_append, HPL.out, List.length_take]; omega
      have HNX := Lib.hid (show root.take (k + 1) = root.take k ++ [root.getD k 0] from by rw [List.take_succ_eq_append_getElem (by rw [HD.out.1]; exact hkl), getD_at _ _ (by rw [HD.out.1]; exact hkl)])
      obtain ⟨z, hz⟩ : ∃ z, z = root.getD k 0 := ⟨_, rfl⟩
      rw [← hz] at ck HNX
      have hsz := HP.out.1
      clear hz
      go_wp2_with (at_builtin; (refine wpList_push rfl _ _ rfl w1.heap.size u4 (pre ++ root.take k) z _ rfl rfl HP.out.2.1 hsz rfl hlen ?_); intro v5 w5 ho5 hb5; have HO5 := Lib.hid (show Own w5 w1.heap.size v5 (pre ++ root.take (k + 1)) from by rw [HNX.out, ← List.append_assoc]; exact ho5); have H5 := Lib.hid (HP.out.2.2.stepB hb5 HGB.out HSB.out); have HZ5 := Lib.hid (Nat.le_trans hsz hb5.size); clear ho5 hb5)
      go_roundw
      case rel => exact ⟨k + 1, by omega, by go_num, Lib.hid ⟨HZ5.out, HO5.out, H5.out⟩⟩
      case measure => simp [intOf]; omega
    · obtain rfl : k = 32 := by omega
      have c33 := HP.out.2.2.1.h33 HD.out
      have HZZ := Lib.hid HP.out.1
      have HOO := Lib.hid HP.out.2.1
      have HBB := Lib.hid HP.out.2.2
      clear HP hkl hk
      go_wp2_with fail
      refine (HPM.out _).mono ?_
      rintro e w6 ⟨a30, n30, c30, rfl, hl, hlc, hcm, hn, hr, ho, hb⟩
      have HR := Lib.hid hr
      have HN := Lib.hid hn
      have HO6 := Lib.hid (HOO.out.keep hb)
      have H6 := Lib.hid (HBB.out.step hb)
      have hsz := Nat.le_trans HZZ.out hb.size
      have hln : (pre ++ root.take 32).length + (Numm.put M 8).length ≤ 140737488355328 := by rw [List.length_append, HPL.out, List.length_take, Numm.put_len]; omega
      clear hl hlc hcm hn hr ho hb c33 HOO HBB
      go_wp2_with (at_builtin; refine wpList_cat rfl _ _ rfl w1.heap.size u4 (pre ++ root.take 32) (Numm.put M 8) rfl HO6.out hsz a30 n30 c30 rfl HR.out HN.out hln ?_; intro v7 w7 ho7 hb7; have HO7 := Lib.hid ho7; have H7 := Lib.hid (H6.out.2.trans (hb7.mono HSB.out)); clear ho7 hb7)
      go_ret2
      refine ⟨_, rfl, ?_, H7.out⟩
      have e : (pre ++ root.take 32) ++ Numm.put M 8 = hencL ⟨N, root, M⟩ := by
        rw [HPRE.out, List.take_of_length_le (by rw [HD.out.1]; omega)]
        unfold hencL
        simp
      rw [← e]
      exact own_mono HO7.out HSB.out
set_option maxRecDepth 100000 in
set_option maxHeartbeats 4000000 in
theorem renc_no (r : Rcv) (hd : dOk r.dig) (hs : SzR r) (hr : rightB r = false) (w : World) :
    Calls Tryd.prog 9 #[.agg (recC r)] w fun e w' => e = .returned (.tuple #[.slice none 0 0, .int .i64 1]) ∧ Below w.heap.size w w' := by
  have HI := Lib.hid (show (Tryd.prog.info? 24).map (·.size) = some (recC r).size from by rw [recC_size hd]; exact info_q)
  have HK := Lib.hid fun W => rright_c r hd hs W
  rw [hr] at HK
  obtain ⟨C, hC⟩ : ∃ C, C = recC r := ⟨_, rfl⟩
  rw [← hC] at HI HK ⊢
  clear hC hd hr
  go_enter Tryd.func9, Tryd.ntmps9
  go_upto_region 1 with (fail)
  obtain ⟨g, hg⟩ : ∃ g, g = w.heap.size := ⟨_, rfl⟩
  refine gen_codeR (F := Bx w g 24 C) (by rw [hg]; exact Bx.new _ _ _) ?_
  rw [← hg]
  rintro w0 hb0
  have H0 := Lib.hid hb0
  clear hg hb0
  go_wp2_with (first | (refine wpList_loadg 24 _ (by rfl) (by rfl) (.pointer (some ⟨g, 0, none⟩)) (by rfl) (.agg C) (H0.out.1.load Tryd.underlying24 HI.out) ?_) | (go_at_call 12; (refine (HK.out _).mono ?_); rintro e w1 ⟨rfl, hb⟩; have H1 := Lib.hid (H0.out.step hb); clear hb))
  go_ret2
  exact ⟨rfl, H1.out.2⟩
set_option maxRecDepth 100000 in
set_option maxHeartbeats 8000000 in
theorem renc_ok1 (repo tag : List UInt8) (dig : List Nat) (M : Nat) (hd : dOk dig) (hr : rightB ⟨1, repo, tag, dig, M⟩ = true) (w : World) :
    Calls Tryd.prog 9 #[.agg (recC ⟨1, repo, tag, dig, M⟩)] w fun e w' => ∃ v, e = .returned (.tuple #[v, .int .i64 0]) ∧ Own w' w.heap.size v (encL ⟨1, repo, tag, dig, M⟩) ∧ Below w.heap.size w w' := by
  obtain ⟨-, hp2, hp3, -, hp5, -⟩ := right_parts hr
  simp only at hp2 hp3 hp5
  have HI := Lib.hid (show (Tryd.prog.info? 24).map (·.size) = some (recC ⟨1, repo, tag, dig, M⟩).size from by rw [recC_size hd]; exact info_q)
  have HK := Lib.hid fun W => rright_c ⟨1, repo, tag, dig, M⟩ hd ⟨by simp only; omega, by simp only; omega⟩ W
  rw [hr] at HK
  have HD := Lib.hid hd
  have HZR := Lib.hid (show repo.length ≤ 140737488351232 by omega)
  have HZG := Lib.hid (show tag.length ≤ 140737488351232 by omega)
  have HTLR := Lib.hid (show (txL (sB repo)).length ≤ 138 from by unfold txL; have := Cntm.cnt_len10 (sB repo).length (by rw [sB_len]; omega); rw [List.length_append]; have := sB_len repo; omega)
  have HTLG := Lib.hid (show (txL (sB tag)).length ≤ 138 from by unfold txL; have := Cntm.cnt_len10 (sB tag).length (by rw [sB_len]; omega); rw [List.length_append]; have := sB_len tag; omega)
  have HTBR : Hid (∀ z ∈ Cntm.cnt repo.length ++ sB repo, z < 256) := Lib.hid fun z hz => (List.mem_append.1 hz).elim (Cntm.cnt_byte _ z) (sB_byte _ z)
  have HTBG : Hid (∀ z ∈ Cntm.cnt tag.length ++ sB tag, z < 256) := Lib.hid fun z hz => (List.mem_append.1 hz).elim (Cntm.cnt_byte _ z) (sB_byte _ z)
  have HXR := Lib.hid (show Cntm.cnt repo.length ++ sB repo = txL (sB repo) from by unfold txL; rw [sB_len])
  have HXG := Lib.hid (show Cntm.cnt tag.length ++ sB tag = txL (sB tag) from by unfold txL; rw [sB_len])
  have HPM := Lib.hid fun W => (refPut_in M 8 W (by omega) (by omega) (by omega)).mono (RetB.form (Numm.put_byte _ _))
  have hcM : IntKind.u64.wrap (M : Int) = (M : Int) := by
    show (M : Int) % 18446744073709551616 = _
    omega
  have hc1 : IntKind.u8.wrap 1 = 1 := by decide
  obtain ⟨C, hC⟩ : ∃ C, C = recC ⟨1, repo, tag, dig, M⟩ := ⟨_, rfl⟩
  rw [← hC] at HI HK ⊢
  have HC := Lib.hid hC
  clear hC hd hr hp2 hp3 hp5
  go_enter Tryd.func9, Tryd.ntmps9
  go_upto_region 1 with (fail)
  obtain ⟨g, hg⟩ : ∃ g, g = w.heap.size := ⟨_, rfl⟩
  refine gen_codeR (F := Bx w g 24 C) (by rw [hg]; exact Bx.new _ _ _) ?_
  rw [← hg]
  rintro w0 hb0
  have H0 := Lib.hid hb0
  clear hg hb0
  go_wp2_with (first | (refine wpList_loadg 24 _ (by rfl) (by rfl) (.pointer (some ⟨g, 0, none⟩)) (by rfl) (.agg C) (H0.out.1.load Tryd.underlying24 HI.out) ?_) | (go_at_call 12; (refine (HK.out _).mono ?_); rintro e w1 ⟨rfl, hb⟩; have H1 := Lib.hid (H0.out.step hb); have HS1 := Lib.hid (show Bx w g 24 (recC ⟨1, repo, tag, dig, M⟩) w1 from by rw [← HC.out]; exact H1.out); have HGB := Lib.hid H1.out.1.lt; have HSB := Lib.hid H1.out.2.size; have c0 := HS1.out.1.c0; have HAL := Lib.hid ((Below.refl w1.heap.size w1).alloc (Nat.le_refl _) (.cells #[.int .u8 1] 5)); have c1 := (HS1.out.step HAL.out).1.c1; clear hb) | (refine wpList_toBytesR rfl _ rfl repo rfl HZR.out ?_; intro kb kc w2 hkr hkc hkb hb2; have HKR := Lib.hid hkr; have HOS := Lib.hid (own_start w w1 w2 1 hb2); have HS2 := Lib.hid ((HS1.out.step HAL.out).step hb2); have HZ2 := Lib.hid (Nat.le_trans HAL.out.size hb2.size); clear hkr hkc hkb hb2))
  clear c0 c1 H0 H1 HAL HS1 HI HK
  refine ((refText_c (some ⟨kb, 0, none⟩) repo.length kc (sB repo) w2 HKR.out HZR.out).mono (RetB.form HTBR.out)).mono ?_
  rintro e w3 ⟨a17, n17, c17, rfl, hl, hlc, hcm, hn, hr, ho, hb⟩
  have HR := Lib.hid (show Rd w3 a17 n17 (txL (sB repo)) from by rw [← HXR.out]; exact hr)
  have HN := Lib.hid hn
  have HOT := Lib.hid (HOS.out.keep hb)
  have HS3 := Lib.hid (HS2.out.step hb)
  have hsz := Nat.le_trans HZ2.out hb.size
  have hln : ([1] : List Nat).length + (txL (sB repo)).length ≤ 140737488355328 := by have := HTLR.out; simp only [List.length_singleton]; omega
  clear hl hlc hcm hn hr ho hb HOS HS2 HKR
  go_wp2_with (first | (at_builtin; refine wpList_cat rfl _ _ rfl w1.heap.size (.slice (some ⟨w1.heap.size, 0, none⟩) 1 1) [1] (txL (sB repo)) rfl HOT.out hsz a17 n17 c17 rfl HR.out HN.out hln ?_; intro v4 w4 ho4 hb4; have HO4 := Lib.hid ho4; have HS4 := Lib.hid (HS3.out.stepB hb4 HGB.out HSB.out); have HZ4 := Lib.hid (Nat.le_trans hsz hb4.size); have c2 := HS4.out.1.c2; clear ho4 hb4) | (refine wpList_toBytesR rfl _ rfl tag rfl HZG.out ?_; intro lb lc w5 hkr hkc hkb hb5; have HLR := Lib.hid hkr; have HO5 := Lib.hid (HO4.out.keep hb5); have HS5 := Lib.hid (HS4.out.step hb5); have HZ5 := Lib.hid (Nat.le_trans HZ4.out hb5.size); clear hkr hkc hkb hb5))
  clear c2 hsz hln HOT HS3 HR HN HO4 HS4 HZ2 HZ4
  refine ((refText_c (some ⟨lb, 0, none⟩) tag.length lc (sB tag) w5 HLR.out HZG.out).mono (RetB.form HTBG.out)).mono ?_
  rintro e w6 ⟨a23, n23, c23, rfl, hl, hlc, hcm, hn, hr, ho, hb⟩
  have HR := Lib.hid (show Rd w6 a23 n23 (txL (sB tag)) from by rw [← HXG.out]; exact hr)
  have HN := Lib.hid hn
  have HO6 := Lib.hid (HO5.out.keep hb)
  have HS6 := Lib.hid (HS5.out.step hb)
  have hsz := Nat.le_trans HZ5.out hb.size
  have hln : ([1] ++ txL (sB repo)).length + (txL (sB tag)).length ≤ 140737488355328 := by have := HTLR.out; have := HTLG.out; simp only [List.length_append, List.length_singleton]; omega
  clear hl hlc hcm hn hr ho hb HO5 HS5 HLR
  go_wp2_with (at_builtin; refine wpList_cat rfl _ _ rfl w1.heap.size v4 ([1] ++ txL (sB repo)) (txL (sB tag)) rfl HO6.out hsz a23 n23 c23 rfl HR.out HN.out hln ?_; intro v7 w7 ho7 hb7; have HO7 := Lib.hid ho7; have HS7 := Lib.hid (HS6.out.stepB hb7 HGB.out HSB.out); have HZ7 := Lib.hid (Nat.le_trans hsz hb7.size); clear ho7 hb7)
  obtain ⟨pre, hpre⟩ : ∃ pre, pre = [1] ++ txL (sB repo) ++ txL (sB tag) := ⟨_, rfl⟩
  have HPRE := Lib.hid hpre
  have HPL := Lib.hid (show pre.length ≤ 300 from by rw [hpre]; have := HTLR.out; have := HTLG.out; simp only [List.length_append, List.length_singleton]; omega)
  rw [← hpre] at HO7
  clear hpre HO6 HS6 HR HN hsz hln HC
  go_loopw [4, 5] (fun v i wr => ∃ k : Nat, k ≤ 32 ∧ i = .int .i64 k ∧ Hid (w1.heap.size ≤ wr.heap.size ∧ Own wr w1.heap.size v (pre ++ dig.take k) ∧ Bx w g 24 (recC ⟨1, repo, tag, dig, M⟩) wr)) (fun _ i _ => 32 - (intOf i).toNat)
  case atStart => exact ⟨0, by omega, rfl, Lib.hid ⟨HZ7.out, by rw [List.take_zero, List.append_nil]; exact HO7.out, HS7.out⟩⟩
  case round =>
    clear HO7 HS7 HZ7
    obtain ⟨k, hk, rfl, HP⟩ := hrel
    have c0 := HP.out.2.2.1.c0
    by_cases hkl : k < 32
    · have ck : wr.cell? ⟨g, 3 + k, none⟩ = some (.int .u8 ((dig.getD k 0 : Nat) : Int)) := HP.out.2.2.1.digAt k _ (cellsOf_get dig k (by rw [HD.out.1]; exact hkl) ▸ by
        rw [cellsOf_get _ _ (by rw [HD.out.1]; exact hkl), getD_at _ _ (by rw [HD.out.1]; exact hkl)])
      have hlen : (pre ++ dig.take k).length + 1 ≤ 140737488355328 := by have := HPL.out; rw [List.length_append, List.length_take]; omega
      have HNX := Lib.hid (show dig.take (k + 1) = dig.take k ++ [dig.getD k 0] from by rw [List.take_succ_eq_append_getElem (by rw [HD.out.1]; exact hkl), getD_at _ _ (by rw [HD.out.1]; exact hkl)])
      obtain ⟨z, hz⟩ : ∃ z, z = dig.getD k 0 := ⟨_, rfl⟩
      rw [← hz] at ck HNX
      have hsz := HP.out.1
      clear hz
      go_wp2_with (at_builtin; (refine wpList_push rfl _ _ rfl w1.heap.size u4 (pre ++ dig.take k) z _ rfl rfl HP.out.2.1 hsz rfl hlen ?_); intro v5 w5 ho5 hb5; have HO5 := Lib.hid (show Own w5 w1.heap.size v5 (pre ++ dig.take (k + 1)) from by rw [HNX.out, ← List.append_assoc]; exact ho5); have H5 := Lib.hid (HP.out.2.2.stepB hb5 HGB.out HSB.out); have HZ5 := Lib.hid (Nat.le_trans hsz hb5.size); clear ho5 hb5)
      go_roundw
      case rel => exact ⟨k + 1, by omega, by go_num, Lib.hid ⟨HZ5.out, HO5.out, H5.out⟩⟩
      case measure => simp [intOf]; omega
    · obtain rfl : k = 32 := by omega
      have c35 := HP.out.2.2.1.c35 HD.out
      have HZZ := Lib.hid HP.out.1
      have HOO := Lib.hid HP.out.2.1
      have HBB := Lib.hid HP.out.2.2
      clear HP hk
      go_wp2_with fail
      refine (HPM.out _).mono ?_
      rintro e w8 ⟨a45, n45, c45, rfl, hl, hlc, hcm, hn, hr, ho, hb⟩
      have HR := Lib.hid hr
      have HN := Lib.hid hn
      have HO8 := Lib.hid (HOO.out.keep hb)
      have H8 := Lib.hid (HBB.out.step hb)
      have hsz := Nat.le_trans HZZ.out hb.size
      have hln : (pre ++ dig.take 32).length + (Numm.put M 8).length ≤ 140737488355328 := by have := HPL.out; rw [List.length_append, List.length_take, Numm.put_len]; omega
      clear hl hlc hcm hn hr ho hb c35 c0 HOO HBB
      go_wp2_with (at_builtin; refine wpList_cat rfl _ _ rfl w1.heap.size u4 (pre ++ dig.take 32) (Numm.put M 8) rfl HO8.out hsz a45 n45 c45 rfl HR.out HN.out hln ?_; intro v9 w9 ho9 hb9; have HO9 := Lib.hid ho9; have H9 := Lib.hid (H8.out.2.trans (hb9.mono HSB.out)); clear ho9 hb9)
      go_ret2
      refine ⟨_, rfl, ?_, H9.out⟩
      have e : (pre ++ dig.take 32) ++ Numm.put M 8 = encL ⟨1, repo, tag, dig, M⟩ := by
        rw [HPRE.out, List.take_of_length_le (by rw [HD.out.1]; omega)]
        unfold encL
        simp
      rw [← e]
      exact own_mono HO9.out HSB.out
set_option maxRecDepth 100000 in
set_option maxHeartbeats 8000000 in
theorem renc_ok2 (repo tag : List UInt8) (dig : List Nat) (M : Nat) (hd : dOk dig) (hr : rightB ⟨2, repo, tag, dig, M⟩ = true) (w : World) :
    Calls Tryd.prog 9 #[.agg (recC ⟨2, repo, tag, dig, M⟩)] w fun e w' => ∃ v, e = .returned (.tuple #[v, .int .i64 0]) ∧ Own w' w.heap.size v (encL ⟨2, repo, tag, dig, M⟩) ∧ Below w.heap.size w w' := by
  obtain ⟨-, hp2, hp3, -, hp5, -⟩ := right_parts hr
  simp only at hp2 hp3 hp5
  have HI := Lib.hid (show (Tryd.prog.info? 24).map (·.size) = some (recC ⟨2, repo, tag, dig, M⟩).size from by rw [recC_size hd]; exact info_q)
  have HK := Lib.hid fun W => rright_c ⟨2, repo, tag, dig, M⟩ hd ⟨by simp only; omega, by simp only; omega⟩ W
  rw [hr] at HK
  have HD := Lib.hid hd
  have HZR := Lib.hid (show repo.length ≤ 140737488351232 by omega)
  have HZG := Lib.hid (show tag.length ≤ 140737488351232 by omega)
  have HTLR := Lib.hid (show (txL (sB repo)).length ≤ 138 from by unfold txL; have := Cntm.cnt_len10 (sB repo).length (by rw [sB_len]; omega); rw [List.length_append]; have := sB_len repo; omega)
  have HTLG := Lib.hid (show (txL (sB tag)).length ≤ 138 from by unfold txL; have := Cntm.cnt_len10 (sB tag).length (by rw [sB_len]; omega); rw [List.length_append]; have := sB_len tag; omega)
  have HTBR : Hid (∀ z ∈ Cntm.cnt repo.length ++ sB repo, z < 256) := Lib.hid fun z hz => (List.mem_append.1 hz).elim (Cntm.cnt_byte _ z) (sB_byte _ z)
  have HTBG : Hid (∀ z ∈ Cntm.cnt tag.length ++ sB tag, z < 256) := Lib.hid fun z hz => (List.mem_append.1 hz).elim (Cntm.cnt_byte _ z) (sB_byte _ z)
  have HXR := Lib.hid (show Cntm.cnt repo.length ++ sB repo = txL (sB repo) from by unfold txL; rw [sB_len])
  have HXG := Lib.hid (show Cntm.cnt tag.length ++ sB tag = txL (sB tag) from by unfold txL; rw [sB_len])
  have HPM := Lib.hid fun W => (refPut_in M 8 W (by omega) (by omega) (by omega)).mono (RetB.form (Numm.put_byte _ _))
  have hcM : IntKind.u64.wrap (M : Int) = (M : Int) := by
    show (M : Int) % 18446744073709551616 = _
    omega
  have hc2 : IntKind.u8.wrap 2 = 2 := by decide
  obtain ⟨C, hC⟩ : ∃ C, C = recC ⟨2, repo, tag, dig, M⟩ := ⟨_, rfl⟩
  rw [← hC] at HI HK ⊢
  have HC := Lib.hid hC
  clear hC hd hr hp2 hp3 hp5
  go_enter Tryd.func9, Tryd.ntmps9
  go_upto_region 1 with (fail)
  obtain ⟨g, hg⟩ : ∃ g, g = w.heap.size := ⟨_, rfl⟩
  refine gen_codeR (F := Bx w g 24 C) (by rw [hg]; exact Bx.new _ _ _) ?_
  rw [← hg]
  rintro w0 hb0
  have H0 := Lib.hid hb0
  clear hg hb0
  go_wp2_with (first | (refine wpList_loadg 24 _ (by rfl) (by rfl) (.pointer (some ⟨g, 0, none⟩)) (by rfl) (.agg C) (H0.out.1.load Tryd.underlying24 HI.out) ?_) | (go_at_call 12; (refine (HK.out _).mono ?_); rintro e w1 ⟨rfl, hb⟩; have H1 := Lib.hid (H0.out.step hb); have HS1 := Lib.hid (show Bx w g 24 (recC ⟨2, repo, tag, dig, M⟩) w1 from by rw [← HC.out]; exact H1.out); have HGB := Lib.hid H1.out.1.lt; have HSB := Lib.hid H1.out.2.size; have c0 := HS1.out.1.c0; have HAL := Lib.hid ((Below.refl w1.heap.size w1).alloc (Nat.le_refl _) (.cells #[.int .u8 2] 5)); have c1 := (HS1.out.step HAL.out).1.c1; clear hb) | (refine wpList_toBytesR rfl _ rfl repo rfl HZR.out ?_; intro kb kc w2 hkr hkc hkb hb2; have HKR := Lib.hid hkr; have HOS := Lib.hid (own_start w w1 w2 2 hb2); have HS2 := Lib.hid ((HS1.out.step HAL.out).step hb2); have HZ2 := Lib.hid (Nat.le_trans HAL.out.size hb2.size); clear hkr hkc hkb hb2))
  clear c0 c1 H0 H1 HAL HS1 HI HK
  refine ((refText_c (some ⟨kb, 0, none⟩) repo.length kc (sB repo) w2 HKR.out HZR.out).mono (RetB.form HTBR.out)).mono ?_
  rintro e w3 ⟨a17, n17, c17, rfl, hl, hlc, hcm, hn, hr, ho, hb⟩
  have HR := Lib.hid (show Rd w3 a17 n17 (txL (sB repo)) from by rw [← HXR.out]; exact hr)
  have HN := Lib.hid hn
  have HOT := Lib.hid (HOS.out.keep hb)
  have HS3 := Lib.hid (HS2.out.step hb)
  have hsz := Nat.le_trans HZ2.out hb.size
  have hln : ([2] : List Nat).length + (txL (sB repo)).length ≤ 140737488355328 := by have := HTLR.out; simp only [List.length_singleton]; omega
  clear hl hlc hcm hn hr ho hb HOS HS2 HKR
  go_wp2_with (first | (at_builtin; refine wpList_cat rfl _ _ rfl w1.heap.size (.slice (some ⟨w1.heap.size, 0, none⟩) 1 1) [2] (txL (sB repo)) rfl HOT.out hsz a17 n17 c17 rfl HR.out HN.out hln ?_; intro v4 w4 ho4 hb4; have HO4 := Lib.hid ho4; have HS4 := Lib.hid (HS3.out.stepB hb4 HGB.out HSB.out); have HZ4 := Lib.hid (Nat.le_trans hsz hb4.size); have c2 := HS4.out.1.c2; clear ho4 hb4) | (refine wpList_toBytesR rfl _ rfl tag rfl HZG.out ?_; intro lb lc w5 hkr hkc hkb hb5; have HLR := Lib.hid hkr; have HO5 := Lib.hid (HO4.out.keep hb5); have HS5 := Lib.hid (HS4.out.step hb5); have HZ5 := Lib.hid (Nat.le_trans HZ4.out hb5.size); clear hkr hkc hkb hb5))
  clear c2 hsz hln HOT HS3 HR HN HO4 HS4 HZ2 HZ4
  refine ((refText_c (some ⟨lb, 0, none⟩) tag.length lc (sB tag) w5 HLR.out HZG.out).mono (RetB.form HTBG.out)).mono ?_
  rintro e w6 ⟨a23, n23, c23, rfl, hl, hlc, hcm, hn, hr, ho, hb⟩
  have HR := Lib.hid (show Rd w6 a23 n23 (txL (sB tag)) from by rw [← HXG.out]; exact hr)
  have HN := Lib.hid hn
  have HO6 := Lib.hid (HO5.out.keep hb)
  have HS6 := Lib.hid (HS5.out.step hb)
  have hsz := Nat.le_trans HZ5.out hb.size
  have hln : ([2] ++ txL (sB repo)).length + (txL (sB tag)).length ≤ 140737488355328 := by have := HTLR.out; have := HTLG.out; simp only [List.length_append, List.length_singleton]; omega
  clear hl hlc hcm hn hr ho hb HO5 HS5 HLR
  go_wp2_with (at_builtin; refine wpList_cat rfl _ _ rfl w1.heap.size v4 ([2] ++ txL (sB repo)) (txL (sB tag)) rfl HO6.out hsz a23 n23 c23 rfl HR.out HN.out hln ?_; intro v7 w7 ho7 hb7; have HO7 := Lib.hid ho7; have HS7 := Lib.hid (HS6.out.stepB hb7 HGB.out HSB.out); have HZ7 := Lib.hid (Nat.le_trans hsz hb7.size); clear ho7 hb7)
  obtain ⟨pre, hpre⟩ : ∃ pre, pre = [2] ++ txL (sB repo) ++ txL (sB tag) := ⟨_, rfl⟩
  have HPRE := Lib.hid hpre
  have HPL := Lib.hid (show pre.length ≤ 300 from by rw [hpre]; have := HTLR.out; have := HTLG.out; simp only [List.length_append, List.length_singleton]; omega)
  rw [← hpre] at HO7
  clear hpre HO6 HS6 HR HN hsz hln HC
  go_loopw [4, 5] (fun v i wr => ∃ k : Nat, k ≤ 0 ∧ i = .int .i64 k ∧ Hid (w1.heap.size ≤ wr.heap.size ∧ Own wr w1.heap.size v (pre) ∧ Bx w g 24 (recC ⟨2, repo, tag, dig, M⟩) wr)) (fun _ i _ => 32 - (intOf i).toNat)
  case atStart => exact ⟨0, by omega, rfl, Lib.hid ⟨HZ7.out, HO7.out, HS7.out⟩⟩
  case round =>
    clear HO7 HS7 HZ7
    obtain ⟨k, hk, rfl, HP⟩ := hrel
    have c0 := HP.out.2.2.1.c0
    · obtain rfl : k = 0 := by omega
      have c35 := HP.out.2.2.1.c35 HD.out
      have HZZ := Lib.hid HP.out.1
      have HOO := Lib.hid HP.out.2.1
      have HBB := Lib.hid HP.out.2.2
      clear HP hk
      go_wp2_with fail
      refine (HPM.out _).mono ?_
      rintro e w8 ⟨a45, n45, c45, rfl, hl, hlc, hcm, hn, hr, ho, hb⟩
      have HR := Lib.hid hr
      have HN := Lib.hid hn
      have HO8 := Lib.hid (HOO.out.keep hb)
      have H8 := Lib.hid (HBB.out.step hb)
      have hsz := Nat.le_trans HZZ.out hb.size
      have hln : (pre).length + (Numm.put M 8).length ≤ 140737488355328 := by have := HPL.out; rw [Numm.put_len]; omega
      clear hl hlc hcm hn hr ho hb c35 c0 HOO HBB
      go_wp2_with (at_builtin; refine wpList_cat rfl _ _ rfl w1.heap.size u4 (pre) (Numm.put M 8) rfl HO8.out hsz a45 n45 c45 rfl HR.out HN.out hln ?_; intro v9 w9 ho9 hb9; have HO9 := Lib.hid ho9; have H9 := Lib.hid (H8.out.2.trans (hb9.mono HSB.out)); clear ho9 hb9)
      go_ret2
      refine ⟨_, rfl, ?_, H9.out⟩
      have e : (pre) ++ Numm.put M 8 = encL ⟨2, repo, tag, dig, M⟩ := by
        rw [HPRE.out]
        unfold encL
        simp
      rw [← e]
      exact own_mono HO9.out HSB.out
end Go.Proofs.YtjjkfbebaoikbaaDoor.Rc
