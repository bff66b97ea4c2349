/-
  The document's look at a record and a head; a number's bytes, and the number of eight bytes.
-/
import Derived.Test.YtjjkfbebaoikbaaDoorRcc
namespace Go.Proofs.YtjjkfbebaoikbaaDoor.Rc
open Go.RowKit Go.Proofs.Nm Go.Proofs.YtjjkfbebaoikbaaDoor
set_option linter.unusedVariables false
set_option maxRecDepth 100000 in
set_option maxHeartbeats 1000000 in
theorem number_c (n : Nat) (w : World) (hn : n ≤ 9223372036854775807) : Calls Tryd.prog 25 #[.int .i64 (n : Int)] w (RetB w.heap.size w (Numm.put n 8)) := by
  have hcv : IntKind.u64.wrap (n : Int) = (n : Int) := by
    show (n : Int) % 18446744073709551616 = _
    omega
  have HP := Lib.hid (put_in n 8 w (by omega) (by omega))
  go_enter Tryd.func25, Tryd.ntmps25
  go_wp2_with fail
  refine HP.out.mono ?_
  rintro e1 w1 ⟨v1, rfl, ho1, hb1⟩
  go_wp2_with fail
  go_ret
  exact ⟨_, rfl, ho1, hb1⟩
set_option maxRecDepth 100000 in
set_option maxHeartbeats 1000000 in
theorem readNum_c (a : Option Addr) (cap : Nat) (zs : List Nat) (m : Nat) (w : World) (h : Rd w a 8 zs) (hm : m ≤ 9223372036854775807) :
    Calls Tryd.prog 35 #[.slice a 8 cap, .int .i64 (m : Int)] w fun e w' => e = .returned (.tuple #[.int .i64 ((if Numm.num 0 zs ≤ m then Numm.num 0 zs else 0 : Nat) : Int), .bool (decide (Numm.num 0 zs ≤ m))]) ∧ w = w' := by
  have hlt := Numm.num_lt zs h.2.1
  rw [h.1] at hlt
  have HG := Lib.hid (get_c a 8 cap zs w h (by omega))
  obtain ⟨N, hN⟩ : ∃ N, N = Numm.num 0 zs := ⟨_, rfl⟩
  rw [← hN] at HG hlt ⊢
  clear hN h
  have hN2 : N < 18446744073709551616 := by omega
  clear hlt
  have hcm : IntKind.u64.wrap (m : Int) = (m : Int) := by
    show (m : Int) % 18446744073709551616 = _
    omega
  by_cases hle : N ≤ m
  · have hgt : ¬ (m : Int) < (N : Int) := by omega
    have hcn : wrap64 (N : Int) = (N : Int) := IntWalk.wrap64_in _ (by omega)
    rw [if_pos hle, decide_eq_true hle]
    go_enter Tryd.func35, Tryd.ntmps35
    go_wp2_with fail
    refine HG.out.mono ?_
    rintro e1 w1 ⟨rfl, rfl⟩
    go_wp2_with fail
    go_ret2
    exact ⟨rfl, rfl⟩
  · have hgt : (m : Int) < (N : Int) := by omega
    rw [if_neg hle, decide_eq_false hle]
    go_enter Tryd.func35, Tryd.ntmps35
    go_wp2_with fail
    refine HG.out.mono ?_
    rintro e1 w1 ⟨rfl, rfl⟩
    go_wp2_with fail
    go_ret2
    exact ⟨rfl, rfl⟩
set_option maxRecDepth 100000 in
set_option maxHeartbeats 8000000 in
theorem rright_c (r : Rcv) (hd : dOk r.dig) (hs : SzR r) (w : World) :
    Calls Tryd.prog 12 #[.agg (recC r)] w fun e w' => e = .returned (.bool (rightB r)) ∧ Below w.heap.size w w' := by
  have HRP := Lib.hid fun W => risRepo_c r.repo W hs.1
  have HTG := Lib.hid fun W => risTag_c r.tag W hs.2
  have HD := Lib.hid hd
  have HRB := Lib.hid (show rightB r = ((decide (r.k = 1) || (decide (r.k = 2) && decide (r.dig = zs32))) && repoB r.repo && tgB r.tag && decide (0 ≤ r.t ∧ r.t ≤ 1099511627776)) from rfl)
  have HBU := Lib.hid built_dr
  clear hd hs
  by_cases i1 : r.k = 1
  · have i9 : True := trivial
    cases hk2 : repoB r.repo with
    | false =>
      rw [hk2] at HRP
      rw [show rightB r = false from by rw [HRB.out]; rw [hk2]; simp [i1]]
      obtain ⟨C, hC⟩ : ∃ C, C = recC r := ⟨_, rfl⟩
      rw [← hC]
      have HC := Lib.hid hC
      clear hC HRB
      go_enter Tryd.func12, Tryd.ntmps12
      go_upto_region 1 with (fail)
      obtain ⟨g, hg⟩ : ∃ g, g = w.heap.size := ⟨_, rfl⟩
      refine gen_codeR (F := Bx w g 24 C) (by rw [hg]; exact Bx.new _ _ _) ?_
      rw [← hg]
      rintro w0 hb0
      have r1 := hb0.1
      rw [HC.out] at r1
      have c0 := r1.c0
      have c1 := r1.c1
      have c2 := r1.c2
      have c35 := r1.c35 HD.out
      have H0 := Lib.hid hb0
      clear hg hb0 r1 HC
      go_wp2_with (go_at_call 32; (refine (HRP.out _).mono ?_); rintro e w2 ⟨rfl, rfl⟩)
      go_ret
      refine ⟨?_, H0.out.2⟩
      first | rfl | exact ret_bool (decide_eq_false (by omega))
    | true =>
      rw [hk2] at HRP
      cases hk3 : tgB r.tag with
      | false =>
        rw [hk3] at HTG
        rw [show rightB r = false from by rw [HRB.out]; rw [hk2, hk3]; simp [i1]]
        obtain ⟨C, hC⟩ : ∃ C, C = recC r := ⟨_, rfl⟩
        rw [← hC]
        have HC := Lib.hid hC
        clear hC HRB
        go_enter Tryd.func12, Tryd.ntmps12
        go_upto_region 1 with (fail)
        obtain ⟨g, hg⟩ : ∃ g, g = w.heap.size := ⟨_, rfl⟩
        refine gen_codeR (F := Bx w g 24 C) (by rw [hg]; exact Bx.new _ _ _) ?_
        rw [← hg]
        rintro w0 hb0
        have r1 := hb0.1
        rw [HC.out] at r1
        have c0 := r1.c0
        have c1 := r1.c1
        have c2 := r1.c2
        have c35 := r1.c35 HD.out
        have H0 := Lib.hid hb0
        clear hg hb0 r1 HC
        go_wp2_with (first | (go_at_call 32; (refine (HRP.out _).mono ?_); rintro e w2 ⟨rfl, rfl⟩) | (go_at_call 33; (refine (HTG.out _).mono ?_); rintro e w3 ⟨rfl, rfl⟩))
        go_ret
        refine ⟨?_, H0.out.2⟩
        first | rfl | exact ret_bool (decide_eq_false (by omega))
      | true =>
        rw [hk3] at HTG
        by_cases j1 : 0 ≤ r.t
        · by_cases j2 : r.t ≤ 1099511627776
          · rw [show rightB r = true from by rw [HRB.out]; rw [hk2, hk3, decide_eq_true (p := 0 ≤ r.t ∧ r.t ≤ 1099511627776) ⟨j1, j2⟩]; simp [i1]]
            obtain ⟨C, hC⟩ : ∃ C, C = recC r := ⟨_, rfl⟩
            rw [← hC]
            have HC := Lib.hid hC
            clear hC HRB
            go_enter Tryd.func12, Tryd.ntmps12
            go_upto_region 1 with (fail)
            obtain ⟨g, hg⟩ : ∃ g, g = w.heap.size := ⟨_, rfl⟩
            refine gen_codeR (F := Bx w g 24 C) (by rw [hg]; exact Bx.new _ _ _) ?_
            rw [← hg]
            rintro w0 hb0
            have r1 := hb0.1
            rw [HC.out] at r1
            have c0 := r1.c0
            have c1 := r1.c1
            have c2 := r1.c2
            have c35 := r1.c35 HD.out
            have H0 := Lib.hid hb0
            clear hg hb0 r1 HC
            go_wp2_with (first | (go_at_call 32; (refine (HRP.out _).mono ?_); rintro e w2 ⟨rfl, rfl⟩) | (go_at_call 33; (refine (HTG.out _).mono ?_); rintro e w3 ⟨rfl, rfl⟩))
            go_ret
            refine ⟨?_, H0.out.2⟩
            first | rfl | exact ret_bool (decide_eq_false (by omega))
          · rw [show rightB r = false from by rw [HRB.out]; rw [hk2, hk3, decide_eq_false (p := 0 ≤ r.t ∧ r.t ≤ 1099511627776) (by omega)]; simp [i1]]
            obtain ⟨C, hC⟩ : ∃ C, C = recC r := ⟨_, rfl⟩
            rw [← hC]
            have HC := Lib.hid hC
            clear hC HRB
            go_enter Tryd.func12, Tryd.ntmps12
            go_upto_region 1 with (fail)
            obtain ⟨g, hg⟩ : ∃ g, g = w.heap.size := ⟨_, rfl⟩
            refine gen_codeR (F := Bx w g 24 C) (by rw [hg]; exact Bx.new _ _ _) ?_
            rw [← hg]
            rintro w0 hb0
            have r1 := hb0.1
            rw [HC.out] at r1
            have c0 := r1.c0
            have c1 := r1.c1
            have c2 := r1.c2
            have c35 := r1.c35 HD.out
            have H0 := Lib.hid hb0
            clear hg hb0 r1 HC
            go_wp2_with (first | (go_at_call 32; (refine (HRP.out _).mono ?_); rintro e w2 ⟨rfl, rfl⟩) | (go_at_call 33; (refine (HTG.out _).mono ?_); rintro e w3 ⟨rfl, rfl⟩))
            go_ret
            refine ⟨?_, H0.out.2⟩
            first | rfl | exact ret_bool (decide_eq_false (by omega))
        · rw [show rightB r = false from by rw [HRB.out]; rw [hk2, hk3, decide_eq_false (p := 0 ≤ r.t ∧ r.t ≤ 1099511627776) (by omega)]; simp [i1]]
          obtain ⟨C, hC⟩ : ∃ C, C = recC r := ⟨_, rfl⟩
          rw [← hC]
          have HC := Lib.hid hC
          clear hC HRB
          go_enter Tryd.func12, Tryd.ntmps12
          go_upto_region 1 with (fail)
          obtain ⟨g, hg⟩ : ∃ g, g = w.heap.size := ⟨_, rfl⟩
          refine gen_codeR (F := Bx w g 24 C) (by rw [hg]; exact Bx.new _ _ _) ?_
          rw [← hg]
          rintro w0 hb0
          have r1 := hb0.1
          rw [HC.out] at r1
          have c0 := r1.c0
          have c1 := r1.c1
          have c2 := r1.c2
          have c35 := r1.c35 HD.out
          have H0 := Lib.hid hb0
          clear hg hb0 r1 HC
          go_wp2_with (first | (go_at_call 32; (refine (HRP.out _).mono ?_); rintro e w2 ⟨rfl, rfl⟩) | (go_at_call 33; (refine (HTG.out _).mono ?_); rintro e w3 ⟨rfl, rfl⟩))
          go_ret
          refine ⟨?_, H0.out.2⟩
          first | rfl | exact ret_bool (decide_eq_false (by omega))
  · by_cases i2 : r.k = 2
    · by_cases i3 : r.dig = zs32
      · have HI3 := Lib.hid i3
        clear i3
        cases hk2 : repoB r.repo with
        | false =>
          rw [hk2] at HRP
          rw [show rightB r = false from by rw [HRB.out]; rw [hk2]; simp [i2, HI3.out]]
          obtain ⟨C, hC⟩ : ∃ C, C = recC r := ⟨_, rfl⟩
          rw [← hC]
          have HC := Lib.hid hC
          clear hC HRB
          go_enter Tryd.func12, Tryd.ntmps12
          go_upto_region 1 with (fail)
          obtain ⟨g, hg⟩ : ∃ g, g = w.heap.size := ⟨_, rfl⟩
          refine gen_codeR (F := Bx w g 24 C) (by rw [hg]; exact Bx.new _ _ _) ?_
          rw [← hg]
          rintro w0 hb0
          have r1 := hb0.1
          rw [HC.out] at r1
          have c0 := r1.c0
          have c1 := r1.c1
          have c2 := r1.c2
          have c35 := r1.c35 HD.out
          have HR := Lib.hid r1.digAt
          have HE := Lib.hid (eq_dig 22 32 9998 und_dr w0 r.dig zs32 HD.out.1 zs32_len HD.out.2 dOk_zs.2)
          rw [decide_eq_true HI3.out] at HE
          have H0 := Lib.hid hb0
          clear hg hb0 r1 HC
          go_wp2_with (first | (refine wpList_runR (by rfl) _ (exec_ldMid HR.out HD.out.1 und_dr info_dr (by rfl) _ rfl) ?_) | (refine wpList_runR (by rfl) _ (exec_neqS eqg_dr HE.out (by rfl) (by rfl) _ rfl) ?_) | (go_at_call 32; (refine (HRP.out _).mono ?_); rintro e w2 ⟨rfl, rfl⟩))
          go_ret
          refine ⟨?_, H0.out.2⟩
          first | rfl | exact ret_bool (decide_eq_false (by omega))
        | true =>
          rw [hk2] at HRP
          cases hk3 : tgB r.tag with
          | false =>
            rw [hk3] at HTG
            rw [show rightB r = false from by rw [HRB.out]; rw [hk2, hk3]; simp [i2, HI3.out]]
            obtain ⟨C, hC⟩ : ∃ C, C = recC r := ⟨_, rfl⟩
            rw [← hC]
            have HC := Lib.hid hC
            clear hC HRB
            go_enter Tryd.func12, Tryd.ntmps12
            go_upto_region 1 with (fail)
            obtain ⟨g, hg⟩ : ∃ g, g = w.heap.size := ⟨_, rfl⟩
            refine gen_codeR (F := Bx w g 24 C) (by rw [hg]; exact Bx.new _ _ _) ?_
            rw [← hg]
            rintro w0 hb0
            have r1 := hb0.1
            rw [HC.out] at r1
            have c0 := r1.c0
            have c1 := r1.c1
            have c2 := r1.c2
            have c35 := r1.c35 HD.out
            have HR := Lib.hid r1.digAt
            have HE := Lib.hid (eq_dig 22 32 9998 und_dr w0 r.dig zs32 HD.out.1 zs32_len HD.out.2 dOk_zs.2)
            rw [decide_eq_true HI3.out] at HE
            have H0 := Lib.hid hb0
            clear hg hb0 r1 HC
            go_wp2_with (first | (refine wpList_runR (by rfl) _ (exec_ldMid HR.out HD.out.1 und_dr info_dr (by rfl) _ rfl) ?_) | (refine wpList_runR (by rfl) _ (exec_neqS eqg_dr HE.out (by rfl) (by rfl) _ rfl) ?_) | (go_at_call 32; (refine (HRP.out _).mono ?_); rintro e w2 ⟨rfl, rfl⟩) | (go_at_call 33; (refine (HTG.out _).mono ?_); rintro e w3 ⟨rfl, rfl⟩))
            go_ret
            refine ⟨?_, H0.out.2⟩
            first | rfl | exact ret_bool (decide_eq_false (by omega))
          | true =>
            rw [hk3] at HTG
            by_cases j1 : 0 ≤ r.t
            · by_cases j2 : r.t ≤ 1099511627776
              · rw [show rightB r = true from by rw [HRB.out]; rw [hk2, hk3, decide_eq_true (p := 0 ≤ r.t ∧ r.t ≤ 1099511627776) ⟨j1, j2⟩]; simp [i2, HI3.out]]
                obtain ⟨C, hC⟩ : ∃ C, C = recC r := ⟨_, rfl⟩
                rw [← hC]
                have HC := Lib.hid hC
                clear hC HRB
                go_enter Tryd.func12, Tryd.ntmps12
                go_upto_region 1 with (fail)
                obtain ⟨g, hg⟩ : ∃ g, g = w.heap.size := ⟨_, rfl⟩
                refine gen_codeR (F := Bx w g 24 C) (by rw [hg]; exact Bx.new _ _ _) ?_
                rw [← hg]
                rintro w0 hb0
                have r1 := hb0.1
                rw [HC.out] at r1
                have c0 := r1.c0
                have c1 := r1.c1
                have c2 := r1.c2
                have c35 := r1.c35 HD.out
                have HR := Lib.hid r1.digAt
                have HE := Lib.hid (eq_dig 22 32 9998 und_dr w0 r.dig zs32 HD.out.1 zs32_len HD.out.2 dOk_zs.2)
                rw [decide_eq_true HI3.out] at HE
                have H0 := Lib.hid hb0
                clear hg hb0 r1 HC
                go_wp2_with (first | (refine wpList_runR (by rfl) _ (exec_ldMid HR.out HD.out.1 und_dr info_dr (by rfl) _ rfl) ?_) | (refine wpList_runR (by rfl) _ (exec_neqS eqg_dr HE.out (by rfl) (by rfl) _ rfl) ?_) | (go_at_call 32; (refine (HRP.out _).mono ?_); rintro e w2 ⟨rfl, rfl⟩) | (go_at_call 33; (refine (HTG.out _).mono ?_); rintro e w3 ⟨rfl, rfl⟩))
                go_ret
                refine ⟨?_, H0.out.2⟩
                first | rfl | exact ret_bool (decide_eq_false (by omega))
              · rw [show rightB r = false from by rw [HRB.out]; rw [hk2, hk3, decide_eq_false (p := 0 ≤ r.t ∧ r.t ≤ 1099511627776) (by omega)]; simp [i2, HI3.out]]
                obtain ⟨C, hC⟩ : ∃ C, C = recC r := ⟨_, rfl⟩
                rw [← hC]
                have HC := Lib.hid hC
                clear hC HRB
                go_enter Tryd.func12, Tryd.ntmps12
                go_upto_region 1 with (fail)
                obtain ⟨g, hg⟩ : ∃ g, g = w.heap.size := ⟨_, rfl⟩
                refine gen_codeR (F := Bx w g 24 C) (by rw [hg]; exact Bx.new _ _ _) ?_
                rw [← hg]
                rintro w0 hb0
                have r1 := hb0.1
                rw [HC.out] at r1
                have c0 := r1.c0
                have c1 := r1.c1
                have c2 := r1.c2
                have c35 := r1.c35 HD.out
                have HR := Lib.hid r1.digAt
                have HE := Lib.hid (eq_dig 22 32 9998 und_dr w0 r.dig zs32 HD.out.1 zs32_len HD.out.2 dOk_zs.2)
                rw [decide_eq_true HI3.out] at HE
                have H0 := Lib.hid hb0
                clear hg hb0 r1 HC
                go_wp2_with (first | (refine wpList_runR (by rfl) _ (exec_ldMid HR.out HD.out.1 und_dr info_dr (by rfl) _ rfl) ?_) | (refine wpList_runR (by rfl) _ (exec_neqS eqg_dr HE.out (by rfl) (by rfl) _ rfl) ?_) | (go_at_call 32; (refine (HRP.out _).mono ?_); rintro e w2 ⟨rfl, rfl⟩) | (go_at_call 33; (refine (HTG.out _).mono ?_); rintro e w3 ⟨rfl, rfl⟩))
                go_ret
                refine ⟨?_, H0.out.2⟩
                first | rfl | exact ret_bool (decide_eq_false (by omega))
            · rw [show rightB r = false from by rw [HRB.out]; rw [hk2, hk3, decide_eq_false (p := 0 ≤ r.t ∧ r.t ≤ 1099511627776) (by omega)]; simp [i2, HI3.out]]
              obtain ⟨C, hC⟩ : ∃ C, C = recC r := ⟨_, rfl⟩
              rw [← hC]
              have HC := Lib.hid hC
              clear hC HRB
              go_enter Tryd.func12, Tryd.ntmps12
              go_upto_region 1 with (fail)
              obtain ⟨g, hg⟩ : ∃ g, g = w.heap.size := ⟨_, rfl⟩
              refine gen_codeR (F := Bx w g 24 C) (by rw [hg]; exact Bx.new _ _ _) ?_
              rw [← hg]
              rintro w0 hb0
              have r1 := hb0.1
              rw [HC.out] at r1
              have c0 := r1.c0
              have c1 := r1.c1
              have c2 := r1.c2
              have c35 := r1.c35 HD.out
              have HR := Lib.hid r1.digAt
              have HE := Lib.hid (eq_dig 22 32 9998 und_dr w0 r.dig zs32 HD.out.1 zs32_len HD.out.2 dOk_zs.2)
              rw [decide_eq_true HI3.out] at HE
              have H0 := Lib.hid hb0
              clear hg hb0 r1 HC
              go_wp2_with (first | (refine wpList_runR (by rfl) _ (exec_ldMid HR.out HD.out.1 und_dr info_dr (by rfl) _ rfl) ?_) | (refine wpList_runR (by rfl) _ (exec_neqS eqg_dr HE.out (by rfl) (by rfl) _ rfl) ?_) | (go_at_call 32; (refine (HRP.out _).mono ?_); rintro e w2 ⟨rfl, rfl⟩) | (go_at_call 33; (refine (HTG.out _).mono ?_); rintro e w3 ⟨rfl, rfl⟩))
              go_ret
              refine ⟨?_, H0.out.2⟩
              first | rfl | exact ret_bool (decide_eq_false (by omega))
      · rw [show rightB r = false from by rw [HRB.out]; rw [decide_eq_false i3]; simp [i1]]
        obtain ⟨C, hC⟩ : ∃ C, C = recC r := ⟨_, rfl⟩
        rw [← hC]
        have HC := Lib.hid hC
        clear hC HRB
        go_enter Tryd.func12, Tryd.ntmps12
        go_upto_region 1 with (fail)
        obtain ⟨g, hg⟩ : ∃ g, g = w.heap.size := ⟨_, rfl⟩
        refine gen_codeR (F := Bx w g 24 C) (by rw [hg]; exact Bx.new _ _ _) ?_
        rw [← hg]
        rintro w0 hb0
        have r1 := hb0.1
        rw [HC.out] at r1
        have c0 := r1.c0
        have c1 := r1.c1
        have c2 := r1.c2
        have c35 := r1.c35 HD.out
        have HR := Lib.hid r1.digAt
        have HE := Lib.hid (eq_dig 22 32 9998 und_dr w0 r.dig zs32 HD.out.1 zs32_len HD.out.2 dOk_zs.2)
        rw [decide_eq_false i3] at HE
        have H0 := Lib.hid hb0
        clear hg hb0 r1 HC i3
        go_wp2_with (first | (refine wpList_runR (by rfl) _ (exec_ldMid HR.out HD.out.1 und_dr info_dr (by rfl) _ rfl) ?_) | (refine wpList_runR (by rfl) _ (exec_neqS eqg_dr HE.out (by rfl) (by rfl) _ rfl) ?_))
        go_ret
        refine ⟨?_, H0.out.2⟩
        first | rfl | exact ret_bool (decide_eq_false (by omega))
    · rw [show rightB r = false from by rw [HRB.out]; simp [i1, i2]]
      obtain ⟨C, hC⟩ : ∃ C, C = recC r := ⟨_, rfl⟩
      rw [← hC]
      have HC := Lib.hid hC
      clear hC HRB
      go_enter Tryd.func12, Tryd.ntmps12
      go_upto_region 1 with (fail)
      obtain ⟨g, hg⟩ : ∃ g, g = w.heap.size := ⟨_, rfl⟩
      refine gen_codeR (F := Bx w g 24 C) (by rw [hg]; exact Bx.new _ _ _) ?_
      rw [← hg]
      rintro w0 hb0
      have r1 := hb0.1
      rw [HC.out] at r1
      have c0 := r1.c0
      have c1 := r1.c1
      have c2 := r1.c2
      have c35 := r1.c35 HD.out
      have H0 := Lib.hid hb0
      clear hg hb0 r1 HC
      go_wp2_with fail
      go_ret
      refine ⟨?_, H0.out.2⟩
      first | rfl | exact ret_bool (decide_eq_false (by omega))
set_option maxRecDepth 100000 in
set_option maxHeartbeats 4000000 in
theorem rrightH_c (r : Hdv) (hd : dOk r.root) (w : World) :
    Calls Tryd.prog 22 #[.agg (hdC r)] w fun e w' => e = .returned (.bool (hrB r)) ∧ Below w.heap.size w w' := by
  have HD := Lib.hid hd
  have HRB := Lib.hid (show hrB r = (decide (0 ≤ r.n ∧ r.n ≤ 1048576) && decide (0 ≤ r.t ∧ r.t ≤ 1099511627776)) from rfl)
  clear hd
  by_cases j1 : 0 ≤ r.n
  · by_cases j2 : r.n ≤ 1048576
    · by_cases j3 : 0 ≤ r.t
      · by_cases j4 : r.t ≤ 1099511627776
        · rw [show hrB r = true from by rw [HRB.out]; rw [decide_eq_true (p := 0 ≤ r.n ∧ r.n ≤ 1048576) ⟨j1, j2⟩, decide_eq_true (p := 0 ≤ r.t ∧ r.t ≤ 1099511627776) ⟨j3, j4⟩]; rfl]
          obtain ⟨C, hC⟩ : ∃ C, C = hdC r := ⟨_, rfl⟩
          rw [← hC]
          have HC := Lib.hid hC
          clear hC HRB
          go_enter Tryd.func22, Tryd.ntmps22
          go_upto_region 1 with (fail)
          obtain ⟨g, hg⟩ : ∃ g, g = w.heap.size := ⟨_, rfl⟩
          refine gen_codeR (F := Bx w g 46 C) (by rw [hg]; exact Bx.new _ _ _) ?_
          rw [← hg]
          rintro w0 hb0
          have r1 := hb0.1
          rw [HC.out] at r1
          have c0 := r1.h0
          have c33 := r1.h33 HD.out
          have H0 := Lib.hid hb0
          clear hg hb0 r1
          go_wp2_with fail
          go_ret
          refine ⟨?_, H0.out.2⟩
          first | rfl | exact ret_bool (decide_eq_false (by omega))
        · rw [show hrB r = false from by rw [HRB.out]; rw [decide_eq_false (p := 0 ≤ r.t ∧ r.t ≤ 1099511627776) (by omega), Bool.and_false]]
          obtain ⟨C, hC⟩ : ∃ C, C = hdC r := ⟨_, rfl⟩
          rw [← hC]
          have HC := Lib.hid hC
          clear hC HRB
          go_enter Tryd.func22, Tryd.ntmps22
          go_upto_region 1 with (fail)
          obtain ⟨g, hg⟩ : ∃ g, g = w.heap.size := ⟨_, rfl⟩
          refine gen_codeR (F := Bx w g 46 C) (by rw [hg]; exact Bx.new _ _ _) ?_
          rw [← hg]
          rintro w0 hb0
          have r1 := hb0.1
          rw [HC.out] at r1
          have c0 := r1.h0
          have c33 := r1.h33 HD.out
          have H0 := Lib.hid hb0
          clear hg hb0 r1
          go_wp2_with fail
          go_ret
          refine ⟨?_, H0.out.2⟩
          first | rfl | exact ret_bool (decide_eq_false (by omega))
      · rw [show hrB r = false from by rw [HRB.out]; rw [decide_eq_false (p := 0 ≤ r.t ∧ r.t ≤ 1099511627776) (by omega), Bool.and_false]]
        obtain ⟨C, hC⟩ : ∃ C, C = hdC r := ⟨_, rfl⟩
        rw [← hC]
        have HC := Lib.hid hC
        clear hC HRB
        go_enter Tryd.func22, Tryd.ntmps22
        go_upto_region 1 with (fail)
        obtain ⟨g, hg⟩ : ∃ g, g = w.heap.size := ⟨_, rfl⟩
        refine gen_codeR (F := Bx w g 46 C) (by rw [hg]; exact Bx.new _ _ _) ?_
        rw [← hg]
        rintro w0 hb0
        have r1 := hb0.1
        rw [HC.out] at r1
        have c0 := r1.h0
        have c33 := r1.h33 HD.out
        have H0 := Lib.hid hb0
        clear hg hb0 r1
        go_wp2_with fail
        go_ret
        refine ⟨?_, H0.out.2⟩
        first | rfl | exact ret_bool (decide_eq_false (by omega))
    · rw [show hrB r = false from by rw [HRB.out]; rw [decide_eq_false (p := 0 ≤ r.n ∧ r.n ≤ 1048576) (by omega), Bool.false_and]]
      obtain ⟨C, hC⟩ : ∃ C, C = hdC r := ⟨_, rfl⟩
      rw [← hC]
      have HC := Lib.hid hC
      clear hC HRB
      go_enter Tryd.func22, Tryd.ntmps22
      go_upto_region 1 with (fail)
      obtain ⟨g, hg⟩ : ∃ g, g = w.heap.size := ⟨_, rfl⟩
      refine gen_codeR (F := Bx w g 46 C) (by rw [hg]; exact Bx.new _ _ _) ?_
      rw [← hg]
      rintro w0 hb0
      have r1 := hb0.1
      rw [HC.out] at r1
      have c0 := r1.h0
      have c33 := r1.h33 HD.out
      have H0 := Lib.hid hb0
      clear hg hb0 r1
      go_wp2_with fail
      go_ret
      refine ⟨?_, H0.out.2⟩
      first | rfl | exact ret_bool (decide_eq_false (by omega))
  · rw [show hrB r = false from by rw [HRB.out]; rw [decide_eq_false (p := 0 ≤ r.n ∧ r.n ≤ 1048576) (by omega), Bool.false_and]]
    obtain ⟨C, hC⟩ : ∃ C, C = hdC r := ⟨_, rfl⟩
    rw [← hC]
    have HC := Lib.hid hC
    clear hC HRB
    go_enter Tryd.func22, Tryd.ntmps22
    go_upto_region 1 with (fail)
    obtain ⟨g, hg⟩ : ∃ g, g = w.heap.size := ⟨_, rfl⟩
    refine gen_codeR (F := Bx w g 46 C) (by rw [hg]; exact Bx.new _ _ _) ?_
    rw [← hg]
    rintro w0 hb0
    have r1 := hb0.1
    rw [HC.out] at r1
    have c0 := r1.h0
    have c33 := r1.h33 HD.out
    have H0 := Lib.hid hb0
    clear hg hb0 r1
    go_wp2_with fail
    go_ret
    refine ⟨?_, H0.out.2⟩
    first | rfl | exact ret_bool (decide_eq_false (by omega))
end Go.Proofs.YtjjkfbebaoikbaaDoor.Rc
