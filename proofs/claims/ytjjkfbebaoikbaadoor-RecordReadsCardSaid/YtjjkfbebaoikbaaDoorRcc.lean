/-
  What says whether a record or a head may be, the program's and the document's; numbers.
-/
import Derived.Test.YtjjkfbebaoikbaaDoorRcb
import Derived.Test.YtjjkfbebaoikbaaDoorNmn
namespace Go.Proofs.YtjjkfbebaoikbaaDoor.Rc
open Go.RowKit Go.Proofs.Nm Go.Proofs.YtjjkfbebaoikbaaDoor
set_option linter.unusedVariables false
theorem isRepo_c (l : List UInt8) (w : World) (hl : l.length ≤ 140737488351232) : Calls Tryd.prog 29 #[.string (T l)] w fun e w' => e = .returned (.bool (repoB l)) ∧ Below w.heap.size w w' := repo_c l w hl
theorem isTag_c (l : List UInt8) (w : World) (hl : l.length ≤ 140737488351232) : Calls Tryd.prog 30 #[.string (T l)] w fun e w' => e = .returned (.bool (tgB l)) ∧ Below w.heap.size w w' := tag_c l w hl
theorem risRepo_c (l : List UInt8) (w : World) (hl : l.length ≤ 140737488351232) : Calls Tryd.prog 32 #[.string (T l)] w fun e w' => e = .returned (.bool (repoB l)) ∧ w = w' := rrepo_c l w hl
theorem risTag_c (l : List UInt8) (w : World) (hl : l.length ≤ 140737488351232) : Calls Tryd.prog 33 #[.string (T l)] w fun e w' => e = .returned (.bool (tgB l)) ∧ w = w' := rtag_c l w hl
set_option maxRecDepth 100000 in
set_option maxHeartbeats 2000000 in
theorem upTo_c (n m : Int) (w : World) : Calls Tryd.prog 31 #[.int .i64 n, .int .i64 m] w fun e w' => e = .returned (.bool (decide (0 ≤ n ∧ n ≤ m))) ∧ w = w' := by
  by_cases h1 : 0 ≤ n
  · by_cases h2 : n ≤ m
    · rw [decide_eq_true (p := 0 ≤ n ∧ n ≤ m) ⟨h1, h2⟩]
      go_enter Tryd.func31, Tryd.ntmps31
      go_wp2_with fail
      go_ret
      exact ⟨rfl, rfl⟩
    · rw [decide_eq_false (p := 0 ≤ n ∧ n ≤ m) (by omega)]
      go_enter Tryd.func31, Tryd.ntmps31
      go_wp2_with fail
      go_ret
      exact ⟨rfl, rfl⟩
  · rw [decide_eq_false (p := 0 ≤ n ∧ n ≤ m) (by omega)]
    go_enter Tryd.func31, Tryd.ntmps31
    go_wp2_with fail
    go_ret
    exact ⟨rfl, rfl⟩
/-- sizes of a record's texts that came in -/
def SzR (r : Rcv) : Prop := r.repo.length ≤ 140737488351232 ∧ r.tag.length ≤ 140737488351232
set_option maxRecDepth 100000 in
set_option maxHeartbeats 4000000 in
theorem right_c (r : Rcv) (hd : dOk r.dig) (hs : SzR r) (w : World) :
    Calls Tryd.prog 11 #[.agg (recC r)] w fun e w' => e = .returned (.bool (rightB r)) ∧ Below w.heap.size w w' := by
  obtain ⟨C, hC⟩ : ∃ C, C = recC r := ⟨_, rfl⟩
  have HRB := Lib.hid (show rightB r = (kindB r && repoB r.repo && tgB r.tag && decide (0 ≤ r.t ∧ r.t ≤ 1099511627776)) from rfl)
  rw [HRB.out]
  have HK := Lib.hid fun W => kind_c r hd W
  have HI := Lib.hid (show (Tryd.prog.info? 31).map (·.size) = some C.size from by rw [hC, recC_size hd]; exact info_p)
  have HRP := Lib.hid fun W => isRepo_c r.repo W hs.1
  have HTG := Lib.hid fun W => isTag_c r.tag W hs.2
  rw [← hC] at HK
  rw [← hC]
  have HC := Lib.hid hC
  have HD := Lib.hid hd
  clear hC hd hs HRB
  obtain ⟨k1, hk1⟩ : ∃ b, b = kindB r := ⟨_, rfl⟩
  obtain ⟨k2, hk2⟩ : ∃ b, b = repoB r.repo := ⟨_, rfl⟩
  obtain ⟨k3, hk3⟩ : ∃ b, b = tgB r.tag := ⟨_, rfl⟩
  obtain ⟨k4, hk4⟩ : ∃ b, b = decide (0 ≤ r.t ∧ r.t ≤ 1099511627776) := ⟨_, rfl⟩
  have HU := Lib.hid fun W => upTo_c r.t 1099511627776 W
  rw [← hk1] at HK
  rw [← hk2] at HRP
  rw [← hk3] at HTG
  rw [← hk4] at HU
  rw [← hk1, ← hk2, ← hk3, ← hk4]
  clear hk1 hk2 hk3 hk4
  go_enter Tryd.func11, Tryd.ntmps11
  go_upto_region 1 with (fail)
  obtain ⟨g, hg⟩ : ∃ g, g = w.heap.size := ⟨_, rfl⟩
  refine gen_codeR (F := Bx w g 31 C) (by rw [hg]; exact Bx.new _ _ _) ?_
  rw [← hg]
  rintro w0 hb0
  have H0 := Lib.hid hb0
  clear hg hb0
  cases k1 with
  | false =>
    go_wp2_with (first | (refine wpList_loadg 31 _ (by rfl) (by rfl) (.pointer (some ⟨g, 0, none⟩)) (by rfl) (.agg C) (H0.out.1.load Tryd.underlying31 HI.out) ?_) | (go_at_call 28; (refine (HK.out _).mono ?_); rintro e w1 ⟨rfl, hb⟩; have H1 := Lib.hid (H0.out.step hb); clear hb))
    go_ret
    exact ⟨rfl, H1.out.2⟩
  | true =>
    cases k2 with
    | false =>
      go_wp2_with (first | (refine wpList_loadg 31 _ (by rfl) (by rfl) (.pointer (some ⟨g, 0, none⟩)) (by rfl) (.agg C) (H0.out.1.load Tryd.underlying31 HI.out) ?_) | (go_at_call 28; (refine (HK.out _).mono ?_); rintro e w1 ⟨rfl, hb⟩; have H1 := Lib.hid (H0.out.step hb); have r1 := H1.out.1; rw [HC.out] at r1; have c1 := r1.c1; clear r1 hb) | (go_at_call 29; (refine (HRP.out _).mono ?_); rintro e w2 ⟨rfl, hb⟩; have H2 := Lib.hid (H1.out.step hb); clear hb))
      go_ret
      exact ⟨rfl, H2.out.2⟩
    | true =>
      cases k3 with
      | false =>
        go_wp2_with (first | (refine wpList_loadg 31 _ (by rfl) (by rfl) (.pointer (some ⟨g, 0, none⟩)) (by rfl) (.agg C) (H0.out.1.load Tryd.underlying31 HI.out) ?_) | (go_at_call 28; (refine (HK.out _).mono ?_); rintro e w1 ⟨rfl, hb⟩; have H1 := Lib.hid (H0.out.step hb); have r1 := H1.out.1; rw [HC.out] at r1; have c1 := r1.c1; clear r1 hb) | (go_at_call 29; (refine (HRP.out _).mono ?_); rintro e w2 ⟨rfl, hb⟩; have H2 := Lib.hid (H1.out.step hb); have r1 := H2.out.1; rw [HC.out] at r1; have c2 := r1.c2; clear r1 hb c1) | (go_at_call 30; (refine (HTG.out _).mono ?_); rintro e w3 ⟨rfl, hb⟩; have H3 := Lib.hid (H2.out.step hb); clear hb))
        go_ret
        exact ⟨rfl, H3.out.2⟩
      | true =>
        go_wp2_with (first | (refine wpList_loadg 31 _ (by rfl) (by rfl) (.pointer (some ⟨g, 0, none⟩)) (by rfl) (.agg C) (H0.out.1.load Tryd.underlying31 HI.out) ?_) | (go_at_call 28; (refine (HK.out _).mono ?_); rintro e w1 ⟨rfl, hb⟩; have H1 := Lib.hid (H0.out.step hb); have r1 := H1.out.1; rw [HC.out] at r1; have c1 := r1.c1; clear r1 hb) | (go_at_call 29; (refine (HRP.out _).mono ?_); rintro e w2 ⟨rfl, hb⟩; have H2 := Lib.hid (H1.out.step hb); have r1 := H2.out.1; rw [HC.out] at r1; have c2 := r1.c2; clear r1 hb c1) | (go_at_call 30; (refine (HTG.out _).mono ?_); rintro e w3 ⟨rfl, hb⟩; have H3 := Lib.hid (H2.out.step hb); have r1 := H3.out.1; rw [HC.out] at r1; have c35 := r1.c35 HD.out; clear r1 hb c2) | (go_at_call 31; (refine (HU.out _).mono ?_); rintro e w4 ⟨rfl, rfl⟩))
        go_ret
        exact ⟨by simp, H3.out.2⟩
set_option maxRecDepth 100000 in
set_option maxHeartbeats 4000000 in
theorem rightH_c (r : Hdv) (hd : dOk r.root) (w : World) :
    Calls Tryd.prog 21 #[.agg (hdC r)] w fun e w' => e = .returned (.bool (hrB r)) ∧ Below w.heap.size w w' := by
  obtain ⟨C, hC⟩ : ∃ C, C = hdC r := ⟨_, rfl⟩
  have HRB := Lib.hid (show hrB r = (decide (0 ≤ r.n ∧ r.n ≤ 1048576) && decide (0 ≤ r.t ∧ r.t ≤ 1099511627776)) from rfl)
  rw [HRB.out]
  rw [← hC]
  have HC := Lib.hid hC
  have HD := Lib.hid hd
  clear hC hd HRB
  obtain ⟨k1, hk1⟩ : ∃ b, b = decide (0 ≤ r.n ∧ r.n ≤ 1048576) := ⟨_, rfl⟩
  obtain ⟨k4, hk4⟩ : ∃ b, b = decide (0 ≤ r.t ∧ r.t ≤ 1099511627776) := ⟨_, rfl⟩
  have HN := Lib.hid fun W => upTo_c r.n 1048576 W
  have HU := Lib.hid fun W => upTo_c r.t 1099511627776 W
  rw [← hk1] at HN
  rw [← hk4] at HU
  rw [← hk1, ← hk4]
  clear hk1 hk4
  go_enter Tryd.func21, Tryd.ntmps21
  go_upto_region 1 with (fail)
  obtain ⟨g, hg⟩ : ∃ g, g = w.heap.size := ⟨_, rfl⟩
  refine gen_codeR (F := Bx w g 48 C) (by rw [hg]; exact Bx.new _ _ _) ?_
  rw [← hg]
  rintro w0 hb0
  have r1 := hb0.1
  rw [HC.out] at r1
  have c0 := r1.h0
  have c33 := r1.h33 HD.out
  have H0 := Lib.hid hb0
  clear hg hb0 r1
  cases k1 with
  | false =>
    go_wp2_with (go_at_call 31; (refine (HN.out _).mono ?_); rintro e w4 ⟨rfl, rfl⟩)
    go_ret
    exact ⟨rfl, H0.out.2⟩
  | true =>
    go_wp2_with (go_at_call 31; (first | (with_reducible refine (HN.out _).mono ?_) | (with_reducible refine (HU.out _).mono ?_)); rintro e w4 ⟨rfl, rfl⟩)
    go_ret
    exact ⟨by simp, H0.out.2⟩
end Go.Proofs.YtjjkfbebaoikbaaDoor.Rc
