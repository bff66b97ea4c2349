/-
  The walks over the document's Path and Same.
-/
import Derived.Test.YtdcninfbpmhojaaDoorPth
import Derived.Test.YtdcninfbpmhojaaDoorAnx
namespace Go.Proofs.YtdcninfbpmhojaaDoor
open Go.RowKit
set_option linter.unusedVariables false
theorem rpath_1 (ds : Ds) (a : Option Addr) (cap i : Nat) (w : World) (hl : ds.length = 1) :
    Calls Tryd.prog 28 #[.slice a 1 cap, .int .i64 (i : Int)] w (RetDs 22 (pathS ds i) w) := by
  unfold pathS
  rw [Mk.path_less _ _ _ _ (by omega)]
  go_enter Tryd.func28, Tryd.ntmps28
  go_wp2
  go_ret
  exact ⟨_, rfl, OwnD.nil _ _ _, Below.refl _ _⟩
/-- what a list's shorter lists give -/
def RPTH (n : Nat) : Prop := ∀ m, m < n → ∀ (ds : Ds) (i : Nat) (a : Option Addr) (cap : Nat) (w : World), DR w a m ds → i < m → m ≤ cap → cap ≤ 9223372036854775807 → Tab w → Calls Tryd.prog 28 #[.slice a m cap, .int .i64 (i : Int)] w (RetDs 22 (pathS ds i) w)
set_option maxRecDepth 100000 in
set_option maxHeartbeats 2000000 in
theorem rpath_l (n k i : Nat) (ih : RPTH n) (ds : Ds) (a : Option Addr) (cap : Nat) (w : World) (hr : DR w a n ds) (hi : i < n) (hlc : n ≤ cap) (hcm : cap ≤ 9223372036854775807) (hnm : n ≤ 4398046511104) (ht : Tab w) (h2 : 2 ≤ n) (hk : Mk.half n = k) (hik : i < k) :
    Calls Tryd.prog 28 #[.slice a n cap, .int .i64 (i : Int)] w (RetDs 22 (pathS ds i) w) := by
  have hk0 : 0 < k := by rw [← hk]; exact Mk.half_pos n
  have hkn : k < n := by rw [← hk]; exact Mk.half_lt n h2
  have HT := Lib.hid ht
  have hpos := ht.pos
  have HR := Lib.hid hr
  have HH := Lib.hid (fun W => rhalf_c n W h2 (by omega))
  rw [hk] at HH
  have q0 : ¬ (n : Int) < 2 := by omega
  have q00 : ¬ n < 2 := by omega
  have q2 : (i : Int) < (k : Int) := by omega
  obtain ⟨Y, hY⟩ : ∃ Y, Y = rootS (ds.drop k) := ⟨_, rfl⟩
  obtain ⟨p, hp⟩ : ∃ p, p = pathS (ds.take k) i := ⟨_, rfl⟩
  have HPE := Lib.hid (show pathS ds i = p ++ [Y] from by
    rw [hp, hY]; unfold pathS
    rw [Mk.path_left _ _ _ _ (by rw [hr.1]; exact h2) (by rw [hr.1, hk]; exact hik), hr.1, hk]; rfl)
  have HY := Lib.hid (show D32 Y from by rw [hY]; exact d32_root _ (d32_drop hr.2.1 k))
  have hpl : p.length + 1 ≤ 4398046511104 := by
    have := path_len k (ds.take k) i (by rw [List.length_take, hr.1]; omega) (by omega)
    rw [hp]; omega
  have HCX := Lib.hid (show ∀ W, DR W a n ds → Tab W → Calls Tryd.prog 28 #[.slice a k cap, .int .i64 (i : Int)] W (RetDs 22 p W) from fun W hW hT => by rw [hp]; exact ih k (by omega) _ i _ _ W (hW.take k (by omega)) (by omega) (by omega) (by omega) hT)
  have HCY := Lib.hid (show ∀ W, DR W a n ds → Tab W → Calls Tryd.prog 19 #[.slice (sld a cap k) (n - k) (cap - k)] W (DigRet Y W) from fun W hW hT => by rw [hY]; exact rroot_c (n - k) _ _ _ W (hW.drop cap k (by omega) hlc) (by omega) (by omega))
  clear hY hp ih hr hk ht
  go_enter Tryd.func28, Tryd.ntmps28
  go_upto_region 5 with (first | (go_at_call 33; refine (HH.out _).mono ?_; rintro e wb ⟨rfl, rfl⟩))
  (try dsimp only [Act.put, List.setIfInBounds_toArray, List.set_cons_zero, List.set_cons_succ])
  have HB := Lib.hid (show Below w.heap.size w w.drew from (Below.refl _ _).drew)
  refine wp_region_any (by kernel_rfl) ?_
  change wpAny _ _ _ _ _ _ _ w.drew
  refine any_move 0 (d := 15) (x := .tmp 0) (.slice a n cap) (by rfl) (by kernel_rfl) (by kernel_rfl) (by kernel_rfl) (fun _ _ _ h => h) (by rfl) ?_
  simp only [Act.put, List.setIfInBounds_toArray, List.set_cons_zero, List.set_cons_succ]
  refine any_move 1 (d := 16) (x := .tmp 5) (.int .i64 (k : Int)) (by rfl) (by kernel_rfl) (by kernel_rfl) (by kernel_rfl) (fun _ _ _ h => h) (by rfl) ?_
  simp only [Act.put, List.setIfInBounds_toArray, List.set_cons_zero, List.set_cons_succ]
  refine any_dhead dtR 2 (d := 17) (x := .tmp 15) (y := .tmp 16) a n cap k (by omega) (by rfl) (by kernel_rfl) (by kernel_rfl) (by kernel_rfl) (fun _ _ _ h => h) (by rfl) (by rfl) ?_
  simp only [Act.put, List.setIfInBounds_toArray, List.set_cons_zero, List.set_cons_succ]
  refine any_move 3 (d := 18) (x := .tmp 1) (.int .i64 (i : Int)) (by rfl) (by kernel_rfl) (by kernel_rfl) (by kernel_rfl) (fun _ _ _ h => h) (by rfl) ?_
  simp only [Act.put, List.setIfInBounds_toArray, List.set_cons_zero, List.set_cons_succ]
  refine any_move 5 (d := 20) (x := .tmp 0) (.slice a n cap) (by rfl) (by kernel_rfl) (by kernel_rfl) (by kernel_rfl) (fun _ _ _ h => h) (by rfl) ?_
  simp only [Act.put, List.setIfInBounds_toArray, List.set_cons_zero, List.set_cons_succ]
  refine any_move 6 (d := 21) (x := .tmp 5) (.int .i64 (k : Int)) (by rfl) (by kernel_rfl) (by kernel_rfl) (by kernel_rfl) (fun _ _ _ h => h) (by rfl) ?_
  simp only [Act.put, List.setIfInBounds_toArray, List.set_cons_zero, List.set_cons_succ]
  refine any_dcut dtR 7 (d := 22) (x := .tmp 20) (y := .tmp 21) a n cap k (by omega) (by rfl) (by kernel_rfl) (by kernel_rfl) (by kernel_rfl) (fun _ _ _ h => h) (by rfl) (by rfl) ?_
  simp only [Act.put, List.setIfInBounds_toArray, List.set_cons_zero, List.set_cons_succ]
  refine any_call 4 (d := some 19) (f := 28) (xs := #[.tmp 17, .tmp 18]) (ts := #[24, 3]) (vs := #[.slice a k cap, .int .i64 (i : Int)]) (by kernel_rfl) (by rfl) (by go_simp) (by go_simp) (HCX.out _ (HR.out.below HB.out) (HT.out.below HB.out hpos)) ?_
  rintro e w1 ⟨v, rfl, hov, hb1⟩
  refine ⟨_, rfl, ?_⟩
  simp only [Act.put, List.setIfInBounds_toArray, List.set_cons_zero, List.set_cons_succ]
  have HB1 := Lib.hid (HB.out.trans (hb1.mono HB.out.size))
  have HO1 := Lib.hid (show OwnD w1 w.heap.size 22 v p from hov)
  clear hb1 hov
  refine any_call 8 (d := some 23) (f := 19) (xs := #[.tmp 22]) (ts := #[24]) (vs := #[.slice (sld a cap k) (n - k) (cap - k)]) (by kernel_rfl) (by rfl) (by go_simp) (by go_simp) (HCY.out _ (HR.out.below HB1.out) (HT.out.below HB1.out hpos)) ?_
  rintro e w2 ⟨rfl, hb2⟩
  refine ⟨_, rfl, ?_⟩
  simp only [Act.put, List.setIfInBounds_toArray, List.set_cons_zero, List.set_cons_succ]
  have HB2 := Lib.hid (HB1.out.trans (hb2.mono HB1.out.size))
  have HO2 := Lib.hid (HO1.out.below hb2 (Nat.le_refl _))
  clear hb2
  refine any_op 9 (d := some 24) (op := .buildSlice 24 1 #[(0, .tmp 23)]) (by kernel_rfl) (by rfl) ?_
  intro o hod hoo
  refine wp_dlay dtR (.tmp 23) hoo Y HY.out (by rfl) ?_
  rw [hod]
  simp only [Act.put, List.setIfInBounds_toArray, List.set_cons_zero, List.set_cons_succ]
  refine any_op 10 (d := some 25) (op := .call { callee := .builtin .append, args := #[.tmp 19, .tmp 24], argTypes := #[24, 24] }) (by kernel_rfl) (by rfl) ?_
  intro o hod hoo
  refine wp_dpush dtR (.tmp 19) (.tmp 24) hoo w.heap.size v p Y HY.out (by rfl) HO2.out HB2.out.size (by rfl) hpl ?_
  intro v3 w3 hown3 hb3
  rw [hod]
  simp only [Act.put, List.setIfInBounds_toArray, List.set_cons_zero, List.set_cons_succ]
  refine any_assign 11 (d := 4) (x := .tmp 25) v3 (by rfl) (by kernel_rfl) (by kernel_rfl) (by kernel_rfl) (fun _ _ _ h => h) (by rfl) ?_
  simp only [Act.put, List.setIfInBounds_toArray, List.set_cons_zero, List.set_cons_succ]
  refine wpAny_done (by kernel_rfl) ?_ _
  rw [← HPE.out] at hown3
  have HO3 := Lib.hid hown3
  have HB3 := Lib.hid (HB2.out.trans hb3)
  clear hown3 hb3
  go_wp2
  go_ret
  exact ⟨_, rfl, HO3.out, HB3.out⟩
set_option maxRecDepth 100000 in
set_option maxHeartbeats 2000000 in
theorem rpath_r (n k i : Nat) (ih : RPTH n) (ds : Ds) (a : Option Addr) (cap : Nat) (w : World) (hr : DR w a n ds) (hi : i < n) (hlc : n ≤ cap) (hcm : cap ≤ 9223372036854775807) (hnm : n ≤ 4398046511104) (ht : Tab w) (h2 : 2 ≤ n) (hk : Mk.half n = k) (hik : ¬ i < k) :
    Calls Tryd.prog 28 #[.slice a n cap, .int .i64 (i : Int)] w (RetDs 22 (pathS ds i) w) := by
  have hk0 : 0 < k := by rw [← hk]; exact Mk.half_pos n
  have hkn : k < n := by rw [← hk]; exact Mk.half_lt n h2
  have HT := Lib.hid ht
  have hpos := ht.pos
  have HR := Lib.hid hr
  have HH := Lib.hid (fun W => rhalf_c n W h2 (by omega))
  rw [hk] at HH
  have q0 : ¬ (n : Int) < 2 := by omega
  have q00 : ¬ n < 2 := by omega
  have q2 : ¬ (i : Int) < (k : Int) := by omega
  obtain ⟨Y, hY⟩ : ∃ Y, Y = rootS (ds.take k) := ⟨_, rfl⟩
  obtain ⟨p, hp⟩ : ∃ p, p = pathS (ds.drop k) (i - k) := ⟨_, rfl⟩
  have HPE := Lib.hid (show pathS ds i = p ++ [Y] from by
    rw [hp, hY]; unfold pathS
    rw [Mk.path_right _ _ _ _ (by rw [hr.1]; exact h2) (by rw [hr.1, hk]; exact hik), hr.1, hk]; rfl)
  have HY := Lib.hid (show D32 Y from by rw [hY]; exact d32_root _ (d32_take hr.2.1 k))
  have hpl : p.length + 1 ≤ 4398046511104 := by
    have := path_len (n - k) (ds.drop k) (i - k) (by rw [List.length_drop, hr.1]) (by omega)
    rw [hp]; omega
  have HCX := Lib.hid (show ∀ W, DR W a n ds → Tab W → Calls Tryd.prog 28 #[.slice (sld a cap k) (n - k) (cap - k), .int .i64 ((i - k : Nat) : Int)] W (RetDs 22 p W) from fun W hW hT => by rw [hp]; exact ih (n - k) (by omega) _ (i - k) _ _ W (hW.drop cap k (by omega) hlc) (by omega) (by omega) (by omega) hT)
  have HCY := Lib.hid (show ∀ W, DR W a n ds → Tab W → Calls Tryd.prog 19 #[.slice a k cap] W (DigRet Y W) from fun W hW hT => by rw [hY]; exact rroot_c k _ _ _ W (hW.take k (by omega)) (by omega) (by omega))
  clear hY hp ih hr hk ht
  go_enter Tryd.func28, Tryd.ntmps28
  go_upto_region 6 with (first | (go_at_call 33; refine (HH.out _).mono ?_; rintro e wb ⟨rfl, rfl⟩))
  (try dsimp only [Act.put, List.setIfInBounds_toArray, List.set_cons_zero, List.set_cons_succ])
  have HB := Lib.hid (show Below w.heap.size w w.drew from (Below.refl _ _).drew)
  refine wp_region_any (by kernel_rfl) ?_
  change wpAny _ _ _ _ _ _ _ w.drew
  refine any_move 0 (d := 26) (x := .tmp 0) (.slice a n cap) (by rfl) (by kernel_rfl) (by kernel_rfl) (by kernel_rfl) (fun _ _ _ h => h) (by rfl) ?_
  simp only [Act.put, List.setIfInBounds_toArray, List.set_cons_zero, List.set_cons_succ]
  refine any_move 1 (d := 27) (x := .tmp 5) (.int .i64 (k : Int)) (by rfl) (by kernel_rfl) (by kernel_rfl) (by kernel_rfl) (fun _ _ _ h => h) (by rfl) ?_
  simp only [Act.put, List.setIfInBounds_toArray, List.set_cons_zero, List.set_cons_succ]
  refine any_dcut dtR 2 (d := 28) (x := .tmp 26) (y := .tmp 27) a n cap k (by omega) (by rfl) (by kernel_rfl) (by kernel_rfl) (by kernel_rfl) (fun _ _ _ h => h) (by rfl) (by rfl) ?_
  simp only [Act.put, List.setIfInBounds_toArray, List.set_cons_zero, List.set_cons_succ]
  refine any_move 3 (d := 29) (x := .tmp 1) (.int .i64 (i : Int)) (by rfl) (by kernel_rfl) (by kernel_rfl) (by kernel_rfl) (fun _ _ _ h => h) (by rfl) ?_
  simp only [Act.put, List.setIfInBounds_toArray, List.set_cons_zero, List.set_cons_succ]
  refine any_move 4 (d := 30) (x := .tmp 5) (.int .i64 (k : Int)) (by rfl) (by kernel_rfl) (by kernel_rfl) (by kernel_rfl) (fun _ _ _ h => h) (by rfl) ?_
  simp only [Act.put, List.setIfInBounds_toArray, List.set_cons_zero, List.set_cons_succ]
  refine any_pure 5 (d := 31) (op := .binOp .sub 3 (.tmp 29) (.tmp 30) 3) (.int .i64 ((i - k : Nat) : Int)) (by rfl) (by kernel_rfl) (by kernel_rfl) (by kernel_rfl) (fun _ _ _ h => h) (fun o ho W => by unfold execOp; simp only [ho]; rw [show ((i - k : Nat) : Int) = (i : Int) - (k : Int) by omega]; go_simp; rw [IntKind.wrap_i64]; omega) ?_
  simp only [Act.put, List.setIfInBounds_toArray, List.set_cons_zero, List.set_cons_succ]
  refine any_move 7 (d := 33) (x := .tmp 0) (.slice a n cap) (by rfl) (by kernel_rfl) (by kernel_rfl) (by kernel_rfl) (fun _ _ _ h => h) (by rfl) ?_
  simp only [Act.put, List.setIfInBounds_toArray, List.set_cons_zero, List.set_cons_succ]
  refine any_move 8 (d := 34) (x := .tmp 5) (.int .i64 (k : Int)) (by rfl) (by kernel_rfl) (by kernel_rfl) (by kernel_rfl) (fun _ _ _ h => h) (by rfl) ?_
  simp only [Act.put, List.setIfInBounds_toArray, List.set_cons_zero, List.set_cons_succ]
  refine any_dhead dtR 9 (d := 35) (x := .tmp 33) (y := .tmp 34) a n cap k (by omega) (by rfl) (by kernel_rfl) (by kernel_rfl) (by kernel_rfl) (fun _ _ _ h => h) (by rfl) (by rfl) ?_
  simp only [Act.put, List.setIfInBounds_toArray, List.set_cons_zero, List.set_cons_succ]
  refine any_call 6 (d := some 32) (f := 28) (xs := #[.tmp 28, .tmp 31]) (ts := #[24, 3]) (vs := #[.slice (sld a cap k) (n - k) (cap - k), .int .i64 ((i - k : Nat) : Int)]) (by kernel_rfl) (by rfl) (by go_simp) (by go_simp) (HCX.out _ (HR.out.below HB.out) (HT.out.below HB.out hpos)) ?_
  rintro e w1 ⟨v, rfl, hov, hb1⟩
  refine ⟨_, rfl, ?_⟩
  simp only [Act.put, List.setIfInBounds_toArray, List.set_cons_zero, List.set_cons_succ]
  have HB1 := Lib.hid (HB.out.trans (hb1.mono HB.out.size))
  have HO1 := Lib.hid (show OwnD w1 w.heap.size 22 v p from hov)
  clear hb1 hov
  refine any_call 10 (d := some 36) (f := 19) (xs := #[.tmp 35]) (ts := #[24]) (vs := #[.slice a k cap]) (by kernel_rfl) (by rfl) (by go_simp) (by go_simp) (HCY.out _ (HR.out.below HB1.out) (HT.out.below HB1.out hpos)) ?_
  rintro e w2 ⟨rfl, hb2⟩
  refine ⟨_, rfl, ?_⟩
  simp only [Act.put, List.setIfInBounds_toArray, List.set_cons_zero, List.set_cons_succ]
  have HB2 := Lib.hid (HB1.out.trans (hb2.mono HB1.out.size))
  have HO2 := Lib.hid (HO1.out.below hb2 (Nat.le_refl _))
  clear hb2
  refine any_op 11 (d := some 37) (op := .buildSlice 24 1 #[(0, .tmp 36)]) (by kernel_rfl) (by rfl) ?_
  intro o hod hoo
  refine wp_dlay dtR (.tmp 36) hoo Y HY.out (by rfl) ?_
  rw [hod]
  simp only [Act.put, List.setIfInBounds_toArray, List.set_cons_zero, List.set_cons_succ]
  refine any_op 12 (d := some 38) (op := .call { callee := .builtin .append, args := #[.tmp 32, .tmp 37], argTypes := #[24, 24] }) (by kernel_rfl) (by rfl) ?_
  intro o hod hoo
  refine wp_dpush dtR (.tmp 32) (.tmp 37) hoo w.heap.size v p Y HY.out (by rfl) HO2.out HB2.out.size (by rfl) hpl ?_
  intro v3 w3 hown3 hb3
  rw [hod]
  simp only [Act.put, List.setIfInBounds_toArray, List.set_cons_zero, List.set_cons_succ]
  refine any_assign 13 (d := 4) (x := .tmp 38) v3 (by rfl) (by kernel_rfl) (by kernel_rfl) (by kernel_rfl) (fun _ _ _ h => h) (by rfl) ?_
  simp only [Act.put, List.setIfInBounds_toArray, List.set_cons_zero, List.set_cons_succ]
  refine wpAny_done (by kernel_rfl) ?_ _
  rw [← HPE.out] at hown3
  have HO3 := Lib.hid hown3
  have HB3 := Lib.hid (HB2.out.trans hb3)
  clear hown3 hb3
  go_wp2
  go_ret
  exact ⟨_, rfl, HO3.out, HB3.out⟩
theorem rpath_c : ∀ (n : Nat) (ds : Ds) (i : Nat) (a : Option Addr) (cap : Nat) (w : World), n ≤ 4398046511104 → DR w a n ds → i < n → n ≤ cap → cap ≤ 9223372036854775807 → Tab w →
    Calls Tryd.prog 28 #[.slice a n cap, .int .i64 (i : Int)] w (RetDs 22 (pathS ds i) w) := by
  intro n
  induction n using Nat.strongRecOn with
  | ind n ih =>
    intro ds i a cap w hnm hr hi hlc hcm ht
    by_cases h1 : n = 1
    · subst h1
      exact rpath_1 ds a cap i w hr.1
    · have ih' : RPTH n := fun m hm ds i a cap w hr hi hlc hcm ht => ih m hm ds i a cap w (by omega) hr hi hlc hcm ht
      by_cases hik : i < Mk.half n
      · exact rpath_l n _ i ih' ds a cap w hr hi hlc hcm hnm ht (by omega) rfl hik
      · exact rpath_r n _ i ih' ds a cap w hr hi hlc hcm hnm ht (by omega) rfl hik
/-- the same sums? -/
theorem neq_dig {T E : TypeId} (hT : DT T E) (W : World) {a b : List Nat} (ha : D32 a) (hb : D32 b) : (Op.equalIn 10000 E (.agg (cellsOf a).toArray) (.agg (cellsOf b).toArray)).run Tryd.prog W = .ok (decide (a = b)) W := eq_dig E 32 hT.undE W a b ha.1 hb.1 ha.2 hb.2
set_option maxRecDepth 100000 in
set_option maxHeartbeats 1000000 in
theorem dsame_no (n m : Nat) (a b : Option Addr) (c d : Nat) (w : World) (h : n ≠ m) :
    Calls Tryd.prog 20 #[.slice a n c, .slice b m d] w fun e w' => e = .returned (.bool false) ∧ w = w' := by
  have h1 : ¬ (n : Int) = (m : Int) := by omega
  go_enter Tryd.func20, Tryd.ntmps20
  go_wp2
  go_ret
  exact ⟨rfl, rfl⟩
def SB2 (a b : Option Addr) (n : Nat) (xs ys : Ds) (W : World) : Prop := DR W a n xs ∧ DR W b n ys
theorem take_eq_succ {xs ys : Ds} {k : Nat} (hx : k < xs.length) (hy : k < ys.length) (h : xs.take k = ys.take k) (he : xs.getD k [] = ys.getD k []) : xs.take (k + 1) = ys.take (k + 1) := by
  rw [List.take_succ_eq_append_getElem hx, List.take_succ_eq_append_getElem hy, h]
  simp only [List.getD_eq_getElem?_getD, List.getElem?_eq_getElem hx, List.getElem?_eq_getElem hy, Option.getD_some] at he
  rw [he]
theorem drewN_drew (w : World) (q : Nat) : (w.drewN q).drew = w.drewN (q + 1) := by simp [World.drewN, World.drew, Nat.add_assoc]
set_option maxRecDepth 100000 in
set_option maxHeartbeats 2000000 in
theorem dsame_yes (n : Nat) (hn : n ≤ 4398046511104) (a b : Option Addr) (c d : Nat) (xs ys : Ds) (w : World) (ha : DR w a n xs) (hb : DR w b n ys) :
    Calls Tryd.prog 20 #[.slice a n c, .slice b n d] w fun e w' => e = .returned (.bool (decide (xs = ys))) ∧ ∃ q, w' = w.drewN q := by
  have HA := Lib.hid ha
  have HB := Lib.hid hb
  have HGT := Lib.hid (show Tryd.prog.eqGuardType Tryd.prog.depth 22 = false by kernel_rfl)
  clear ha hb
  go_enter Tryd.func20, Tryd.ntmps20
  go_wp2
  go_loopw [5] (fun i wr => ∃ k : Nat, k ≤ n ∧ i = .int .i64 k ∧ Hid (xs.take k = ys.take k) ∧ Hid (∃ q, wr = w.drewN q)) (fun i _ => n - (intOf i).toNat)
  case atStart => exact ⟨0, Nat.zero_le _, rfl, rfl, ⟨0, rfl⟩⟩
  case round =>
    obtain ⟨k, hk, rfl, HE, HW⟩ := hrel
    by_cases hkn : k < n
    · obtain ⟨q, hq⟩ := HW.out
      subst hq
      clear HW
      obtain ⟨ba, oa, rfl, _, hca⟩ := HA.out.at k hkn
      obtain ⟨bb, ob, rfl, _, hcb⟩ := HB.out.at k hkn
      have hxk : k < xs.length := by rw [HA.out.1]; exact hkn
      have hyk : k < ys.length := by rw [HB.out.1]; exact hkn
      obtain ⟨x, hx⟩ : ∃ x, x = xs.getD k [] := ⟨_, rfl⟩
      obtain ⟨y, hy⟩ : ∃ y, y = ys.getD k [] := ⟨_, rfl⟩
      rw [← hx] at hca
      rw [← hy] at hcb
      have HX := Lib.hid (show D32 x from by rw [hx]; exact D32.get HA.out.2.1 k hxk)
      have HY := Lib.hid (show D32 y from by rw [hy]; exact D32.get HB.out.2.1 k hyk)
      have HXE := Lib.hid hx
      have HYE := Lib.hid hy
      have HIA := Lib.hid (fun W => run_dindex dtR W ba oa n c k hkn)
      have HIB := Lib.hid (fun W => run_dindex dtR W bb ob n d k hkn)
      have HLA := Lib.hid (fun W (hW : W.rangeAt ba (oa + k * 32) (cellsOf x) ∧ W.rangeAt bb (ob + k * 32) (cellsOf y)) => run_dload dtR W ba (oa + k * 32) x HX.out hW.1)
      have HLB := Lib.hid (fun W (hW : W.rangeAt ba (oa + k * 32) (cellsOf x) ∧ W.rangeAt bb (ob + k * 32) (cellsOf y)) => run_dload dtR W bb (ob + k * 32) y HY.out hW.2)
      have HS := Lib.hid (show (fun W : World => W.rangeAt ba (oa + k * 32) (cellsOf x) ∧ W.rangeAt bb (ob + k * 32) (cellsOf y)) (w.drewN q).drew from ⟨hca, hcb⟩)
      clear hx hy hca hcb
      go_upto_region 6 with fail
      (try dsimp only [Act.put, List.setIfInBounds_toArray, List.set_cons_zero, List.set_cons_succ])
      by_cases hxy : x = y
      · have HEQ := Lib.hid (show ∀ W, (Op.equalIn 10000 22 (.agg (cellsOf x).toArray) (.agg (cellsOf y).toArray)).run Tryd.prog W = .ok true W from fun W => by rw [neq_dig dtR W HX.out HY.out, decide_eq_true hxy])
        have HN := Lib.hid (take_eq_succ hxk hyk HE.out (by rw [← HXE.out, ← HYE.out, hxy]))
        clear hxy
        refine anyH_begin (S := fun W : World => W.rangeAt ba (oa + k * 32) (cellsOf x) ∧ W.rangeAt bb (ob + k * 32) (cellsOf y)) (by kernel_rfl) ?_
        refine anyH_pureG 0 (d := 17) (op := .move (.tmp 0)) (gd := none) (.slice (some ⟨ba, oa, none⟩) n c) (by rfl) (fun o ho => wanted_plain ho _) (by kernel_rfl) (by kernel_rfl) (by kernel_rfl) (fun _ _ _ h => h) (fun o ho W hW => by unfold execOp; simp only [ho]; go_simp) HS.out ?_
        simp only [Act.put, List.setIfInBounds_toArray, List.set_cons_zero, List.set_cons_succ]
        refine anyH_pureG 1 (d := 18) (op := .move (.tmp 5)) (gd := none) (.int .i64 (k : Int)) (by rfl) (fun o ho => wanted_plain ho _) (by kernel_rfl) (by kernel_rfl) (by kernel_rfl) (fun _ _ _ h => h) (fun o ho W hW => by unfold execOp; simp only [ho]; go_simp) HS.out ?_
        simp only [Act.put, List.setIfInBounds_toArray, List.set_cons_zero, List.set_cons_succ]
        refine anyH_pureG 2 (d := 19) (op := .indexAddr 24 (.tmp 17) (.tmp 18)) (gd := none) (.pointer (some ⟨ba, oa + k * 32, none⟩)) (by rfl) (fun o ho => wanted_plain ho _) (by kernel_rfl) (by kernel_rfl) (by kernel_rfl) (fun _ _ _ h => h) (fun o ho W hW => by unfold execOp; simp only [ho, Sem.run_bind, Sem.run_pure]; exact Eq.trans (congrArg (fun r => Result.andThen r (fun v W1 => .ok (Next.value v) W1)) (HIA.out W)) rfl) HS.out ?_
        simp only [Act.put, List.setIfInBounds_toArray, List.set_cons_zero, List.set_cons_succ]
        refine anyH_loadG 3 (d := 20) (ty := 22) (x := (.tmp 19)) (gd := none) (p := .pointer (some ⟨ba, oa + k * 32, none⟩)) (.agg (cellsOf x).toArray) (by rfl) (fun o ho => wanted_plain ho _) (by kernel_rfl) (by kernel_rfl) (by kernel_rfl) (fun _ _ _ h => h) (by rfl) HLA.out HS.out ?_
        simp only [Act.put, List.setIfInBounds_toArray, List.set_cons_zero, List.set_cons_succ]
        refine anyH_pureG 4 (d := 21) (op := .move (.tmp 1)) (gd := none) (.slice (some ⟨bb, ob, none⟩) n d) (by rfl) (fun o ho => wanted_plain ho _) (by kernel_rfl) (by kernel_rfl) (by kernel_rfl) (fun _ _ _ h => h) (fun o ho W hW => by unfold execOp; simp only [ho]; go_simp) HS.out ?_
        simp only [Act.put, List.setIfInBounds_toArray, List.set_cons_zero, List.set_cons_succ]
        refine anyH_pureG 5 (d := 22) (op := .move (.tmp 5)) (gd := none) (.int .i64 (k : Int)) (by rfl) (fun o ho => wanted_plain ho _) (by kernel_rfl) (by kernel_rfl) (by kernel_rfl) (fun _ _ _ h => h) (fun o ho W hW => by unfold execOp; simp only [ho]; go_simp) HS.out ?_
        simp only [Act.put, List.setIfInBounds_toArray, List.set_cons_zero, List.set_cons_succ]
        refine anyH_pureG 6 (d := 23) (op := .indexAddr 24 (.tmp 21) (.tmp 22)) (gd := none) (.pointer (some ⟨bb, ob + k * 32, none⟩)) (by rfl) (fun o ho => wanted_plain ho _) (by kernel_rfl) (by kernel_rfl) (by kernel_rfl) (fun _ _ _ h => h) (fun o ho W hW => by unfold execOp; simp only [ho, Sem.run_bind, Sem.run_pure]; exact Eq.trans (congrArg (fun r => Result.andThen r (fun v W1 => .ok (Next.value v) W1)) (HIB.out W)) rfl) HS.out ?_
        simp only [Act.put, List.setIfInBounds_toArray, List.set_cons_zero, List.set_cons_succ]
        refine anyH_loadG 7 (d := 24) (ty := 22) (x := (.tmp 23)) (gd := none) (p := .pointer (some ⟨bb, ob + k * 32, none⟩)) (.agg (cellsOf y).toArray) (by rfl) (fun o ho => wanted_plain ho _) (by kernel_rfl) (by kernel_rfl) (by kernel_rfl) (fun _ _ _ h => h) (by rfl) HLB.out HS.out ?_
        simp only [Act.put, List.setIfInBounds_toArray, List.set_cons_zero, List.set_cons_succ]
        refine anyH_neqG 8 (d := 25) (t := 22) (t' := 22) (x := (.tmp 20)) (y := (.tmp 24)) (gd := none) ((cellsOf x).toArray) ((cellsOf y).toArray) true (by rfl) (fun o ho => wanted_plain ho _) (by kernel_rfl) (by kernel_rfl) (by kernel_rfl) (fun _ _ _ h => h) (by rfl) (by rfl) HGT.out HEQ.out HS.out ?_
        simp only [Act.put, List.setIfInBounds_toArray, List.set_cons_zero, List.set_cons_succ]
        refine wpAnyH_done (by kernel_rfl) ?_ _
        go_wp2
        go_roundw
        case rel => exact ⟨k + 1, by omega, by go_num, HN, ⟨q + 1, drewN_drew w q⟩⟩
        case measure => simp [intOf]; omega
      · have HEQ := Lib.hid (show ∀ W, (Op.equalIn 10000 22 (.agg (cellsOf x).toArray) (.agg (cellsOf y).toArray)).run Tryd.prog W = .ok false W from fun W => by rw [neq_dig dtR W HX.out HY.out, decide_eq_false hxy])
        have HN := Lib.hid (show decide (xs = ys) = false from decide_eq_false (fun h => hxy (by rw [HXE.out, HYE.out, h])))
        clear hxy
        refine anyH_begin (S := fun W : World => W.rangeAt ba (oa + k * 32) (cellsOf x) ∧ W.rangeAt bb (ob + k * 32) (cellsOf y)) (by kernel_rfl) ?_
        refine anyH_pureG 0 (d := 17) (op := .move (.tmp 0)) (gd := none) (.slice (some ⟨ba, oa, none⟩) n c) (by rfl) (fun o ho => wanted_plain ho _) (by kernel_rfl) (by kernel_rfl) (by kernel_rfl) (fun _ _ _ h => h) (fun o ho W hW => by unfold execOp; simp only [ho]; go_simp) HS.out ?_
        simp only [Act.put, List.setIfInBounds_toArray, List.set_cons_zero, List.set_cons_succ]
        refine anyH_pureG 1 (d := 18) (op := .move (.tmp 5)) (gd := none) (.int .i64 (k : Int)) (by rfl) (fun o ho => wanted_plain ho _) (by kernel_rfl) (by kernel_rfl) (by kernel_rfl) (fun _ _ _ h => h) (fun o ho W hW => by unfold execOp; simp only [ho]; go_simp) HS.out ?_
        simp only [Act.put, List.setIfInBounds_toArray, List.set_cons_zero, List.set_cons_succ]
        refine anyH_pureG 2 (d := 19) (op := .indexAddr 24 (.tmp 17) (.tmp 18)) (gd := none) (.pointer (some ⟨ba, oa + k * 32, none⟩)) (by rfl) (fun o ho => wanted_plain ho _) (by kernel_rfl) (by kernel_rfl) (by kernel_rfl) (fun _ _ _ h => h) (fun o ho W hW => by unfold execOp; simp only [ho, Sem.run_bind, Sem.run_pure]; exact Eq.trans (congrArg (fun r => Result.andThen r (fun v W1 => .ok (Next.value v) W1)) (HIA.out W)) rfl) HS.out ?_
        simp only [Act.put, List.setIfInBounds_toArray, List.set_cons_zero, List.set_cons_succ]
        refine anyH_loadG 3 (d := 20) (ty := 22) (x := (.tmp 19)) (gd := none) (p := .pointer (some ⟨ba, oa + k * 32, none⟩)) (.agg (cellsOf x).toArray) (by rfl) (fun o ho => wanted_plain ho _) (by kernel_rfl) (by kernel_rfl) (by kernel_rfl) (fun _ _ _ h => h) (by rfl) HLA.out HS.out ?_
        simp only [Act.put, List.setIfInBounds_toArray, List.set_cons_zero, List.set_cons_succ]
        refine anyH_pureG 4 (d := 21) (op := .move (.tmp 1)) (gd := none) (.slice (some ⟨bb, ob, none⟩) n d) (by rfl) (fun o ho => wanted_plain ho _) (by kernel_rfl) (by kernel_rfl) (by kernel_rfl) (fun _ _ _ h => h) (fun o ho W hW => by unfold execOp; simp only [ho]; go_simp) HS.out ?_
        simp only [Act.put, List.setIfInBounds_toArray, List.set_cons_zero, List.set_cons_succ]
        refine anyH_pureG 5 (d := 22) (op := .move (.tmp 5)) (gd := none) (.int .i64 (k : Int)) (by rfl) (fun o ho => wanted_plain ho _) (by kernel_rfl) (by kernel_rfl) (by kernel_rfl) (fun _ _ _ h => h) (fun o ho W hW => by unfold execOp; simp only [ho]; go_simp) HS.out ?_
        simp only [Act.put, List.setIfInBounds_toArray, List.set_cons_zero, List.set_cons_succ]
        refine anyH_pureG 6 (d := 23) (op := .indexAddr 24 (.tmp 21) (.tmp 22)) (gd := none) (.pointer (some ⟨bb, ob + k * 32, none⟩)) (by rfl) (fun o ho => wanted_plain ho _) (by kernel_rfl) (by kernel_rfl) (by kernel_rfl) (fun _ _ _ h => h) (fun o ho W hW => by unfold execOp; simp only [ho, Sem.run_bind, Sem.run_pure]; exact Eq.trans (congrArg (fun r => Result.andThen r (fun v W1 => .ok (Next.value v) W1)) (HIB.out W)) rfl) HS.out ?_
        simp only [Act.put, List.setIfInBounds_toArray, List.set_cons_zero, List.set_cons_succ]
        refine anyH_loadG 7 (d := 24) (ty := 22) (x := (.tmp 23)) (gd := none) (p := .pointer (some ⟨bb, ob + k * 32, none⟩)) (.agg (cellsOf y).toArray) (by rfl) (fun o ho => wanted_plain ho _) (by kernel_rfl) (by kernel_rfl) (by kernel_rfl) (fun _ _ _ h => h) (by rfl) HLB.out HS.out ?_
        simp only [Act.put, List.setIfInBounds_toArray, List.set_cons_zero, List.set_cons_succ]
        refine anyH_neqG 8 (d := 25) (t := 22) (t' := 22) (x := (.tmp 20)) (y := (.tmp 24)) (gd := none) ((cellsOf x).toArray) ((cellsOf y).toArray) false (by rfl) (fun o ho => wanted_plain ho _) (by kernel_rfl) (by kernel_rfl) (by kernel_rfl) (fun _ _ _ h => h) (by rfl) (by rfl) HGT.out HEQ.out HS.out ?_
        simp only [Act.put, List.setIfInBounds_toArray, List.set_cons_zero, List.set_cons_succ]
        refine wpAnyH_done (by kernel_rfl) ?_ _
        go_wp2
        go_ret
        exact ⟨by rw [HN.out]; rfl, ⟨q + 1, drewN_drew w q⟩⟩
    · have HN := Lib.hid (show decide (xs = ys) = true from decide_eq_true (by
        have h := HE.out
        rwa [List.take_of_length_le (by rw [HA.out.1]; omega), List.take_of_length_le (by rw [HB.out.1]; omega)] at h))
      go_wp2
      go_ret
      exact ⟨by rw [HN.out]; rfl, HW.out⟩
theorem dsame_c (n m : Nat) (hn : n ≤ 4398046511104) (a b : Option Addr) (c d : Nat) (xs ys : Ds) (w : World) (ha : DR w a n xs) (hb : DR w b m ys) :
    Calls Tryd.prog 20 #[.slice a n c, .slice b m d] w fun e w' => e = .returned (.bool (decide (xs = ys))) ∧ Below w.heap.size w w' := by
  by_cases h : n = m
  · subst h
    exact (dsame_yes n hn a b c d xs ys w ha hb).mono fun e w' ⟨h1, q, h2⟩ => ⟨h1, by subst h2; exact below_drewN' _ _ _⟩
  · refine (dsame_no n m a b c d w h).mono fun e w' ⟨h1, h2⟩ => ⟨?_, by subst h2; exact Below.refl _ _⟩
    rw [h1, decide_eq_false]
    intro he
    exact h (by rw [← ha.1, ← hb.1, he])
end Go.Proofs.YtdcninfbpmhojaaDoor
