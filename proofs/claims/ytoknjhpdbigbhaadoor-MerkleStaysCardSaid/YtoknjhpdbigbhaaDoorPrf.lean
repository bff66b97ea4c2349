/-
  The walks over Proof, and over the document's Proof.
-/
import Derived.Test.YtoknjhpdbigbhaaDoorRpt
namespace Go.Proofs.YtoknjhpdbigbhaaDoor
open Go.RowKit
set_option linter.unusedVariables false
/-- P(m, n, whole) -/
def partS (ds : Ds) (m : Nat) (whole : Bool) : Ds := Mk.part (Sha.sum []) nodeS ds m whole
theorem part_len (n : Nat) : ∀ (ds : Ds) (m : Nat) (whole : Bool), ds.length = n → 1 ≤ m → m ≤ n → (partS ds m whole).length ≤ n := by
  induction n using Nat.strongRecOn with
  | ind n ih =>
    intro ds m whole hl h1 hm
    unfold partS
    by_cases he : m = n
    · subst he
      rw [← hl, Mk.part_all]
      cases whole <;> simp <;> omega
    · have hk := Mk.half_lt n (by omega)
      have hp := Mk.half_pos n
      by_cases hik : m ≤ Mk.half n
      · rw [Mk.part_left _ _ _ _ _ (by omega) (by omega) (by rw [hl]; exact hik), hl, List.length_append, List.length_singleton]
        have := ih (Mk.half n) hk (ds.take (Mk.half n)) m whole (by rw [List.length_take]; omega) h1 hik
        unfold partS at this
        omega
      · rw [Mk.part_right _ _ _ _ _ (by omega) (by omega) (by rw [hl]; exact hik), hl, List.length_append, List.length_singleton]
        have := ih (n - Mk.half n) (by omega) (ds.drop (Mk.half n)) (m - Mk.half n) false (by rw [List.length_drop]; omega) (by omega) (by omega)
        unfold partS at this
        omega
theorem d32_part (n : Nat) : ∀ (ds : Ds) (m : Nat) (whole : Bool), ds.length = n → 1 ≤ m → m ≤ n → (∀ d ∈ ds, D32 d) → ∀ d ∈ partS ds m whole, D32 d := by
  induction n using Nat.strongRecOn with
  | ind n ih =>
    intro ds m whole hl h1 hm hds d hd
    unfold partS at hd
    by_cases he : m = n
    · subst he
      rw [← hl, Mk.part_all] at hd
      cases whole
      · simp at hd; subst hd; exact d32_root _ hds
      · simp at hd
    · have hk := Mk.half_lt n (by omega)
      have hp := Mk.half_pos n
      by_cases hik : m ≤ Mk.half n
      · rw [Mk.part_left _ _ _ _ _ (by omega) (by omega) (by rw [hl]; exact hik), hl, List.mem_append, List.mem_singleton] at hd
        rcases hd with hd | rfl
        · exact ih (Mk.half n) hk _ m whole (by rw [List.length_take]; omega) h1 hik (d32_take hds _) d hd
        · exact d32_root _ (d32_drop hds _)
      · rw [Mk.part_right _ _ _ _ _ (by omega) (by omega) (by rw [hl]; exact hik), hl, List.mem_append, List.mem_singleton] at hd
        rcases hd with hd | rfl
        · exact ih (n - Mk.half n) (by omega) _ (m - Mk.half n) false (by rw [List.length_drop]; omega) (by omega) (by omega) (d32_drop hds _) d hd
        · exact d32_root _ (d32_take hds _)
theorem own_dlay {T E : TypeId} (hT : DT T E) (w : World) (B : Nat) (d : List Nat) (hd : D32 d) (hB : B ≤ w.heap.size) : OwnD (w.alloc (.cells (cellsOf d).toArray E)) B E (.slice (some ⟨w.heap.size, 0, none⟩) 1 1) [d] := by
  refine ⟨by simp [cellsOf_length, hd.1], .inr ⟨w.heap.size, 1, _, rfl, hB, heap_new _ _, Nat.le_refl _, by decide, by simp [cellsOf_length, hd.1], ?_⟩⟩
  simp only [List.flatten_cons, List.flatten_nil, List.append_nil, List.length_singleton]
  exact List.take_of_length_le (by rw [cellsOf_length, hd.1]; omega)
set_option maxRecDepth 100000 in
set_option maxHeartbeats 1000000 in
theorem rprf_whole (n : Nat) (ds : Ds) (a : Option Addr) (cap : Nat) (w : World) (hl : ds.length = n) :
    Calls Tryd.prog 34 #[.slice a n cap, .int .i64 (n : Int), .bool true] w (RetDs 31 (partS ds n true) w) := by
  have HE := Lib.hid (show partS ds n true = [] from by unfold partS; rw [← hl, Mk.part_all]; rfl)
  clear hl
  go_enter Tryd.func34, Tryd.ntmps34
  go_wp2
  go_ret
  exact ⟨_, rfl, by rw [HE.out]; exact OwnD.nil _ _ _, Below.refl _ _⟩
set_option maxRecDepth 100000 in
set_option maxHeartbeats 1000000 in
theorem rprf_part (n : Nat) (ds : Ds) (a : Option Addr) (cap : Nat) (w : World) (hr : DR w a n ds) (hlc : n ≤ cap) (hcm : cap ≤ 9223372036854775807) (ht : Tab w) :
    Calls Tryd.prog 34 #[.slice a n cap, .int .i64 (n : Int), .bool false] w (RetDs 31 (partS ds n false) w) := by
  obtain ⟨R, hR⟩ : ∃ R, R = rootS ds := ⟨_, rfl⟩
  have HE := Lib.hid (show partS ds n false = [R] from by unfold partS; rw [← hr.1, Mk.part_all, hR]; rfl)
  have HD := Lib.hid (show D32 R from by rw [hR]; exact d32_root _ hr.2.1)
  have HC := Lib.hid (show Calls Tryd.prog 12 #[.slice a n cap] w (DigRet R w) from by rw [hR]; exact rroot_c n ds a cap w hr hlc hcm)
  clear hr ht hR
  go_enter Tryd.func34, Tryd.ntmps34
  go_wp2_with fail
  refine HC.out.mono ?_
  rintro e w1 ⟨rfl, hb1⟩
  have HB := Lib.hid hb1
  have HO := Lib.hid (own_dlay dtR w1 w.heap.size R HD.out hb1.size)
  clear hb1
  go_wp2_with (first | (refine wpList_dlay dtR (by rfl) _ (by rfl) w1.heap.size (by rfl) (some 15) (by rfl) R HD.out (by rfl) ?_))
  go_ret
  exact ⟨_, rfl, by rw [HE.out]; exact HO.out, HB.out.trans ((Below.refl _ _).alloc HB.out.size _)⟩
def RPRFH (n : Nat) : Prop := ∀ q, q < n → ∀ (ds : Ds) (m : Nat) (whole : Bool) (a : Option Addr) (cap : Nat) (w : World), DR w a q ds → 1 ≤ m → m ≤ q → q ≤ cap → cap ≤ 9223372036854775807 → Tab w → Calls Tryd.prog 34 #[.slice a q cap, .int .i64 (m : Int), .bool whole] w (RetDs 31 (partS ds m whole) w)
set_option maxRecDepth 100000 in
set_option maxHeartbeats 2000000 in
theorem rprf_l (n k m : Nat) (whole : Bool) (ih : RPRFH n) (ds : Ds) (a : Option Addr) (cap : Nat) (w : World) (hr : DR w a n ds) (h1 : 1 ≤ m) (hm : m < n) (hlc : n ≤ cap) (hcm : cap ≤ 9223372036854775807) (hnm : n ≤ 4398046511104) (ht : Tab w) (hk : Mk.half n = k) (hik : m ≤ k) :
    Calls Tryd.prog 34 #[.slice a n cap, .int .i64 (m : Int), .bool whole] w (RetDs 31 (partS ds m whole) w) := by
  have h2 : 2 ≤ n := by omega
  have hk0 : 0 < k := by rw [← hk]; exact Mk.half_pos n
  have hkn : k < n := by rw [← hk]; exact Mk.half_lt n h2
  have HT := Lib.hid ht
  have hpos := ht.pos
  have HR := Lib.hid hr
  have HH := Lib.hid (fun W => rhalf_c n W h2 (by omega))
  rw [hk] at HH
  have q0 : ¬ (m : Int) = (n : Int) := by omega
  have q1 : ¬ m = n := by omega
  have q2 : (m : Int) ≤ (k : Int) := by omega
  obtain ⟨Y, hY⟩ : ∃ Y, Y = rootS (ds.drop k) := ⟨_, rfl⟩
  obtain ⟨p, hp⟩ : ∃ p, p = partS (ds.take k) m whole := ⟨_, rfl⟩
  have HPE := Lib.hid (show partS ds m whole = p ++ [Y] from by
    rw [hp, hY]; unfold partS
    rw [Mk.part_left _ _ _ _ _ (by rw [hr.1]; exact h2) (by rw [hr.1]; omega) (by rw [hr.1, hk]; exact hik), hr.1, hk]; rfl)
  have HY := Lib.hid (show D32 Y from by rw [hY]; exact d32_root _ (d32_drop hr.2.1 k))
  have hpl : p.length + 1 ≤ 4398046511104 := by
    have := part_len k (ds.take k) m whole (by rw [List.length_take, hr.1]; omega) (by omega) (by omega)
    rw [hp]; omega
  have HCX := Lib.hid (show ∀ W, DR W a n ds → Tab W → Calls Tryd.prog 34 #[.slice a k cap, .int .i64 (m : Int), .bool whole] W (RetDs 31 p W) from fun W hW hT => by rw [hp]; exact ih k (by omega) _ m whole _ _ W (hW.take k (by omega)) (by omega) (by omega) (by omega) (by omega) hT)
  have HCY := Lib.hid (show ∀ W, DR W a n ds → Tab W → Calls Tryd.prog 12 #[.slice (sld a cap k) (n - k) (cap - k)] W (DigRet Y W) from fun W hW hT => by rw [hY]; exact rroot_c (n - k) _ _ _ W (hW.drop cap k (by omega) hlc) (by omega) (by omega))
  clear hY hp ih hr hk ht
  go_enter Tryd.func34, Tryd.ntmps34
  go_upto_region 7 with (first | (go_at_call 30; refine (HH.out _).mono ?_; rintro e wb ⟨rfl, rfl⟩))
  (try dsimp only [Act.put, List.setIfInBounds_toArray, List.set_cons_zero, List.set_cons_succ])
  have HB := Lib.hid (show Below w.heap.size w w.drew from (Below.refl _ _).drew)
  refine wp_region_any (by kernel_rfl) ?_
  change wpAny _ _ _ _ _ _ _ w.drew
  refine any_move 0 (d := 22) (x := .tmp 0) (.slice a n cap) (by rfl) (by kernel_rfl) (by kernel_rfl) (by kernel_rfl) (fun _ _ _ h => h) (by rfl) ?_
  simp only [Act.put, List.setIfInBounds_toArray, List.set_cons_zero, List.set_cons_succ]
  refine any_move 1 (d := 23) (x := .tmp 7) (.int .i64 (k : Int)) (by rfl) (by kernel_rfl) (by kernel_rfl) (by kernel_rfl) (fun _ _ _ h => h) (by rfl) ?_
  simp only [Act.put, List.setIfInBounds_toArray, List.set_cons_zero, List.set_cons_succ]
  refine any_dhead dtR 2 (d := 24) (x := .tmp 22) (y := .tmp 23) a n cap k (by omega) (by rfl) (by kernel_rfl) (by kernel_rfl) (by kernel_rfl) (fun _ _ _ h => h) (by rfl) (by rfl) ?_
  simp only [Act.put, List.setIfInBounds_toArray, List.set_cons_zero, List.set_cons_succ]
  refine any_move 3 (d := 25) (x := .tmp 1) (.int .i64 (m : Int)) (by rfl) (by kernel_rfl) (by kernel_rfl) (by kernel_rfl) (fun _ _ _ h => h) (by rfl) ?_
  simp only [Act.put, List.setIfInBounds_toArray, List.set_cons_zero, List.set_cons_succ]
  refine any_move 4 (d := 26) (x := .tmp 2) (.bool whole) (by rfl) (by kernel_rfl) (by kernel_rfl) (by kernel_rfl) (fun _ _ _ h => h) (by rfl) ?_
  simp only [Act.put, List.setIfInBounds_toArray, List.set_cons_zero, List.set_cons_succ]
  refine any_move 6 (d := 28) (x := .tmp 0) (.slice a n cap) (by rfl) (by kernel_rfl) (by kernel_rfl) (by kernel_rfl) (fun _ _ _ h => h) (by rfl) ?_
  simp only [Act.put, List.setIfInBounds_toArray, List.set_cons_zero, List.set_cons_succ]
  refine any_move 7 (d := 29) (x := .tmp 7) (.int .i64 (k : Int)) (by rfl) (by kernel_rfl) (by kernel_rfl) (by kernel_rfl) (fun _ _ _ h => h) (by rfl) ?_
  simp only [Act.put, List.setIfInBounds_toArray, List.set_cons_zero, List.set_cons_succ]
  refine any_dcut dtR 8 (d := 30) (x := .tmp 28) (y := .tmp 29) a n cap k (by omega) (by rfl) (by kernel_rfl) (by kernel_rfl) (by kernel_rfl) (fun _ _ _ h => h) (by rfl) (by rfl) ?_
  simp only [Act.put, List.setIfInBounds_toArray, List.set_cons_zero, List.set_cons_succ]
  refine any_call 5 (d := some 27) (f := 34) (xs := #[.tmp 24, .tmp 25, .tmp 26]) (ts := #[22, 3, 4]) (vs := #[.slice a k cap, .int .i64 (m : Int), .bool whole]) (by kernel_rfl) (by rfl) (by go_simp) (by go_simp) (HCX.out _ (HR.out.below HB.out) (HT.out.below HB.out hpos)) ?_
  rintro e w1 ⟨v, rfl, hov, hb1⟩
  refine ⟨_, rfl, ?_⟩
  simp only [Act.put, List.setIfInBounds_toArray, List.set_cons_zero, List.set_cons_succ]
  have HB1 := Lib.hid (HB.out.trans (hb1.mono HB.out.size))
  have HO1 := Lib.hid (show OwnD w1 w.heap.size 31 v p from hov)
  clear hb1 hov
  refine any_call 9 (d := some 31) (f := 12) (xs := #[.tmp 30]) (ts := #[22]) (vs := #[.slice (sld a cap k) (n - k) (cap - k)]) (by kernel_rfl) (by rfl) (by go_simp) (by go_simp) (HCY.out _ (HR.out.below HB1.out) (HT.out.below HB1.out hpos)) ?_
  rintro e w2 ⟨rfl, hb2⟩
  refine ⟨_, rfl, ?_⟩
  simp only [Act.put, List.setIfInBounds_toArray, List.set_cons_zero, List.set_cons_succ]
  have HB2 := Lib.hid (HB1.out.trans (hb2.mono HB1.out.size))
  have HO2 := Lib.hid (HO1.out.below hb2 (Nat.le_refl _))
  clear hb2
  refine any_op 10 (d := some 32) (op := .buildSlice 22 1 #[(0, .tmp 31)]) (by kernel_rfl) (by rfl) ?_
  intro o hod hoo
  refine wp_dlay dtR (.tmp 31) hoo Y HY.out (by rfl) ?_
  rw [hod]
  simp only [Act.put, List.setIfInBounds_toArray, List.set_cons_zero, List.set_cons_succ]
  refine any_op 11 (d := some 33) (op := .call { callee := .builtin .append, args := #[.tmp 27, .tmp 32], argTypes := #[22, 22] }) (by kernel_rfl) (by rfl) ?_
  intro o hod hoo
  refine wp_dpush dtR (.tmp 27) (.tmp 32) hoo w.heap.size v p Y HY.out (by rfl) HO2.out HB2.out.size (by rfl) hpl ?_
  intro v3 w3 hown3 hb3
  rw [hod]
  simp only [Act.put, List.setIfInBounds_toArray, List.set_cons_zero, List.set_cons_succ]
  refine any_assign 12 (d := 6) (x := .tmp 33) v3 (by rfl) (by kernel_rfl) (by kernel_rfl) (by kernel_rfl) (fun _ _ _ h => h) (by rfl) ?_
  simp only [Act.put, List.setIfInBounds_toArray, List.set_cons_zero, List.set_cons_succ]
  refine wpAny_done (by kernel_rfl) ?_ _
  rw [← HPE.out] at hown3
  have HO3 := Lib.hid hown3
  have HB3 := Lib.hid (HB2.out.trans hb3)
  clear hown3 hb3
  go_wp2
  go_ret
  exact ⟨_, rfl, HO3.out, HB3.out⟩
set_option maxRecDepth 100000 in
set_option maxHeartbeats 2000000 in
theorem rprf_r (n k m : Nat) (whole : Bool) (ih : RPRFH n) (ds : Ds) (a : Option Addr) (cap : Nat) (w : World) (hr : DR w a n ds) (h1 : 1 ≤ m) (hm : m < n) (hlc : n ≤ cap) (hcm : cap ≤ 9223372036854775807) (hnm : n ≤ 4398046511104) (ht : Tab w) (hk : Mk.half n = k) (hik : ¬ m ≤ k) :
    Calls Tryd.prog 34 #[.slice a n cap, .int .i64 (m : Int), .bool whole] w (RetDs 31 (partS ds m whole) w) := by
  have h2 : 2 ≤ n := by omega
  have hk0 : 0 < k := by rw [← hk]; exact Mk.half_pos n
  have hkn : k < n := by rw [← hk]; exact Mk.half_lt n h2
  have HT := Lib.hid ht
  have hpos := ht.pos
  have HR := Lib.hid hr
  have HH := Lib.hid (fun W => rhalf_c n W h2 (by omega))
  rw [hk] at HH
  have q0 : ¬ (m : Int) = (n : Int) := by omega
  have q1 : ¬ m = n := by omega
  have q2 : ¬ (m : Int) ≤ (k : Int) := by omega
  obtain ⟨Y, hY⟩ : ∃ Y, Y = rootS (ds.take k) := ⟨_, rfl⟩
  obtain ⟨p, hp⟩ : ∃ p, p = partS (ds.drop k) (m - k) false := ⟨_, rfl⟩
  have HPE := Lib.hid (show partS ds m whole = p ++ [Y] from by
    rw [hp, hY]; unfold partS
    rw [Mk.part_right _ _ _ _ _ (by rw [hr.1]; exact h2) (by rw [hr.1]; omega) (by rw [hr.1, hk]; exact hik), hr.1, hk]; rfl)
  have HY := Lib.hid (show D32 Y from by rw [hY]; exact d32_root _ (d32_take hr.2.1 k))
  have hpl : p.length + 1 ≤ 4398046511104 := by
    have := part_len (n - k) (ds.drop k) (m - k) false (by rw [List.length_drop, hr.1]) (by omega) (by omega)
    rw [hp]; omega
  have HCX := Lib.hid (show ∀ W, DR W a n ds → Tab W → Calls Tryd.prog 34 #[.slice (sld a cap k) (n - k) (cap - k), .int .i64 ((m - k : Nat) : Int), .bool false] W (RetDs 31 p W) from fun W hW hT => by rw [hp]; exact ih (n - k) (by omega) _ (m - k) false _ _ W (hW.drop cap k (by omega) hlc) (by omega) (by omega) (by omega) (by omega) hT)
  have HCY := Lib.hid (show ∀ W, DR W a n ds → Tab W → Calls Tryd.prog 12 #[.slice a k cap] W (DigRet Y W) from fun W hW hT => by rw [hY]; exact rroot_c k _ _ _ W (hW.take k (by omega)) (by omega) (by omega))
  clear hY hp ih hr hk ht
  go_enter Tryd.func34, Tryd.ntmps34
  go_upto_region 8 with (first | (go_at_call 30; refine (HH.out _).mono ?_; rintro e wb ⟨rfl, rfl⟩))
  (try dsimp only [Act.put, List.setIfInBounds_toArray, List.set_cons_zero, List.set_cons_succ])
  have HB := Lib.hid (show Below w.heap.size w w.drew from (Below.refl _ _).drew)
  refine wp_region_any (by kernel_rfl) ?_
  change wpAny _ _ _ _ _ _ _ w.drew
  refine any_move 0 (d := 34) (x := .tmp 0) (.slice a n cap) (by rfl) (by kernel_rfl) (by kernel_rfl) (by kernel_rfl) (fun _ _ _ h => h) (by rfl) ?_
  simp only [Act.put, List.setIfInBounds_toArray, List.set_cons_zero, List.set_cons_succ]
  refine any_move 1 (d := 35) (x := .tmp 7) (.int .i64 (k : Int)) (by rfl) (by kernel_rfl) (by kernel_rfl) (by kernel_rfl) (fun _ _ _ h => h) (by rfl) ?_
  simp only [Act.put, List.setIfInBounds_toArray, List.set_cons_zero, List.set_cons_succ]
  refine any_dcut dtR 2 (d := 36) (x := .tmp 34) (y := .tmp 35) a n cap k (by omega) (by rfl) (by kernel_rfl) (by kernel_rfl) (by kernel_rfl) (fun _ _ _ h => h) (by rfl) (by rfl) ?_
  simp only [Act.put, List.setIfInBounds_toArray, List.set_cons_zero, List.set_cons_succ]
  refine any_move 3 (d := 37) (x := .tmp 1) (.int .i64 (m : Int)) (by rfl) (by kernel_rfl) (by kernel_rfl) (by kernel_rfl) (fun _ _ _ h => h) (by rfl) ?_
  simp only [Act.put, List.setIfInBounds_toArray, List.set_cons_zero, List.set_cons_succ]
  refine any_move 4 (d := 38) (x := .tmp 7) (.int .i64 (k : Int)) (by rfl) (by kernel_rfl) (by kernel_rfl) (by kernel_rfl) (fun _ _ _ h => h) (by rfl) ?_
  simp only [Act.put, List.setIfInBounds_toArray, List.set_cons_zero, List.set_cons_succ]
  refine any_pure 5 (d := 39) (op := .binOp .sub 3 (.tmp 37) (.tmp 38) 3) (.int .i64 ((m - k : Nat) : Int)) (by rfl) (by kernel_rfl) (by kernel_rfl) (by kernel_rfl) (fun _ _ _ h => h) (fun o ho W => by unfold execOp; simp only [ho]; rw [show ((m - k : Nat) : Int) = (m : Int) - (k : Int) by omega]; go_simp; rw [IntKind.wrap_i64]; omega) ?_
  simp only [Act.put, List.setIfInBounds_toArray, List.set_cons_zero, List.set_cons_succ]
  refine any_move 7 (d := 41) (x := .tmp 0) (.slice a n cap) (by rfl) (by kernel_rfl) (by kernel_rfl) (by kernel_rfl) (fun _ _ _ h => h) (by rfl) ?_
  simp only [Act.put, List.setIfInBounds_toArray, List.set_cons_zero, List.set_cons_succ]
  refine any_move 8 (d := 42) (x := .tmp 7) (.int .i64 (k : Int)) (by rfl) (by kernel_rfl) (by kernel_rfl) (by kernel_rfl) (fun _ _ _ h => h) (by rfl) ?_
  simp only [Act.put, List.setIfInBounds_toArray, List.set_cons_zero, List.set_cons_succ]
  refine any_dhead dtR 9 (d := 43) (x := .tmp 41) (y := .tmp 42) a n cap k (by omega) (by rfl) (by kernel_rfl) (by kernel_rfl) (by kernel_rfl) (fun _ _ _ h => h) (by rfl) (by rfl) ?_
  simp only [Act.put, List.setIfInBounds_toArray, List.set_cons_zero, List.set_cons_succ]
  refine any_call 6 (d := some 40) (f := 34) (xs := #[.tmp 36, .tmp 39, .const (.bool false)]) (ts := #[22, 3, 4]) (vs := #[.slice (sld a cap k) (n - k) (cap - k), .int .i64 ((m - k : Nat) : Int), .bool false]) (by kernel_rfl) (by rfl) (by go_simp) (by go_simp) (HCX.out _ (HR.out.below HB.out) (HT.out.below HB.out hpos)) ?_
  rintro e w1 ⟨v, rfl, hov, hb1⟩
  refine ⟨_, rfl, ?_⟩
  simp only [Act.put, List.setIfInBounds_toArray, List.set_cons_zero, List.set_cons_succ]
  have HB1 := Lib.hid (HB.out.trans (hb1.mono HB.out.size))
  have HO1 := Lib.hid (show OwnD w1 w.heap.size 31 v p from hov)
  clear hb1 hov
  refine any_call 10 (d := some 44) (f := 12) (xs := #[.tmp 43]) (ts := #[22]) (vs := #[.slice a k cap]) (by kernel_rfl) (by rfl) (by go_simp) (by go_simp) (HCY.out _ (HR.out.below HB1.out) (HT.out.below HB1.out hpos)) ?_
  rintro e w2 ⟨rfl, hb2⟩
  refine ⟨_, rfl, ?_⟩
  simp only [Act.put, List.setIfInBounds_toArray, List.set_cons_zero, List.set_cons_succ]
  have HB2 := Lib.hid (HB1.out.trans (hb2.mono HB1.out.size))
  have HO2 := Lib.hid (HO1.out.below hb2 (Nat.le_refl _))
  clear hb2
  refine any_op 11 (d := some 45) (op := .buildSlice 22 1 #[(0, .tmp 44)]) (by kernel_rfl) (by rfl) ?_
  intro o hod hoo
  refine wp_dlay dtR (.tmp 44) hoo Y HY.out (by rfl) ?_
  rw [hod]
  simp only [Act.put, List.setIfInBounds_toArray, List.set_cons_zero, List.set_cons_succ]
  refine any_op 12 (d := some 46) (op := .call { callee := .builtin .append, args := #[.tmp 40, .tmp 45], argTypes := #[22, 22] }) (by kernel_rfl) (by rfl) ?_
  intro o hod hoo
  refine wp_dpush dtR (.tmp 40) (.tmp 45) hoo w.heap.size v p Y HY.out (by rfl) HO2.out HB2.out.size (by rfl) hpl ?_
  intro v3 w3 hown3 hb3
  rw [hod]
  simp only [Act.put, List.setIfInBounds_toArray, List.set_cons_zero, List.set_cons_succ]
  refine any_assign 13 (d := 6) (x := .tmp 46) v3 (by rfl) (by kernel_rfl) (by kernel_rfl) (by kernel_rfl) (fun _ _ _ h => h) (by rfl) ?_
  simp only [Act.put, List.setIfInBounds_toArray, List.set_cons_zero, List.set_cons_succ]
  refine wpAny_done (by kernel_rfl) ?_ _
  rw [← HPE.out] at hown3
  have HO3 := Lib.hid hown3
  have HB3 := Lib.hid (HB2.out.trans hb3)
  clear hown3 hb3
  go_wp2
  go_ret
  exact ⟨_, rfl, HO3.out, HB3.out⟩
theorem rprf_c : ∀ (n : Nat) (ds : Ds) (m : Nat) (whole : Bool) (a : Option Addr) (cap : Nat) (w : World), n ≤ 4398046511104 → DR w a n ds → 1 ≤ m → m ≤ n → n ≤ cap → cap ≤ 9223372036854775807 → Tab w →
    Calls Tryd.prog 34 #[.slice a n cap, .int .i64 (m : Int), .bool whole] w (RetDs 31 (partS ds m whole) w) := by
  intro n
  induction n using Nat.strongRecOn with
  | ind n ih =>
    intro ds m whole a cap w hnm hr h1 hm hlc hcm ht
    by_cases he : m = n
    · subst he
      cases whole
      · exact rprf_part m ds a cap w hr hlc hcm ht
      · exact rprf_whole m ds a cap w hr.1
    · have ih' : RPRFH n := fun q hq ds m whole a cap w hr h1 hm hlc hcm ht => ih q hq ds m whole a cap w (by omega) hr h1 hm hlc hcm ht
      by_cases hik : m ≤ Mk.half n
      · exact rprf_l n _ m whole ih' ds a cap w hr h1 (by omega) hlc hcm hnm ht rfl hik
      · exact rprf_r n _ m whole ih' ds a cap w hr h1 (by omega) hlc hcm hnm ht rfl hik
end Go.Proofs.YtoknjhpdbigbhaaDoor
