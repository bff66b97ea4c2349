/-
  The walk over Path.
-/
import Derived.Test.YtlnblfdddellmaaDoorRop
namespace Go.Proofs.YtlnblfdddellmaaDoor
open Go.RowKit
set_option linter.unusedVariables false
section
variable {ops : Array Oper} {Q : Exit → Act → World → Prop} {md : Region.Mode}
theorem any_assign {P : Program} (i : Nat) {d : Nat} {x : Operand} (v : Value) {fuel : Nat} {listed : Array Bool} {a : Act} {w : World}
    (hi : (ops[i]?.map fun o => (o.dst, o.op, o.guard)) = some (some d, .assign x, none)) (hs : Region.noSelect ops = true) (hf : Region.free md ops listed i = true) (hr : (Region.ready md ops listed).contains i = true)
    (hQ : ∀ c a w, Q (.panic c) (a.put (some d) v) w → Q (.panic c) a w) (hx : a.eval x = v)
    (h : wpAny P md ops Q fuel (listed.setIfInBounds i true) (a.put (some d) v) w) : wpAny P md ops Q (fuel + 1) listed a w :=
  any_pure i v hi hs hf hr hQ (fun o ho W => by unfold execOp; simp only [ho, hx]; rfl) h
end
theorem wp_dlay {T E : TypeId} (hT : DT T E) {w : World} {o : Oper} {a : Act} {K : Act → World → Prop} {Q : Exit → Act → World → Prop} (x : Operand) (ho : o.op = .buildSlice T 1 #[(0, x)])
    (d : List Nat) (hd : D32 d) (hx : a.eval x = .agg (cellsOf d).toArray)
    (h : K (a.put o.dst (.slice (some ⟨w.heap.size, 0, none⟩) 1 1)) (w.alloc (.cells (cellsOf d).toArray E))) : o.wp Tryd.prog a w K Q := by
  have hf := hT.one (cellsOf d).toArray (by rw [cellsOf_size, hd.1])
  obtain ⟨i, z, hi, hz, hs, _, _⟩ := hT.info
  unfold Program.builtSlice at hf
  simp only [hi, hz] at hf
  rw [if_neg (by rw [hs]; omega)] at hf
  exact wp_buildSlice T E 1 _ ho (cellsOf d).toArray i z hT.und hi hz (by rw [hs]; omega) (by rw [hs]; omega) (by simp only [List.map_toArray, List.map_cons, List.map_nil, hx]; exact hf) h
/-- the way of a leaf -/
def pathS (ds : Ds) (i : Nat) : Ds := Mk.path (Sha.sum []) nodeS ds i
theorem path_len (n : Nat) : ∀ (ds : Ds) (i : Nat), ds.length = n → i < n → (pathS ds i).length + 1 ≤ n := by
  induction n using Nat.strongRecOn with
  | ind n ih =>
    intro ds i hl hi
    unfold pathS
    by_cases h2 : n < 2
    · rw [Mk.path_less _ _ _ _ (by omega)]; simp; omega
    · have hk := Mk.half_lt n (by omega)
      have hp := Mk.half_pos n
      by_cases hik : i < Mk.half n
      · rw [Mk.path_left _ _ _ _ (by omega) (by rw [hl]; exact hik), hl, List.length_append, List.length_singleton]
        have := ih (Mk.half n) hk (ds.take (Mk.half n)) i (by rw [List.length_take]; omega) hik
        unfold pathS at this
        omega
      · rw [Mk.path_right _ _ _ _ (by omega) (by rw [hl]; exact hik), hl, List.length_append, List.length_singleton]
        have := ih (n - Mk.half n) (by omega) (ds.drop (Mk.half n)) (i - Mk.half n) (by rw [List.length_drop]; omega) (by omega)
        unfold pathS at this
        omega
theorem d32_path (n : Nat) : ∀ (ds : Ds) (i : Nat), ds.length = n → (∀ d ∈ ds, D32 d) → ∀ d ∈ pathS ds i, D32 d := by
  induction n using Nat.strongRecOn with
  | ind n ih =>
    intro ds i hl hds d hd
    unfold pathS at hd
    by_cases h2 : n < 2
    · rw [Mk.path_less _ _ _ _ (by omega)] at hd; simp at hd
    · have hk := Mk.half_lt n (by omega)
      have hp := Mk.half_pos n
      by_cases hik : i < Mk.half n
      · rw [Mk.path_left _ _ _ _ (by omega) (by rw [hl]; exact hik), hl, List.mem_append, List.mem_singleton] at hd
        rcases hd with hd | rfl
        · exact ih (Mk.half n) hk _ i (by rw [List.length_take]; omega) (d32_take hds _) d hd
        · exact d32_root _ (d32_drop hds _)
      · rw [Mk.path_right _ _ _ _ (by omega) (by rw [hl]; exact hik), hl, List.mem_append, List.mem_singleton] at hd
        rcases hd with hd | rfl
        · exact ih (n - Mk.half n) (by omega) _ (i - Mk.half n) (by rw [List.length_drop]; omega) (d32_drop hds _) d hd
        · exact d32_root _ (d32_take hds _)
theorem path_1 (ds : Ds) (a : Option Addr) (cap i : Nat) (w : World) (hl : ds.length = 1) :
    Calls Tryd.prog 49 #[.slice a 1 cap, .int .i64 (i : Int)] w (RetDs 32 (pathS ds i) w) := by
  unfold pathS
  rw [Mk.path_less _ _ _ _ (by omega)]
  go_enter Tryd.func49, Tryd.ntmps49
  go_wp2
  go_ret
  exact ⟨_, rfl, OwnD.nil _ _ _, Below.refl _ _⟩
/-- what a list's shorter lists give -/
def PTH (n : Nat) : Prop := ∀ m, m < n → ∀ (ds : Ds) (i : Nat) (a : Option Addr) (cap : Nat) (w : World), DR w a m ds → i < m → m ≤ cap → cap ≤ 9223372036854775807 → Tab w → Calls Tryd.prog 49 #[.slice a m cap, .int .i64 (i : Int)] w (RetDs 32 (pathS ds i) w)
set_option maxRecDepth 100000 in
set_option maxHeartbeats 2000000 in
theorem path_l (n k i : Nat) (ih : PTH n) (ds : Ds) (a : Option Addr) (cap : Nat) (w : World) (hr : DR w a n ds) (hi : i < n) (hlc : n ≤ cap) (hcm : cap ≤ 9223372036854775807) (hnm : n ≤ 4398046511104) (ht : Tab w) (h2 : 2 ≤ n) (hk : Mk.half n = k) (hik : i < k) :
    Calls Tryd.prog 49 #[.slice a n cap, .int .i64 (i : Int)] w (RetDs 32 (pathS ds i) w) := by
  have hk0 : 0 < k := by rw [← hk]; exact Mk.half_pos n
  have hkn : k < n := by rw [← hk]; exact Mk.half_lt n h2
  have HT := Lib.hid ht
  have hpos := ht.pos
  have HR := Lib.hid hr
  have HH := Lib.hid (fun W => split_c n W h2 (by omega))
  rw [hk] at HH
  have q0 : ¬ n = 1 := by omega
  have q2 : (i : Int) < (k : Int) := by omega
  obtain ⟨Y, hY⟩ : ∃ Y, Y = rootS (ds.drop k) := ⟨_, rfl⟩
  obtain ⟨p, hp⟩ : ∃ p, p = pathS (ds.take k) i := ⟨_, rfl⟩
  have HPE := Lib.hid (show pathS ds i = p ++ [Y] from by
    rw [hp, hY]; unfold pathS
    rw [Mk.path_left _ _ _ _ (by rw [hr.1]; exact h2) (by rw [hr.1, hk]; exact hik), hr.1, hk]; rfl)
  have HY := Lib.hid (show D32 Y from by rw [hY]; exact d32_root _ (d32_drop hr.2.1 k))
  have hpl : p.length + 1 ≤ 4398046511104 := by
    have := path_len k (ds.take k) i (by rw [List.length_take, hr.1]; omega) (by omega)
    rw [hp]; omega
  have HCX := Lib.hid (show ∀ W, DR W a n ds → Tab W → Calls Tryd.prog 49 #[.slice a k cap, .int .i64 (i : Int)] W (RetDs 32 p W) from fun W hW hT => by rw [hp]; exact ih k (by omega) _ i _ _ W (hW.take k (by omega)) (by omega) (by omega) (by omega) hT)
  have HCY := Lib.hid (show ∀ W, DR W a n ds → Tab W → Calls Tryd.prog 32 #[.slice (sld a cap k) (n - k) (cap - k)] W (DigRet Y W) from fun W hW hT => by rw [hY]; exact root_c (n - k) _ _ _ W (hW.drop cap k (by omega) hlc) (by omega) (by omega) hT)
  clear hY hp ih hr hk ht
  go_enter Tryd.func49, Tryd.ntmps49
  go_upto_region 5 with (first | (go_at_call 51; refine (HH.out _).mono ?_; rintro e wb ⟨rfl, rfl⟩))
  (try dsimp only [Act.put, List.setIfInBounds_toArray, List.set_cons_zero, List.set_cons_succ])
  have HB := Lib.hid (show Below w.heap.size w w.drew from (Below.refl _ _).drew)
  refine wp_region_any (by kernel_rfl) ?_
  change wpAny _ _ _ _ _ _ _ w.drew
  refine any_move 0 (d := 15) (x := .tmp 0) (.slice a n cap) (by rfl) (by kernel_rfl) (by kernel_rfl) (by kernel_rfl) (fun _ _ _ h => h) (by rfl) ?_
  simp only [Act.put, List.setIfInBounds_toArray, List.set_cons_zero, List.set_cons_succ]
  refine any_move 1 (d := 16) (x := .tmp 5) (.int .i64 (k : Int)) (by rfl) (by kernel_rfl) (by kernel_rfl) (by kernel_rfl) (fun _ _ _ h => h) (by rfl) ?_
  simp only [Act.put, List.setIfInBounds_toArray, List.set_cons_zero, List.set_cons_succ]
  refine any_dhead dtA 2 (d := 17) (x := .tmp 15) (y := .tmp 16) a n cap k (by omega) (by rfl) (by kernel_rfl) (by kernel_rfl) (by kernel_rfl) (fun _ _ _ h => h) (by rfl) (by rfl) ?_
  simp only [Act.put, List.setIfInBounds_toArray, List.set_cons_zero, List.set_cons_succ]
  refine any_move 3 (d := 18) (x := .tmp 1) (.int .i64 (i : Int)) (by rfl) (by kernel_rfl) (by kernel_rfl) (by kernel_rfl) (fun _ _ _ h => h) (by rfl) ?_
  simp only [Act.put, List.setIfInBounds_toArray, List.set_cons_zero, List.set_cons_succ]
  refine any_move 5 (d := 20) (x := .tmp 0) (.slice a n cap) (by rfl) (by kernel_rfl) (by kernel_rfl) (by kernel_rfl) (fun _ _ _ h => h) (by rfl) ?_
  simp only [Act.put, List.setIfInBounds_toArray, List.set_cons_zero, List.set_cons_succ]
  refine any_move 6 (d := 21) (x := .tmp 5) (.int .i64 (k : Int)) (by rfl) (by kernel_rfl) (by kernel_rfl) (by kernel_rfl) (fun _ _ _ h => h) (by rfl) ?_
  simp only [Act.put, List.setIfInBounds_toArray, List.set_cons_zero, List.set_cons_succ]
  refine any_dcut dtA 7 (d := 22) (x := .tmp 20) (y := .tmp 21) a n cap k (by omega) (by rfl) (by kernel_rfl) (by kernel_rfl) (by kernel_rfl) (fun _ _ _ h => h) (by rfl) (by rfl) ?_
  simp only [Act.put, List.setIfInBounds_toArray, List.set_cons_zero, List.set_cons_succ]
  refine any_call 4 (d := some 19) (f := 49) (xs := #[.tmp 17, .tmp 18]) (ts := #[28, 3]) (vs := #[.slice a k cap, .int .i64 (i : Int)]) (by kernel_rfl) (by rfl) (by go_simp) (by go_simp) (HCX.out _ (HR.out.below HB.out) (HT.out.below HB.out hpos)) ?_
  rintro e w1 ⟨v, rfl, hov, hb1⟩
  refine ⟨_, rfl, ?_⟩
  simp only [Act.put, List.setIfInBounds_toArray, List.set_cons_zero, List.set_cons_succ]
  have HB1 := Lib.hid (HB.out.trans (hb1.mono HB.out.size))
  have HO1 := Lib.hid (show OwnD w1 w.heap.size 32 v p from hov)
  clear hb1 hov
  refine any_call 8 (d := some 23) (f := 32) (xs := #[.tmp 22]) (ts := #[28]) (vs := #[.slice (sld a cap k) (n - k) (cap - k)]) (by kernel_rfl) (by rfl) (by go_simp) (by go_simp) (HCY.out _ (HR.out.below HB1.out) (HT.out.below HB1.out hpos)) ?_
  rintro e w2 ⟨rfl, hb2⟩
  refine ⟨_, rfl, ?_⟩
  simp only [Act.put, List.setIfInBounds_toArray, List.set_cons_zero, List.set_cons_succ]
  have HB2 := Lib.hid (HB1.out.trans (hb2.mono HB1.out.size))
  have HO2 := Lib.hid (HO1.out.below hb2 (Nat.le_refl _))
  clear hb2
  refine any_op 9 (d := some 24) (op := .buildSlice 28 1 #[(0, .tmp 23)]) (by kernel_rfl) (by rfl) ?_
  intro o hod hoo
  refine wp_dlay dtA (.tmp 23) hoo Y HY.out (by rfl) ?_
  rw [hod]
  simp only [Act.put, List.setIfInBounds_toArray, List.set_cons_zero, List.set_cons_succ]
  refine any_op 10 (d := some 25) (op := .call { callee := .builtin .append, args := #[.tmp 19, .tmp 24], argTypes := #[28, 28] }) (by kernel_rfl) (by rfl) ?_
  intro o hod hoo
  refine wp_dpush dtA (.tmp 19) (.tmp 24) hoo w.heap.size v p Y HY.out (by rfl) HO2.out HB2.out.size (by rfl) hpl ?_
  intro v3 w3 hown3 hb3
  rw [hod]
  simp only [Act.put, List.setIfInBounds_toArray, List.set_cons_zero, List.set_cons_succ]
  refine any_assign 11 (d := 4) (x := .tmp 25) v3 (by rfl) (by kernel_rfl) (by kernel_rfl) (by kernel_rfl) (fun _ _ _ h => h) (by rfl) ?_
  simp only [Act.put, List.setIfInBounds_toArray, List.set_cons_zero, List.set_cons_succ]
  refine wpAny_done (by kernel_rfl) ?_ _
  rw [← HPE.out] at hown3
  have HO3 := Lib.hid hown3
  have HB3 := Lib.hid (HB2.out.trans hb3)
  clear hown3 hb3
  go_wp2
  go_ret
  exact ⟨_, rfl, HO3.out, HB3.out⟩
set_option maxRecDepth 100000 in
set_option maxHeartbeats 2000000 in
theorem path_r (n k i : Nat) (ih : PTH n) (ds : Ds) (a : Option Addr) (cap : Nat) (w : World) (hr : DR w a n ds) (hi : i < n) (hlc : n ≤ cap) (hcm : cap ≤ 9223372036854775807) (hnm : n ≤ 4398046511104) (ht : Tab w) (h2 : 2 ≤ n) (hk : Mk.half n = k) (hik : ¬ i < k) :
    Calls Tryd.prog 49 #[.slice a n cap, .int .i64 (i : Int)] w (RetDs 32 (pathS ds i) w) := by
  have hk0 : 0 < k := by rw [← hk]; exact Mk.half_pos n
  have hkn : k < n := by rw [← hk]; exact Mk.half_lt n h2
  have HT := Lib.hid ht
  have hpos := ht.pos
  have HR := Lib.hid hr
  have HH := Lib.hid (fun W => split_c n W h2 (by omega))
  rw [hk] at HH
  have q0 : ¬ n = 1 := by omega
  have q2 : ¬ (i : Int) < (k : Int) := by omega
  obtain ⟨Y, hY⟩ : ∃ Y, Y = rootS (ds.take k) := ⟨_, rfl⟩
  obtain ⟨p, hp⟩ : ∃ p, p = pathS (ds.drop k) (i - k) := ⟨_, rfl⟩
  have HPE := Lib.hid (show pathS ds i = p ++ [Y] from by
    rw [hp, hY]; unfold pathS
    rw [Mk.path_right _ _ _ _ (by rw [hr.1]; exact h2) (by rw [hr.1, hk]; exact hik), hr.1, hk]; rfl)
  have HY := Lib.hid (show D32 Y from by rw [hY]; exact d32_root _ (d32_take hr.2.1 k))
  have hpl : p.length + 1 ≤ 4398046511104 := by
    have := path_len (n - k) (ds.drop k) (i - k) (by rw [List.length_drop, hr.1]) (by omega)
    rw [hp]; omega
  have HCX := Lib.hid (show ∀ W, DR W a n ds → Tab W → Calls Tryd.prog 49 #[.slice (sld a cap k) (n - k) (cap - k), .int .i64 ((i - k : Nat) : Int)] W (RetDs 32 p W) from fun W hW hT => by rw [hp]; exact ih (n - k) (by omega) _ (i - k) _ _ W (hW.drop cap k (by omega) hlc) (by omega) (by omega) (by omega) hT)
  have HCY := Lib.hid (show ∀ W, DR W a n ds → Tab W → Calls Tryd.prog 32 #[.slice a k cap] W (DigRet Y W) from fun W hW hT => by rw [hY]; exact root_c k _ _ _ W (hW.take k (by omega)) (by omega) (by omega) hT)
  clear hY hp ih hr hk ht
  go_enter Tryd.func49, Tryd.ntmps49
  go_upto_region 6 with (first | (go_at_call 51; refine (HH.out _).mono ?_; rintro e wb ⟨rfl, rfl⟩))
  (try dsimp only [Act.put, List.setIfInBounds_toArray, List.set_cons_zero, List.set_cons_succ])
  have HB := Lib.hid (show Below w.heap.size w w.drew from (Below.refl _ _).drew)
  refine wp_region_any (by kernel_rfl) ?_
  change wpAny _ _ _ _ _ _ _ w.drew
  refine any_move 0 (d := 26) (x := .tmp 0) (.slice a n cap) (by rfl) (by kernel_rfl) (by kernel_rfl) (by kernel_rfl) (fun _ _ _ h => h) (by rfl) ?_
  simp only [Act.put, List.setIfInBounds_toArray, List.set_cons_zero, List.set_cons_succ]
  refine any_move 1 (d := 27) (x := .tmp 5) (.int .i64 (k : Int)) (by rfl) (by kernel_rfl) (by kernel_rfl) (by kernel_rfl) (fun _ _ _ h => h) (by rfl) ?_
  simp only [Act.put, List.setIfInBounds_toArray, List.set_cons_zero, List.set_cons_succ]
  refine any_dcut dtA 2 (d := 28) (x := .tmp 26) (y := .tmp 27) a n cap k (by omega) (by rfl) (by kernel_rfl) (by kernel_rfl) (by kernel_rfl) (fun _ _ _ h => h) (by rfl) (by rfl) ?_
  simp only [Act.put, List.setIfInBounds_toArray, List.set_cons_zero, List.set_cons_succ]
  refine any_move 3 (d := 29) (x := .tmp 1) (.int .i64 (i : Int)) (by rfl) (by kernel_rfl) (by kernel_rfl) (by kernel_rfl) (fun _ _ _ h => h) (by rfl) ?_
  simp only [Act.put, List.setIfInBounds_toArray, List.set_cons_zero, List.set_cons_succ]
  refine any_move 4 (d := 30) (x := .tmp 5) (.int .i64 (k : Int)) (by rfl) (by kernel_rfl) (by kernel_rfl) (by kernel_rfl) (fun _ _ _ h => h) (by rfl) ?_
  simp only [Act.put, List.setIfInBounds_toArray, List.set_cons_zero, List.set_cons_succ]
  refine any_pure 5 (d := 31) (op := .binOp .sub 3 (.tmp 29) (.tmp 30) 3) (.int .i64 ((i - k : Nat) : Int)) (by rfl) (by kernel_rfl) (by kernel_rfl) (by kernel_rfl) (fun _ _ _ h => h) (fun o ho W => by unfold execOp; simp only [ho]; rw [show ((i - k : Nat) : Int) = (i : Int) - (k : Int) by omega]; go_simp; rw [IntKind.wrap_i64]; omega) ?_
  simp only [Act.put, List.setIfInBounds_toArray, List.set_cons_zero, List.set_cons_succ]
  refine any_move 7 (d := 33) (x := .tmp 0) (.slice a n cap) (by rfl) (by kernel_rfl) (by kernel_rfl) (by kernel_rfl) (fun _ _ _ h => h) (by rfl) ?_
  simp only [Act.put, List.setIfInBounds_toArray, List.set_cons_zero, List.set_cons_succ]
  refine any_move 8 (d := 34) (x := .tmp 5) (.int .i64 (k : Int)) (by rfl) (by kernel_rfl) (by kernel_rfl) (by kernel_rfl) (fun _ _ _ h => h) (by rfl) ?_
  simp only [Act.put, List.setIfInBounds_toArray, List.set_cons_zero, List.set_cons_succ]
  refine any_dhead dtA 9 (d := 35) (x := .tmp 33) (y := .tmp 34) a n cap k (by omega) (by rfl) (by kernel_rfl) (by kernel_rfl) (by kernel_rfl) (fun _ _ _ h => h) (by rfl) (by rfl) ?_
  simp only [Act.put, List.setIfInBounds_toArray, List.set_cons_zero, List.set_cons_succ]
  refine any_call 6 (d := some 32) (f := 49) (xs := #[.tmp 28, .tmp 31]) (ts := #[28, 3]) (vs := #[.slice (sld a cap k) (n - k) (cap - k), .int .i64 ((i - k : Nat) : Int)]) (by kernel_rfl) (by rfl) (by go_simp) (by go_simp) (HCX.out _ (HR.out.below HB.out) (HT.out.below HB.out hpos)) ?_
  rintro e w1 ⟨v, rfl, hov, hb1⟩
  refine ⟨_, rfl, ?_⟩
  simp only [Act.put, List.setIfInBounds_toArray, List.set_cons_zero, List.set_cons_succ]
  have HB1 := Lib.hid (HB.out.trans (hb1.mono HB.out.size))
  have HO1 := Lib.hid (show OwnD w1 w.heap.size 32 v p from hov)
  clear hb1 hov
  refine any_call 10 (d := some 36) (f := 32) (xs := #[.tmp 35]) (ts := #[28]) (vs := #[.slice a k cap]) (by kernel_rfl) (by rfl) (by go_simp) (by go_simp) (HCY.out _ (HR.out.below HB1.out) (HT.out.below HB1.out hpos)) ?_
  rintro e w2 ⟨rfl, hb2⟩
  refine ⟨_, rfl, ?_⟩
  simp only [Act.put, List.setIfInBounds_toArray, List.set_cons_zero, List.set_cons_succ]
  have HB2 := Lib.hid (HB1.out.trans (hb2.mono HB1.out.size))
  have HO2 := Lib.hid (HO1.out.below hb2 (Nat.le_refl _))
  clear hb2
  refine any_op 11 (d := some 37) (op := .buildSlice 28 1 #[(0, .tmp 36)]) (by kernel_rfl) (by rfl) ?_
  intro o hod hoo
  refine wp_dlay dtA (.tmp 36) hoo Y HY.out (by rfl) ?_
  rw [hod]
  simp only [Act.put, List.setIfInBounds_toArray, List.set_cons_zero, List.set_cons_succ]
  refine any_op 12 (d := some 38) (op := .call { callee := .builtin .append, args := #[.tmp 32, .tmp 37], argTypes := #[28, 28] }) (by kernel_rfl) (by rfl) ?_
  intro o hod hoo
  refine wp_dpush dtA (.tmp 32) (.tmp 37) hoo w.heap.size v p Y HY.out (by rfl) HO2.out HB2.out.size (by rfl) hpl ?_
  intro v3 w3 hown3 hb3
  rw [hod]
  simp only [Act.put, List.setIfInBounds_toArray, List.set_cons_zero, List.set_cons_succ]
  refine any_assign 13 (d := 4) (x := .tmp 38) v3 (by rfl) (by kernel_rfl) (by kernel_rfl) (by kernel_rfl) (fun _ _ _ h => h) (by rfl) ?_
  simp only [Act.put, List.setIfInBounds_toArray, List.set_cons_zero, List.set_cons_succ]
  refine wpAny_done (by kernel_rfl) ?_ _
  rw [← HPE.out] at hown3
  have HO3 := Lib.hid hown3
  have HB3 := Lib.hid (HB2.out.trans hb3)
  clear hown3 hb3
  go_wp2
  go_ret
  exact ⟨_, rfl, HO3.out, HB3.out⟩
theorem path_c : ∀ (n : Nat) (ds : Ds) (i : Nat) (a : Option Addr) (cap : Nat) (w : World), n ≤ 4398046511104 → DR w a n ds → i < n → n ≤ cap → cap ≤ 9223372036854775807 → Tab w →
    Calls Tryd.prog 49 #[.slice a n cap, .int .i64 (i : Int)] w (RetDs 32 (pathS ds i) w) := by
  intro n
  induction n using Nat.strongRecOn with
  | ind n ih =>
    intro ds i a cap w hnm hr hi hlc hcm ht
    by_cases h1 : n = 1
    · subst h1
      exact path_1 ds a cap i w hr.1
    · have ih' : PTH n := fun m hm ds i a cap w hr hi hlc hcm ht => ih m hm ds i a cap w (by omega) hr hi hlc hcm ht
      by_cases hik : i < Mk.half n
      · exact path_l n _ i ih' ds a cap w hr hi hlc hcm hnm ht (by omega) rfl hik
      · exact path_r n _ i ih' ds a cap w hr hi hlc hcm hnm ht (by omega) rfl hik
/-- two results: new sums and no error -/
def RetDs2 (E : TypeId) (ds : Ds) (w : World) (e : Ending) (w' : World) : Prop := ∃ v, e = .returned (.tuple #[v, .int .i64 0]) ∧ OwnD w' w.heap.size E v ds ∧ Below w.heap.size w w'
set_option maxRecDepth 100000 in
theorem Path_ok (n i : Nat) (ds : Ds) (a : Option Addr) (cap : Nat) (w : World) (hnm : n ≤ 4398046511104) (hr : DR w a n ds) (hi : i < n) (hlc : n ≤ cap) (hcm : cap ≤ 9223372036854775807) (ht : Tab w) :
    Calls Tryd.prog 31 #[.slice a n cap, .int .i64 (i : Int)] w (RetDs2 32 (pathS ds i) w) := by
  have HC := Lib.hid (path_c n ds i a cap w hnm hr hi hlc hcm ht)
  have q0 : ¬ (i : Int) < 0 := by omega
  have q1 : (i : Int) < (n : Int) := by omega
  clear hr ht
  go_enter Tryd.func31, Tryd.ntmps31
  go_wp2_with (first | (go_at_call 49; refine HC.out.mono ?_; rintro e wb ⟨v, rfl, ho, hb⟩; have HO := Lib.hid ho; have HB := Lib.hid hb; clear ho hb))
  go_ret2
  exact ⟨_, rfl, HO.out, HB.out⟩
set_option maxRecDepth 100000 in
theorem Path_no (n : Nat) (i : Int) (a : Option Addr) (cap : Nat) (w : World) (hi : i < 0 ∨ (n : Int) ≤ i) :
    Calls Tryd.prog 31 #[.slice a n cap, .int .i64 i] w fun e w' => e = .returned (.tuple #[.slice none 0 0, .int .i64 1]) ∧ w = w' := by
  by_cases h0 : i < 0
  · clear hi
    go_enter Tryd.func31, Tryd.ntmps31
    go_wp2
    go_ret2
    exact ⟨rfl, rfl⟩
  · have q1 : ¬ i < (n : Int) := by omega
    clear hi
    go_enter Tryd.func31, Tryd.ntmps31
    go_wp2
    go_ret2
    exact ⟨rfl, rfl⟩
end Go.Proofs.YtlnblfdddellmaaDoor
