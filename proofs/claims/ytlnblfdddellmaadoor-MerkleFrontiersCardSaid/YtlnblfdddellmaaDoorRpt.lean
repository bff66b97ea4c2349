/-
  The walks over the document's Path and Same.
-/
import Derived.Test.YtlnblfdddellmaaDoorPth
import Derived.Test.YtlnblfdddellmaaDoorAnx
namespace Go.Proofs.YtlnblfdddellmaaDoor
open Go.RowKit
set_option linter.unusedVariables false
/-- the same sums? -/
theorem neq_dig {T E : TypeId} (hT : DT T E) (W : World) {a b : List Nat} (ha : D32 a) (hb : D32 b) : (Op.equalIn 10000 E (.agg (cellsOf a).toArray) (.agg (cellsOf b).toArray)).run Tryd.prog W = .ok (decide (a = b)) W := eq_dig E 32 hT.undE W a b ha.1 hb.1 ha.2 hb.2
set_option maxRecDepth 100000 in
set_option maxHeartbeats 1000000 in
theorem dsame_no (n m : Nat) (a b : Option Addr) (c d : Nat) (w : World) (h : n ≠ m) :
    Calls Tryd.prog 13 #[.slice a n c, .slice b m d] w fun e w' => e = .returned (.bool false) ∧ w = w' := by
  have h1 : ¬ (n : Int) = (m : Int) := by omega
  go_enter Tryd.func13, Tryd.ntmps13
  go_wp2
  go_ret
  exact ⟨rfl, rfl⟩
def SB2 (a b : Option Addr) (n : Nat) (xs ys : Ds) (W : World) : Prop := DR W a n xs ∧ DR W b n ys
theorem take_eq_succ {xs ys : Ds} {k : Nat} (hx : k < xs.length) (hy : k < ys.length) (h : xs.take k = ys.take k) (he : xs.getD k [] = ys.getD k []) : xs.take (k + 1) = ys.take (k + 1) := by
  rw [List.take_succ_eq_append_getElem hx, List.take_succ_eq_append_getElem hy, h]
  simp only [List.getD_eq_getElem?_getD, List.getElem?_eq_getElem hx, List.getElem?_eq_getElem hy, Option.getD_some] at he
  rw [he]
theorem drewN_drew (w : World) (q : Nat) : (w.drewN q).drew = w.drewN (q + 1) := by simp [World.drewN, World.drew, Nat.add_assoc]
set_option maxRecDepth 100000 in
set_option maxHeartbeats 2000000 in
theorem dsame_yes (n : Nat) (hn : n ≤ 4398046511104) (a b : Option Addr) (c d : Nat) (xs ys : Ds) (w : World) (ha : DR w a n xs) (hb : DR w b n ys) :
    Calls Tryd.prog 13 #[.slice a n c, .slice b n d] w fun e w' => e = .returned (.bool (decide (xs = ys))) ∧ ∃ q, w' = w.drewN q := by
  have HA := Lib.hid ha
  have HB := Lib.hid hb
  have HGT := Lib.hid (show Tryd.prog.eqGuardType Tryd.prog.depth 31 = false by kernel_rfl)
  clear ha hb
  go_enter Tryd.func13, Tryd.ntmps13
  go_wp2
  go_loopw [5] (fun i wr => ∃ k : Nat, k ≤ n ∧ i = .int .i64 k ∧ Hid (xs.take k = ys.take k) ∧ Hid (∃ q, wr = w.drewN q)) (fun i _ => n - (intOf i).toNat)
  case atStart => exact ⟨0, Nat.zero_le _, rfl, rfl, ⟨0, rfl⟩⟩
  case round =>
    obtain ⟨k, hk, rfl, HE, HW⟩ := hrel
    by_cases hkn : k < n
    · obtain ⟨q, hq⟩ := HW.out
      subst hq
      clear HW
      obtain ⟨ba, oa, rfl, _, hca⟩ := HA.out.at k hkn
      obtain ⟨bb, ob, rfl, _, hcb⟩ := HB.out.at k hkn
      have hxk : k < xs.length := by rw [HA.out.1]; exact hkn
      have hyk : k < ys.length := by rw [HB.out.1]; exact hkn
      obtain ⟨x, hx⟩ : ∃ x, x = xs.getD k [] := ⟨_, rfl⟩
      obtain ⟨y, hy⟩ : ∃ y, y = ys.getD k [] := ⟨_, rfl⟩
      rw [← hx] at hca
      rw [← hy] at hcb
      have HX := Lib.hid (show D32 x from by rw [hx]; exact D32.get HA.out.2.1 k hxk)
      have HY := Lib.hid (show D32 y from by rw [hy]; exact D32.get HB.out.2.1 k hyk)
      have HXE := Lib.hid hx
      have HYE := Lib.hid hy
      have HIA := Lib.hid (fun W => run_dindex dtR W ba oa n c k hkn)
      have HIB := Lib.hid (fun W => run_dindex dtR W bb ob n d k hkn)
      have HLA := Lib.hid (fun W (hW : W.rangeAt ba (oa + k * 32) (cellsOf x) ∧ W.rangeAt bb (ob + k * 32) (cellsOf y)) => run_dload dtR W ba (oa + k * 32) x HX.out hW.1)
      have HLB := Lib.hid (fun W (hW : W.rangeAt ba (oa + k * 32) (cellsOf x) ∧ W.rangeAt bb (ob + k * 32) (cellsOf y)) => run_dload dtR W bb (ob + k * 32) y HY.out hW.2)
      have HS := Lib.hid (show (fun W : World => W.rangeAt ba (oa + k * 32) (cellsOf x) ∧ W.rangeAt bb (ob + k * 32) (cellsOf y)) (w.drewN q).drew from ⟨hca, hcb⟩)
      clear hx hy hca hcb
      go_upto_region 6 with fail
      (try dsimp only [Act.put, List.setIfInBounds_toArray, List.set_cons_zero, List.set_cons_succ])
      by_cases hxy : x = y
      · have HEQ := Lib.hid (show ∀ W, (Op.equalIn 10000 31 (.agg (cellsOf x).toArray) (.agg (cellsOf y).toArray)).run Tryd.prog W = .ok true W from fun W => by rw [neq_dig dtR W HX.out HY.out, decide_eq_true hxy])
        have HN := Lib.hid (take_eq_succ hxk hyk HE.out (by rw [← HXE.out, ← HYE.out, hxy]))
        clear hxy
        refine anyH_begin (S := fun W : World => W.rangeAt ba (oa + k * 32) (cellsOf x) ∧ W.rangeAt bb (ob + k * 32) (cellsOf y)) (by kernel_rfl) ?_
        refine anyH_pureG 0 (d := 17) (op := .move (.tmp 0)) (gd := none) (.slice (some ⟨ba, oa, none⟩) n c) (by rfl) (fun o ho => wanted_plain ho _) (by kernel_rfl) (by kernel_rfl) (by kernel_rfl) (fun _ _ _ h => h) (fun o ho W hW => by unfold execOp; simp only [ho]; go_simp) HS.out ?_
        simp only [Act.put, List.setIfInBounds_toArray, List.set_cons_zero, List.set_cons_succ]
        refine anyH_pureG 1 (d := 18) (op := .move (.tmp 5)) (gd := none) (.int .i64 (k : Int)) (by rfl) (fun o ho => wanted_plain ho _) (by kernel_rfl) (by kernel_rfl) (by kernel_rfl) (fun _ _ _ h => h) (fun o ho W hW => by unfold execOp; simp only [ho]; go_simp) HS.out ?_
        simp only [Act.put, List.setIfInBounds_toArray, List.set_cons_zero, List.set_cons_succ]
        refine anyH_pureG 2 (d := 19) (op := .indexAddr 22 (.tmp 17) (.tmp 18)) (gd := none) (.pointer (some ⟨ba, oa + k * 32, none⟩)) (by rfl) (fun o ho => wanted_plain ho _) (by kernel_rfl) (by kernel_rfl) (by kernel_rfl) (fun _ _ _ h => h) (fun o ho W hW => by unfold execOp; simp only [ho, Sem.run_bind, Sem.run_pure]; exact Eq.trans (congrArg (fun r => Result.andThen r (fun v W1 => .ok (Next.value v) W1)) (HIA.out W)) rfl) HS.out ?_
        simp only [Act.put, List.setIfInBounds_toArray, List.set_cons_zero, List.set_cons_succ]
        refine anyH_loadG 3 (d := 20) (ty := 31) (x := (.tmp 19)) (gd := none) (p := .pointer (some ⟨ba, oa + k * 32, none⟩)) (.agg (cellsOf x).toArray) (by rfl) (fun o ho => wanted_plain ho _) (by kernel_rfl) (by kernel_rfl) (by kernel_rfl) (fun _ _ _ h => h) (by rfl) HLA.out HS.out ?_
        simp only [Act.put, List.setIfInBounds_toArray, List.set_cons_zero, List.set_cons_succ]
        refine anyH_pureG 4 (d := 21) (op := .move (.tmp 1)) (gd := none) (.slice (some ⟨bb, ob, none⟩) n d) (by rfl) (fun o ho => wanted_plain ho _) (by kernel_rfl) (by kernel_rfl) (by kernel_rfl) (fun _ _ _ h => h) (fun o ho W hW => by unfold execOp; simp only [ho]; go_simp) HS.out ?_
        simp only [Act.put, List.setIfInBounds_toArray, List.set_cons_zero, List.set_cons_succ]
        refine anyH_pureG 5 (d := 22) (op := .move (.tmp 5)) (gd := none) (.int .i64 (k : Int)) (by rfl) (fun o ho => wanted_plain ho _) (by kernel_rfl) (by kernel_rfl) (by kernel_rfl) (fun _ _ _ h => h) (fun o ho W hW => by unfold execOp; simp only [ho]; go_simp) HS.out ?_
        simp only [Act.put, List.setIfInBounds_toArray, List.set_cons_zero, List.set_cons_succ]
        refine anyH_pureG 6 (d := 23) (op := .indexAddr 22 (.tmp 21) (.tmp 22)) (gd := none) (.pointer (some ⟨bb, ob + k * 32, none⟩)) (by rfl) (fun o ho => wanted_plain ho _) (by kernel_rfl) (by kernel_rfl) (by kernel_rfl) (fun _ _ _ h => h) (fun o ho W hW => by unfold execOp; simp only [ho, Sem.run_bind, Sem.run_pure]; exact Eq.trans (congrArg (fun r => Result.andThen r (fun v W1 => .ok (Next.value v) W1)) (HIB.out W)) rfl) HS.out ?_
        simp only [Act.put, List.setIfInBounds_toArray, List.set_cons_zero, List.set_cons_succ]
        refine anyH_loadG 7 (d := 24) (ty := 31) (x := (.tmp 23)) (gd := none) (p := .pointer (some ⟨bb, ob + k * 32, none⟩)) (.agg (cellsOf y).toArray) (by rfl) (fun o ho => wanted_plain ho _) (by kernel_rfl) (by kernel_rfl) (by kernel_rfl) (fun _ _ _ h => h) (by rfl) HLB.out HS.out ?_
        simp only [Act.put, List.setIfInBounds_toArray, List.set_cons_zero, List.set_cons_succ]
        refine anyH_neqG 8 (d := 25) (t := 31) (t' := 31) (x := (.tmp 20)) (y := (.tmp 24)) (gd := none) ((cellsOf x).toArray) ((cellsOf y).toArray) true (by rfl) (fun o ho => wanted_plain ho _) (by kernel_rfl) (by kernel_rfl) (by kernel_rfl) (fun _ _ _ h => h) (by rfl) (by rfl) HGT.out HEQ.out HS.out ?_
        simp only [Act.put, List.setIfInBounds_toArray, List.set_cons_zero, List.set_cons_succ]
        refine wpAnyH_done (by kernel_rfl) ?_ _
        go_wp2
        go_roundw
        case rel => exact ⟨k + 1, by omega, by go_num, HN, ⟨q + 1, drewN_drew w q⟩⟩
        case measure => simp [intOf]; omega
      · have HEQ := Lib.hid (show ∀ W, (Op.equalIn 10000 31 (.agg (cellsOf x).toArray) (.agg (cellsOf y).toArray)).run Tryd.prog W = .ok false W from fun W => by rw [neq_dig dtR W HX.out HY.out, decide_eq_false hxy])
        have HN := Lib.hid (show decide (xs = ys) = false from decide_eq_false (fun h => hxy (by rw [HXE.out, HYE.out, h])))
        clear hxy
        refine anyH_begin (S := fun W : World => W.rangeAt ba (oa + k * 32) (cellsOf x) ∧ W.rangeAt bb (ob + k * 32) (cellsOf y)) (by kernel_rfl) ?_
        refine anyH_pureG 0 (d := 17) (op := .move (.tmp 0)) (gd := none) (.slice (some ⟨ba, oa, none⟩) n c) (by rfl) (fun o ho => wanted_plain ho _) (by kernel_rfl) (by kernel_rfl) (by kernel_rfl) (fun _ _ _ h => h) (fun o ho W hW => by unfold execOp; simp only [ho]; go_simp) HS.out ?_
        simp only [Act.put, List.setIfInBounds_toArray, List.set_cons_zero, List.set_cons_succ]
        refine anyH_pureG 1 (d := 18) (op := .move (.tmp 5)) (gd := none) (.int .i64 (k : Int)) (by rfl) (fun o ho => wanted_plain ho _) (by kernel_rfl) (by kernel_rfl) (by kernel_rfl) (fun _ _ _ h => h) (fun o ho W hW => by unfold execOp; simp only [ho]; go_simp) HS.out ?_
        simp only [Act.put, List.setIfInBounds_toArray, List.set_cons_zero, List.set_cons_succ]
        refine anyH_pureG 2 (d := 19) (op := .indexAddr 22 (.tmp 17) (.tmp 18)) (gd := none) (.pointer (some ⟨ba, oa + k * 32, none⟩)) (by rfl) (fun o ho => wanted_plain ho _) (by kernel_rfl) (by kernel_rfl) (by kernel_rfl) (fun _ _ _ h => h) (fun o ho W hW => by unfold execOp; simp only [ho, Sem.run_bind, Sem.run_pure]; exact Eq.trans (congrArg (fun r => Result.andThen r (fun v W1 => .ok (Next.value v) W1)) (HIA.out W)) rfl) HS.out ?_
        simp only [Act.put, List.setIfInBounds_toArray, List.set_cons_zero, List.set_cons_succ]
        refine anyH_loadG 3 (d := 20) (ty := 31) (x := (.tmp 19)) (gd := none) (p := .pointer (some ⟨ba, oa + k * 32, none⟩)) (.agg (cellsOf x).toArray) (by rfl) (fun o ho => wanted_plain ho _) (by kernel_rfl) (by kernel_rfl) (by kernel_rfl) (fun _ _ _ h => h) (by rfl) HLA.out HS.out ?_
        simp only [Act.put, List.setIfInBounds_toArray, List.set_cons_zero, List.set_cons_succ]
        refine anyH_pureG 4 (d := 21) (op := .move (.tmp 1)) (gd := none) (.slice (some ⟨bb, ob, none⟩) n d) (by rfl) (fun o ho => wanted_plain ho _) (by kernel_rfl) (by kernel_rfl) (by kernel_rfl) (fun _ _ _ h => h) (fun o ho W hW => by unfold execOp; simp only [ho]; go_simp) HS.out ?_
        simp only [Act.put, List.setIfInBounds_toArray, List.set_cons_zero, List.set_cons_succ]
        refine anyH_pureG 5 (d := 22) (op := .move (.tmp 5)) (gd := none) (.int .i64 (k : Int)) (by rfl) (fun o ho => wanted_plain ho _) (by kernel_rfl) (by kernel_rfl) (by kernel_rfl) (fun _ _ _ h => h) (fun o ho W hW => by unfold execOp; simp only [ho]; go_simp) HS.out ?_
        simp only [Act.put, List.setIfInBounds_toArray, List.set_cons_zero, List.set_cons_succ]
        refine anyH_pureG 6 (d := 23) (op := .indexAddr 22 (.tmp 21) (.tmp 22)) (gd := none) (.pointer (some ⟨bb, ob + k * 32, none⟩)) (by rfl) (fun o ho => wanted_plain ho _) (by kernel_rfl) (by kernel_rfl) (by kernel_rfl) (fun _ _ _ h => h) (fun o ho W hW => by unfold execOp; simp only [ho, Sem.run_bind, Sem.run_pure]; exact Eq.trans (congrArg (fun r => Result.andThen r (fun v W1 => .ok (Next.value v) W1)) (HIB.out W)) rfl) HS.out ?_
        simp only [Act.put, List.setIfInBounds_toArray, List.set_cons_zero, List.set_cons_succ]
        refine anyH_loadG 7 (d := 24) (ty := 31) (x := (.tmp 23)) (gd := none) (p := .pointer (some ⟨bb, ob + k * 32, none⟩)) (.agg (cellsOf y).toArray) (by rfl) (fun o ho => wanted_plain ho _) (by kernel_rfl) (by kernel_rfl) (by kernel_rfl) (fun _ _ _ h => h) (by rfl) HLB.out HS.out ?_
        simp only [Act.put, List.setIfInBounds_toArray, List.set_cons_zero, List.set_cons_succ]
        refine anyH_neqG 8 (d := 25) (t := 31) (t' := 31) (x := (.tmp 20)) (y := (.tmp 24)) (gd := none) ((cellsOf x).toArray) ((cellsOf y).toArray) false (by rfl) (fun o ho => wanted_plain ho _) (by kernel_rfl) (by kernel_rfl) (by kernel_rfl) (fun _ _ _ h => h) (by rfl) (by rfl) HGT.out HEQ.out HS.out ?_
        simp only [Act.put, List.setIfInBounds_toArray, List.set_cons_zero, List.set_cons_succ]
        refine wpAnyH_done (by kernel_rfl) ?_ _
        go_wp2
        go_ret
        exact ⟨by rw [HN.out]; rfl, ⟨q + 1, drewN_drew w q⟩⟩
    · have HN := Lib.hid (show decide (xs = ys) = true from decide_eq_true (by
        have h := HE.out
        rwa [List.take_of_length_le (by rw [HA.out.1]; omega), List.take_of_length_le (by rw [HB.out.1]; omega)] at h))
      go_wp2
      go_ret
      exact ⟨by rw [HN.out]; rfl, HW.out⟩
theorem dsame_c (n m : Nat) (hn : n ≤ 4398046511104) (a b : Option Addr) (c d : Nat) (xs ys : Ds) (w : World) (ha : DR w a n xs) (hb : DR w b m ys) :
    Calls Tryd.prog 13 #[.slice a n c, .slice b m d] w fun e w' => e = .returned (.bool (decide (xs = ys))) ∧ Below w.heap.size w w' := by
  by_cases h : n = m
  · subst h
    exact (dsame_yes n hn a b c d xs ys w ha hb).mono fun e w' ⟨h1, q, h2⟩ => ⟨h1, by subst h2; exact below_drewN' _ _ _⟩
  · refine (dsame_no n m a b c d w h).mono fun e w' ⟨h1, h2⟩ => ⟨?_, by subst h2; exact Below.refl _ _⟩
    rw [h1, decide_eq_false]
    intro he
    exact h (by rw [← ha.1, ← hb.1, he])
end Go.Proofs.YtlnblfdddellmaaDoor
