/-
  slices.Backward's iterator over any number of changes.
-/
import Derived.Test.YtmomdfmilelilaaDcg
namespace Go.Proofs.Ytmomdfmilelilaa
set_option linter.unusedVariables false
open Go.RowKit
attribute [local go_sem] Oper.semAt_some
theorem run_chg_val (W : World) (b o : Nat) (C : List Value) (hC : C.length = 5) (hc : W.rangeAt b o C) : (Instr.loadAt 90 (.pointer (some ⟨b, o, none⟩))).run Try.prog W = .ok (.agg C.toArray) W :=
  run_loadAt_mid (P := Try.prog) W b o 90 C _ hc Try.underlying90 rfl (by rw [hC]; kernel_rfl)
theorem run_chg_idx (W : World) (b o len cap i : Nat) (hi : i < len) : (Instr.indexAt 74 (.slice (some ⟨b, o, none⟩) len cap) (.int .i64 (i : Int))).run Try.prog W = .ok (.pointer (some ⟨b, o + 5 * i, none⟩)) W := by
  rw [run_indexAt_slice W 74 ⟨b, o, none⟩ len cap .i64 (i : Int) (by kernel_rfl)]
  have h1 : (0 : Int) ≤ (i : Int) ∧ (i : Int) < (len : Int) := by omega
  rw [if_pos h1, show (Go.sizeOf (Try.prog.elem 74)).run Try.prog W = .ok 5 W from by kernel_rfl]
  simp [Result.andThen, Addr.add, Nat.mul_comm]
/-- what the iterator reads: its box, the changes' cells -/
def ItN (bx : Nat) (a : Option Addr) (n c : Nat) (E : Nat → List Value) (W : World) : Prop := W.cell? ⟨bx, 0, none⟩ = some (.slice a n c) ∧ ∀ i, i < n → ∃ b o, a = some ⟨b, o, none⟩ ∧ (E i).length = 5 ∧ W.rangeAt b (o + 5 * i) (E i)
def encI (x : Nat × List Value) : Array Value := #[.int .i64 (x.1 : Int), .agg x.2.toArray]
def outs (E : Nat → List Value) (n k : Nat) : List (Nat × List Value) := (((List.range n).drop k).reverse).map fun i => (i, E i)
theorem outs_end (E : Nat → List Value) (n : Nat) : outs E n n = [] := by
  unfold outs
  rw [List.drop_of_length_le (by simp)]
  rfl
theorem outs_step (E : Nat → List Value) (n k : Nat) (h : k < n) : outs E n k = outs E n (k + 1) ++ [(k, E k)] := by
  unfold outs
  rw [List.drop_eq_getElem_cons (by simpa using h)]
  simp
theorem five {l : List Value} (h : l.length = 5) : ∃ e0 e1 e2 e3 e4, l = [e0, e1, e2, e3, e4] := by
  match l, h with
  | [e0, e1, e2, e3, e4], _ => exact ⟨e0, e1, e2, e3, e4, rfl⟩
set_option maxRecDepth 100000 in
set_option maxHeartbeats 4000000 in
theorem backN_c (l bx n c : Nat) (a : Option Addr) (E : Nat → List Value) (hn : n ≤ 1000000000) (J Jx : List (Nat × List Value) → World → Prop) (W : World) (hIt : ∀ s W, J s W → ItN bx a n c E W)
    (hY : ∀ k, k < n → ∀ W1, J (outs E n (k + 1)) W1 → YieldAt Fence.wide 1 Try.prog l (encI (k, E k)) W1 fun e W' => (e = .returned (.bool true) ∧ J (outs E n k) W') ∨ (e = .returned (.bool false) ∧ Jx (outs E n k) W')) (h0 : J [] W) :
    CallsIn Fence.wide 2 Try.prog 82 (#[.func (.yield l) #[] #[]] ++ #[.pointer (some ⟨bx, 0, none⟩)]) W fun e W' => (∃ v, e = .returned v) ∧ (J (outs E n 0) W' ∨ ∃ pre, Jx pre W') := by
  have c0 := (hIt [] W h0).1
  have HJ0 := Lib.hid (show J (outs E n n) W from by rw [outs_end]; exact h0)
  have HIt := Lib.hid hIt
  have HY := Lib.hid hY
  clear hIt hY h0
  refine callsIn_of_wp Try.func82 rfl trivial ?_ rfl
  simp only [Try.ntmps82, List.size_toArray, List.length_cons, List.length_nil, Nat.reduceAdd, Nat.reduceSub, Array.replicate_succ, Array.replicate_zero, List.push_toArray, List.append_toArray, List.nil_append, List.cons_append]
  gi_wp2
  gi_loopw [3] (fun i wr => ∃ k : Nat, k ≤ n ∧ i = .int .i64 ((k : Int) - 1) ∧ Hid (J (outs E n k) wr)) (fun i _ => (intOf i + 1).toNat)
  case atStart => exact ⟨n, Nat.le_refl _, rfl, HJ0⟩
  case round =>
    clear c0 HJ0
    obtain ⟨k, hk, rfl, HJ⟩ := hrel
    cases k with
    | zero =>
      gi_wp2
      go_end0
      exact ⟨⟨_, rfl⟩, .inl HJ.out⟩
    | succ q =>
      obtain ⟨d0, hr⟩ := HIt.out _ _ HJ.out
      obtain ⟨b, o, rfl, hE, hrg⟩ := hr q (by omega)
      have e1 : ((q + 1 : Nat) : Int) - 1 = (q : Int) := by omega
      rw [e1]
      have hix := fun W => run_chg_idx W b o n c q (by omega)
      obtain ⟨x0, x1, x2, x3, x4, hx⟩ := five hE
      rw [hx] at hrg
      have c0 : wr.cell? ⟨b, o + 5 * q, none⟩ = some x0 := hrg 0 x0 rfl
      have c1 : wr.cell? ⟨b, o + 5 * q + 1, none⟩ = some x1 := hrg 1 x1 rfl
      have c2 : wr.cell? ⟨b, o + 5 * q + 2, none⟩ = some x2 := hrg 2 x2 rfl
      have c3 : wr.cell? ⟨b, o + 5 * q + 3, none⟩ = some x3 := hrg 3 x3 rfl
      have c4 : wr.cell? ⟨b, o + 5 * q + 4, none⟩ = some x4 := hrg 4 x4 rfl
      obtain ⟨fn, tmps, assign, body, hy, hR⟩ := HY.out q (by omega) wr HJ.out
      simp only [encI, hx] at hy
      clear hr hrg e1 hE hx
      gi_wp2
      refine hR.mono ?_
      rintro e W3 (⟨rfl, hJ3⟩ | ⟨rfl, hJx3⟩)
      · have HJ3 := Lib.hid hJ3
        clear c0 c1 c2 c3 c4 hJ3 hy hR hix HJ
        gi_wp2
        exact ⟨⟨q, by omega, rfl, HJ3⟩, by simp [intOf]⟩
      · have HJ3 := Lib.hid hJx3
        clear c0 c1 c2 c3 c4 hJx3 hy hR hix HJ
        gi_wp2
        refine bodyPost_ret (results_none rfl _ _ _) rfl ?_
        exact ⟨⟨_, rfl⟩, .inr ⟨_, HJ3.out⟩⟩
end Go.Proofs.Ytmomdfmilelilaa
