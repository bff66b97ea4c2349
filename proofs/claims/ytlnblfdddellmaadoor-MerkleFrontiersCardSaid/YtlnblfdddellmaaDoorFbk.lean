/-
  The root of a frontier that has leaves: its tops from the last to the first.
-/
import Derived.Test.YtlnblfdddellmaaDoorFae
import Derived.Test.YtlnblfdddellmaaDoorFrr
import Derived.Test.YtlnblfdddellmaaDoorRgm
namespace Go.Proofs.YtlnblfdddellmaaDoor
open Go.RowKit
set_option linter.unusedVariables false
attribute [local go_sem] Oper.semAt_some
/-- tops, from the right -/
def foldS : Ds → List Nat
  | [] => zs32
  | x :: r => match r with
    | [] => x
    | y :: r' => nodeS x (foldS (y :: r'))
theorem foldS_one (x : List Nat) : foldS [x] = x := rfl
theorem foldS_more (x : List Nat) (r : Ds) (h : r ≠ []) : foldS (x :: r) = nodeS x (foldS r) := by
  cases r with
  | nil => exact absurd rfl h
  | cons y r => rfl
theorem foldS_last (ds : Ds) (n : Nat) (h : ds.length = n + 1) : foldS (ds.drop n) = ds.getD n [] := by
  rw [List.drop_eq_getElem_cons (by omega), List.drop_of_length_le (by omega), foldS_one]
  simp [List.getD_eq_getElem?_getD, List.getElem?_eq_getElem (show n < ds.length by omega)]
theorem foldS_step (ds : Ds) (k : Nat) (h : k + 1 < ds.length) : foldS (ds.drop k) = nodeS (ds.getD k []) (foldS (ds.drop (k + 1))) := by
  rw [List.drop_eq_getElem_cons (show k < ds.length by omega), foldS_more _ _ (fun e => by
    have := congrArg List.length e
    simp at this
    omega)]
  simp [List.getD_eq_getElem?_getD, List.getElem?_eq_getElem (show k < ds.length by omega)]
theorem foldS_d32 : ∀ (ds : Ds), (∀ d ∈ ds, D32 d) → D32 (foldS ds)
  | [], _ => ⟨zs32_len, by decide⟩
  | [x], h => h x (List.mem_cons_self ..)
  | x :: y :: r, h => by rw [foldS_more _ _ (by simp)]; exact d32_sum _
def encD (x : Nat × List Nat) : Array Value := #[.int .i64 (x.1 : Int), .agg (cellsOf x.2).toArray]
def outD (ds : Ds) (n k : Nat) : List (Nat × List Nat) := (((List.range n).drop k).reverse).map fun i => (i, ds.getD i [])
theorem outD_end (ds : Ds) (n : Nat) : outD ds n n = [] := by
  unfold outD
  rw [List.drop_of_length_le (by simp)]
  rfl
theorem outD_step (ds : Ds) (n k : Nat) (h : k < n) : outD ds n k = outD ds n (k + 1) ++ [(k, ds.getD k [])] := by
  unfold outD
  rw [List.drop_eq_getElem_cons (by simpa using h)]
  simp
section
variable {F : Fence} {n : Nat} {P : Program} {w w' : World} {ops : Array Oper} {rest : List Oper} {o : Oper} {a : Act} {Q : Exit → Act → World → Prop}
theorem wpListIn_load (hg : o.guard = none) (ty : TypeId) (x : Operand) (hop : o.op = .load ty x) (p v : Value) (hx : a.eval x = p) (hrun : (Instr.loadAt ty p).run P w = .ok v w) (hK : wpListIn F n P ops Q rest (a.put o.dst v) w) : wpListIn F n P ops Q (o :: rest) a w := by
  refine wpListIn_plain hg fun K' hK' => ?_
  unfold Oper.wpIn
  refine ⟨?_, ?_⟩
  · simp [Oper.about, hop]
  · rw [Oper.semAt_plain F _ _ (by rw [hop]; intro c hc'; cases hc')]
    unfold execOp
    simp only [hop, hx, hrun, Sem.run_bind, Result.andThen_ok, Sem.run_pure]
    exact hK' _ _ hK
theorem wpListIn_store (hg : o.guard = none) (ty : TypeId) (x y : Operand) (hop : o.op = .store ty x y) (p v : Value) (hx : a.eval x = p) (hy : a.eval y = v) (hrun : (Instr.storeAt ty p v).run P w = .ok () w') (hK : wpListIn F n P ops Q rest (a.put o.dst undef) w') : wpListIn F n P ops Q (o :: rest) a w := by
  refine wpListIn_plain hg fun K' hK' => ?_
  unfold Oper.wpIn
  refine ⟨?_, ?_⟩
  · simp [Oper.about, hop]
  · rw [Oper.semAt_plain F _ _ (by rw [hop]; intro c hc'; cases hc')]
    unfold execOp
    simp only [hop, hx, hy, hrun, Sem.run_bind, Result.andThen_ok, Sem.run_pure]
    exact hK' _ _ hK
end
/-- what the iterator reads: its box, the sums -/
def ItD (bx : Nat) (a : Option Addr) (n c : Nat) (ds : Ds) (W : World) : Prop := W.cell? ⟨bx, 0, none⟩ = some (.slice a n c) ∧ ∀ i, i < n → ∃ b o, a = some ⟨b, o, none⟩ ∧ D32 (ds.getD i []) ∧ W.rangeAt b (o + i * 32) (cellsOf (ds.getD i []))
set_option maxRecDepth 100000 in
set_option maxHeartbeats 4000000 in
theorem backD_c (l bx n c : Nat) (a : Option Addr) (ds : Ds) (hn : n ≤ 1000000000) (J Jx : List (Nat × List Nat) → World → Prop) (W : World) (hIt : ∀ s W, J s W → ItD bx a n c ds W)
    (hY : ∀ k, k < n → ∀ W1, J (outD ds n (k + 1)) W1 → YieldAt Fence.wide 1 Tryd.prog l (encD (k, ds.getD k [])) W1 fun e W' => (e = .returned (.bool true) ∧ J (outD ds n k) W') ∨ (e = .returned (.bool false) ∧ Jx (outD ds n k) W')) (h0 : J [] W) :
    CallsIn Fence.wide 2 Tryd.prog 52 (#[.func (.yield l) #[] #[]] ++ #[.pointer (some ⟨bx, 0, none⟩)]) W fun e W' => (∃ v, e = .returned v) ∧ (J (outD ds n 0) W' ∨ ∃ pre, Jx pre W') := by
  have c0 := (hIt [] W h0).1
  have HJ0 := Lib.hid (show J (outD ds n n) W from by rw [outD_end]; exact h0)
  have HIt := Lib.hid hIt
  have HY := Lib.hid hY
  clear hIt hY h0
  refine callsIn_of_wp Tryd.func52 rfl trivial ?_ rfl
  simp only [Tryd.ntmps52, List.size_toArray, List.length_cons, List.length_nil, Nat.reduceAdd, Nat.reduceSub, Array.replicate_succ, Array.replicate_zero, List.push_toArray, List.append_toArray, List.nil_append, List.cons_append]
  gi_wp2
  gi_loopw [3] (fun i wr => ∃ k : Nat, k ≤ n ∧ i = .int .i64 ((k : Int) - 1) ∧ Hid (J (outD ds n k) wr)) (fun i _ => (intOf i + 1).toNat)
  case atStart => exact ⟨n, Nat.le_refl _, rfl, HJ0⟩
  case round =>
    clear c0 HJ0
    obtain ⟨k, hk, rfl, HJ⟩ := hrel
    cases k with
    | zero =>
      gi_wp2
      go_end0
      exact ⟨⟨_, rfl⟩, .inl HJ.out⟩
    | succ q =>
      obtain ⟨d0, hr⟩ := HIt.out _ _ HJ.out
      obtain ⟨b, o, rfl, hE, hrg⟩ := hr q (by omega)
      have e1 : ((q + 1 : Nat) : Int) - 1 = (q : Int) := by omega
      rw [e1]
      have hix := fun W => run_dindex dtA W b o n c q (by omega)
      have HLD := Lib.hid (run_dload dtA wr b (o + q * 32) _ hE hrg)
      obtain ⟨fn, tmps, assign, body, hy, hR⟩ := HY.out q (by omega) wr HJ.out
      simp only [encD] at hy
      obtain ⟨xx, hxx⟩ : ∃ xx, xx = ds.getD q [] := ⟨_, rfl⟩
      rw [← hxx] at hy HLD
      clear hr hrg e1 hE hxx
      gi_wp2_with (first | (refine wpListIn_load (by rfl) 32 (.tmp 15) (by rfl) (.pointer (some ⟨b, o + q * 32, none⟩)) (.agg (cellsOf xx).toArray) (by rfl) HLD.out ?_))
      refine hR.mono ?_
      rintro e W3 (⟨rfl, hJ3⟩ | ⟨rfl, hJx3⟩)
      · have HJ3 := Lib.hid hJ3
        clear hJ3 hy hR hix HJ HLD
        gi_wp2
        exact ⟨⟨q, by omega, rfl, HJ3⟩, by simp [intOf]⟩
      · have HJ3 := Lib.hid hJx3
        clear hJx3 hy hR hix HJ HLD
        gi_wp2
        refine bodyPost_ret (results_none rfl _ _ _) rfl ?_
        exact ⟨⟨_, rfl⟩, .inr ⟨_, HJ3.out⟩⟩
set_option maxRecDepth 100000 in
theorem backF_c (a : Option Addr) (n c : Nat) (w : World) : Calls Tryd.prog 35 #[.slice a n c] w fun e w' => e = .returned (.func (.func 52) #[] #[.pointer (some ⟨w.heap.size, 0, none⟩)]) ∧ w' = w.alloc (.cells #[.slice a n c] 28) := by
  go_enter Tryd.func35, Tryd.ntmps35
  go_wp2
  go_ret
  exact ⟨rfl, rfl⟩
end Go.Proofs.YtlnblfdddellmaaDoor
