/-
  slices.Backward at a disk's changes: its contract, and its iterator's over one element.
-/
import Derived.Test.YtbbljkhjodnfpaaRgm
import Derived.Test.YtbbljkhjodnfpaaDca
import Derived.Test.YtbbljkhjodnfpaaPkb
namespace Go.Proofs.Ytbbljkhjodnfpaa
set_option linter.unusedVariables false
open Go.RowKit Go.Shelf
attribute [local go_sem] Oper.semAt_some
set_option maxRecDepth 100000 in
theorem back_c (a : Option Addr) (n c : Nat) (w : World) : Calls Try.prog 74 #[.slice a n c] w fun e w' => e = .returned (.func (.func 111) #[] #[.pointer (some ⟨w.heap.size, 0, none⟩)]) ∧ w' = w.alloc (.cells #[.slice a n c] 98) := by
  go_enter Try.func74, Try.ntmps74
  go_wp2
  go_ret
  exact ⟨rfl, rfl⟩
def encC (x : Array Value) : Array Value := #[.int .i64 0, .agg x]
def ItC (bx lr o c : Nat) (e0 e1 e2 e3 e4 : Value) (W : World) : Prop := W.cell? ⟨bx, 0, none⟩ = some (.slice (some ⟨lr, o, none⟩) 1 c) ∧ W.cell? ⟨lr, o, none⟩ = some e0 ∧ W.cell? ⟨lr, o + 1, none⟩ = some e1 ∧ W.cell? ⟨lr, o + 2, none⟩ = some e2 ∧ W.cell? ⟨lr, o + 3, none⟩ = some e3 ∧ W.cell? ⟨lr, o + 4, none⟩ = some e4
set_option maxRecDepth 100000 in
set_option maxHeartbeats 2000000 in
theorem back1_c (l bx lr o c : Nat) (e0 e1 e2 e3 e4 : Value) (J Jx : List (Array Value) → World → Prop) (W : World) (hIt : J [] W → ItC bx lr o c e0 e1 e2 e3 e4 W)
    (hY : ∀ W1, J [] W1 → YieldAt Fence.wide 1 Try.prog l (encC #[e0, e1, e2, e3, e4]) W1 fun e W' => (e = .returned (.bool true) ∧ J [#[e0, e1, e2, e3, e4]] W') ∨ (e = .returned (.bool false) ∧ Jx [#[e0, e1, e2, e3, e4]] W')) (h0 : J [] W) :
    CallsIn Fence.wide 2 Try.prog 111 (#[.func (.yield l) #[] #[]] ++ #[.pointer (some ⟨bx, 0, none⟩)]) W fun e W' => (∃ v, e = .returned v) ∧ (J [#[e0, e1, e2, e3, e4]] W' ∨ ∃ pre, Jx pre W') := by
  obtain ⟨h1, c0, c1, c2, c3, c4⟩ := hIt h0
  obtain ⟨fn, tmps, assign, body, hy, hR⟩ := hY W h0
  clear hY hIt
  refine callsIn_of_wp Try.func111 rfl trivial ?_ rfl
  simp only [Try.ntmps111, List.size_toArray, List.length_cons, List.length_nil, Nat.reduceAdd, Nat.reduceSub, Array.replicate_succ, Array.replicate_zero, List.push_toArray, List.append_toArray, List.nil_append, List.cons_append]
  gi_wp2
  refine wpIn_loop_rounds 2 ?_
  rw [roundsIn_succ]
  simp only [encC] at hy
  gi_wp2
  refine hR.mono ?_
  rintro e W3 (⟨rfl, hJ3⟩ | ⟨rfl, hJx3⟩)
  · have HJ3 := Lib.hid hJ3
    clear h1 c0 c1 c2 c3 c4 h0 hJ3 hy hR
    gi_wp2
    rw [roundsIn_succ]
    gi_wp2
    go_end0
    exact ⟨⟨_, rfl⟩, .inl HJ3.out⟩
  · have HJ3 := Lib.hid hJx3
    clear h1 c0 c1 c2 c3 c4 h0 hJx3 hy hR
    gi_wp2
    refine bodyPost_ret (results_none rfl _ _ _) rfl ?_
    exact ⟨⟨_, rfl⟩, .inr ⟨_, HJ3.out⟩⟩
end Go.Proofs.Ytbbljkhjodnfpaa
