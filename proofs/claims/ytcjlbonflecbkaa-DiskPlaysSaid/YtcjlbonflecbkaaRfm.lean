/-
  The document's disk in memory: Read.
-/
import Derived.Test.YtcjlbonflecbkaaRfl
namespace Go.Proofs.Ytcjlbonflecbkaa
open Go.RowKit
set_option linter.unusedVariables false
theorem wpList_runV {ops : Array Oper} {rest : List Oper} {o : Oper} {a : Act} {w : World} {Q : Exit → Act → World → Prop} (hgd : o.guard = none) (v : Value) (hr : (execOp a.eval o).run Try.prog w = .ok (.value v) w) (h : wpList Try.prog ops Q rest (a.put o.dst v) w) : wpList Try.prog ops Q (o :: rest) a w := by
  refine wpList_plain hgd fun K hK => ?_
  unfold Oper.wp
  rw [hr]
  exact hK _ _ h
theorem exec_midD {a : Option Addr} {len cap k M j : Nat} (hk : k ≤ M) (hM : M ≤ cap) (hj : M - k = j) {A : Act} {x y z : Operand} {t : Int} (ht : t = (M : Int)) (hx : A.eval x = .slice a len cap) (hy : A.eval y = .int .i64 (k : Int)) (hz : A.eval z = .int .i64 t) (o : Oper) (ho : o.op = .slice 30 x (some y) (some z) none) (W : World) :
    (execOp A.eval o).run Try.prog W = .ok (.value (.slice (sla a cap k) j (cap - k))) W := by
  subst ht
  subst hj
  unfold execOp
  simp only [ho, hx, hy, hz, Option.map_none, Option.map_some]
  rw [Sem.run_bind, run_midAt W a len cap k M hk hM]
  rfl
set_option maxRecDepth 100000 in
set_option maxHeartbeats 8000000 in
theorem rread_c {N : Nat → Prop} {w : World} {a : Option Addr} {len cap : Nat} {z : List Nat} (h : RB N w a len cap z) (x n : Int) (hm : len ≤ 1000000000) : Calls Try.prog 50 #[.slice a len cap, .int .i64 x, .int .i64 n] w (RetB w.heap.size w ((z.drop x.toNat).take n.toNat)) := by
  obtain ⟨k, hk⟩ : ∃ k, k = min x.toNat len := ⟨_, rfl⟩
  have hkl : k ≤ len := by omega
  obtain ⟨j, hj⟩ : ∃ j, j = min n.toNat (len - k) := ⟨_, rfl⟩
  have hzl := h.rd.1
  have HC1 := Lib.hid (rclamp_c x (len : Int) w)
  rw [clamp_eq, ← hk] at HC1
  have HC2 := Lib.hid (rclamp_c n ((len - k : Nat) : Int) w)
  rw [clamp_eq, ← hj] at HC2
  have hsub : (len : Int) - (k : Int) = ((len - k : Nat) : Int) := by omega
  have hsubw : IntKind.i64.wrap ((len : Int) - (k : Int)) = ((len - k : Nat) : Int) := by rw [IntKind.wrap_i64]; omega
  have he : (z.drop x.toNat).take n.toNat = (z.drop k).take j := by
    by_cases h1 : x.toNat ≤ len
    · have e1 : k = x.toNat := by omega
      rw [e1]
      by_cases h2 : n.toNat ≤ len - k
      · have e2 : j = n.toNat := by omega
        rw [e2]
      · rw [List.take_of_length_le (by rw [List.length_drop]; omega), List.take_of_length_le (by rw [List.length_drop]; omega)]
    · rw [List.drop_of_length_le (by omega), List.drop_of_length_le (by omega)]
      simp
  rw [he]
  obtain ⟨M, hM⟩ : ∃ M, M = k + j := ⟨_, rfl⟩
  have hsum : (k : Int) + (j : Int) = (M : Int) := by omega
  have HE := Lib.hid (show k ≤ M ∧ M ≤ cap ∧ M - k = j ∧ wrap64 (M : Int) = (M : Int) from ⟨by omega, by have := h.le; omega, by omega, wrap64_id (by omega) (by omega)⟩)
  have HTW := Lib.hid (twin_c (sla a cap k) j (cap - k) ((z.drop k).take j) w ((h.rd.cut cap k hkl h.le).take j (by omega)) (by omega))
  clear he hk hj hzl hM h
  go_enter Try.func50, Try.ntmps50
  go_wp2_with fail
  refine HC1.out.mono ?_
  rintro e1 w1 ⟨rfl, h6⟩
  subst w1
  clear HC1
  go_wp2_with fail
  refine HC2.out.mono ?_
  rintro e2 w2 ⟨rfl, h6⟩
  subst w2
  clear HC2 hsub hsubw hkl hm
  go_wp2_with (refine wpList_runV rfl (.slice (sla a cap k) j (cap - k)) (exec_midD (x := .tmp 11) (y := .tmp 12) (z := .tmp 20) HE.out.1 HE.out.2.1 HE.out.2.2.1 HE.out.2.2.2 (by rfl) (by rfl) (by rfl) _ rfl _) ?_)
  refine HTW.out.mono ?_
  rintro e3 w3 ⟨v3, rfl, hown3, hb3⟩
  have HO3 := Lib.hid hown3
  have HB3 := Lib.hid hb3
  clear hown3 hb3 HTW HE
  go_wp2_with fail
  go_ret
  exact ⟨_, rfl, HO3.out, HB3.out⟩
end Go.Proofs.Ytcjlbonflecbkaa
