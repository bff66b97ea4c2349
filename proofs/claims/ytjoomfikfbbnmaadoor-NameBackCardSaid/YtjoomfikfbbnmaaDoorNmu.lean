/-
  What an argument that is a reference gives a law's walk.
-/
import Derived.Test.YtjoomfikfbbnmaaDoorNmv
import Derived.Lib.SmallJoins
namespace Go.Proofs.YtjoomfikfbbnmaaDoor
open Go.ChangeShapes Go.WideShapes Go.ChangeAt Go.RowKit Go.Proofs.Nm
set_option linter.unusedVariables false
theorem cells_r2 : Tryd.prog.cellsOf 33 = 35 := by kernel_rfl
theorem cells_st : Tryd.prog.cellsOf 9 = 1 := by kernel_rfl
theorem cells_bo : Tryd.prog.cellsOf 4 = 1 := by kernel_rfl
theorem cells_dr : Tryd.prog.cellsOf 25 = 32 := by kernel_rfl
theorem cells_u8n : Tryd.prog.cellsOf 5 = 1 := by kernel_rfl
def natU : Value → Nat
  | .int _ n => n.toNat
  | _ => 0
theorem dig_of {H : Type} {enc : TypeId × Value → H} {W : World} {base : Nat} {sp : Nat → Bool} {held : Bool} {fuel : Nat} {L : List Value} {x : DataW H × List MemPlace}
    (hf : DataW.trod enc Tryd.prog W base sp held fuel 25 L = some x) : ∃ zs : List Nat, D32 zs ∧ L = cellsOf zs := by
  obtain ⟨xs, m, _, hx, hl, hn, hel⟩ := DataW.trod_array und_dr hf
  rw [cells_dr] at hl
  have hat : ∀ i, i < 32 → ∃ n : Nat, n < 256 ∧ L[i]? = some (.int .u8 (n : Int)) := by
    intro i hi
    have h1 := hel i hi
    rw [cells_u8n, Nat.mul_one] at h1
    rw [show xs[i]? = some (xs[i]'(by omega)) from List.getElem?_eq_getElem _] at h1
    obtain ⟨k, e1, _, hw⟩ := DataW.trod_int Tryd.underlying5 h1
    have hb : 0 ≤ k ∧ k ≤ 255 := by simpa [Lit.wf, IntKind.min, IntKind.max, IntKind.signed, IntKind.bits] using hw
    have hi2 : i < L.length := by omega
    rw [List.drop_eq_getElem_cons hi2, List.take_succ_cons] at e1
    refine ⟨k.toNat, by omega, ?_⟩
    rw [List.getElem?_eq_getElem hi2, (List.cons.inj e1).1, Int.toNat_of_nonneg hb.1]
  have key : ∀ v ∈ L, natU v < 256 ∧ v = .int .u8 ((natU v : Nat) : Int) := fun v hv => by
    obtain ⟨i, hi, rfl⟩ := List.getElem_of_mem hv
    obtain ⟨n, hn, h1⟩ := hat i (by omega)
    rw [List.getElem?_eq_getElem hi] at h1
    rw [Option.some.inj h1]
    exact ⟨by simpa [natU] using hn, by simp [natU]⟩
  refine ⟨L.map natU, ⟨by simp [hl], fun z hz => ?_⟩, ?_⟩
  · obtain ⟨v, hv, rfl⟩ := List.mem_map.1 hz
    exact (key v hv).1
  · unfold cellsOf
    rw [List.map_map]
    conv => lhs; rw [← List.map_id L]
    exact List.map_congr_left fun v hv => (key v hv).2
set_option maxRecDepth 100000 in
theorem open_ref {H : Type} {enc : TypeId × Value → H} {W : World} {base b0 : Nat} {sp : Nat → Bool} {held : Bool} {v : Value} {d : DataW H} {pl : List MemPlace}
    (hv : Value.okWide Tryd.prog W .any b0 33 v) (h : DataW.Trod enc Tryd.prog W base sp held 33 v d pl) :
    ∃ (a b : List UInt8) (p : Bool) (x : List Nat) (dx : DataW H), v = .agg (refC a b p x) ∧ D32 x ∧ d = .agg [.lit (.string a), .lit (.string b), .lit (.bool p), dx] := by
  unfold Value.okWide at hv
  rw [Tryd.underlying33] at hv
  obtain ⟨cs, rfl, _, _⟩ := hv
  obtain ⟨fuel, hf⟩ := h
  obtain ⟨y0, y1, y2, y3, n, hx, hl, h0, h1, h2, h3⟩ := Go.Joins.trod_struct4 Tryd.underlying33 hf
  obtain ⟨L⟩ := cs
  simp only [Value.cells] at hl h0 h1 h2 h3
  rw [cells_r2] at hl
  rw [cells_st] at h0 h1
  rw [cells_bo] at h2
  rw [cells_dr] at h3
  obtain ⟨s0, e0, f0, _⟩ := DataW.trod_string Tryd.underlying9 h0
  obtain ⟨s1, e1, f1, _⟩ := DataW.trod_string Tryd.underlying9 h1
  obtain ⟨p, e2, f2⟩ := DataW.trod_bool Tryd.underlying4 h2
  obtain ⟨x, hd, e3⟩ := dig_of h3
  have hlen : L.length = 35 := hl
  refine ⟨s0.data.toList, s1.data.toList, p, x, y3.1, ?_, hd, ?_⟩
  · unfold refC
    have eL : L = Value.string s0 :: .string s1 :: .bool p :: cellsOf x := by
      rw [← e3]
      match L, hlen, e0, e1, e2 with
      | v0 :: v1 :: v2 :: R, hlen, e0, e1, e2 =>
        simp only [List.drop_zero, List.drop_succ_cons, List.take_succ_cons, List.take_zero, List.cons.injEq, and_true] at e0 e1 e2 ⊢
        refine ⟨e0, e1, e2, ?_⟩
        rw [List.take_of_length_le]
        simp only [List.length_cons] at hlen
        omega
    rw [eL]
  · have := congrArg Prod.fst hx
    simp only at this
    rw [this, f0, f1, f2]
theorem sized_ref {H : Type} {ts : List TypeId} {ds : List (DataW H)} (h : (DataW.weightsEach Tryd.prog ts ds).all (· ≤ reachBytes) = true) {j : Nat} {a b : List UInt8} {p : Bool} {dx : DataW H} (ht : ts[j]? = some 33)
    (hd : ds[j]? = some (.agg [.lit (.string a), .lit (.string b), .lit (.bool p), dx])) : a.length ≤ 140737488351232 ∧ b.length ≤ 140737488351232 := by
  have k0 := List.all_eq_true.1 h _ (DataW.weights_mem_each ht hd a.length (by simp [DataW.weights, Tryd.underlying33, DataW.weightsEach]))
  have k1 := List.all_eq_true.1 h _ (DataW.weights_mem_each ht hd b.length (by simp [DataW.weights, Tryd.underlying33, DataW.weightsEach]))
  have e : reachBytes = 140737488351232 := rfl
  rw [← e]
  exact ⟨of_decide_eq_true k0, of_decide_eq_true k1⟩
end Go.Proofs.YtjoomfikfbbnmaaDoor
