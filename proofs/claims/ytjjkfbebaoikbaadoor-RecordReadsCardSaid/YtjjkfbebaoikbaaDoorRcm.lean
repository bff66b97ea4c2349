/-
  What an argument that is a record or a head gives a law's walk.
-/
import Derived.Test.YtjjkfbebaoikbaaDoorRcl
import Derived.Lib.SmallJoins
import Derived.Deep.Strs
namespace Go.Proofs.YtjjkfbebaoikbaaDoor.Rc
open Go.ChangeShapes Go.WideShapes Go.ChangeAt Go.RowKit Go.Proofs.Nm Go.Proofs.YtjjkfbebaoikbaaDoor
set_option linter.unusedVariables false
theorem cells_q : Tryd.prog.cellsOf 24 = 36 := by kernel_rfl
theorem cells_qh : Tryd.prog.cellsOf 46 = 34 := by kernel_rfl
theorem cells_stR : Tryd.prog.cellsOf 9 = 1 := by kernel_rfl
theorem cells_in : Tryd.prog.cellsOf 3 = 1 := by kernel_rfl
theorem cells_drR : Tryd.prog.cellsOf 22 = 32 := by kernel_rfl
theorem cells_u8R : Tryd.prog.cellsOf 5 = 1 := by kernel_rfl
def natV : Value → Nat
  | .int _ n => n.toNat
  | _ => 0
theorem digR_of {H : Type} {enc : TypeId × Value → H} {W : World} {base : Nat} {sp : Nat → Bool} {held : Bool} {fuel : Nat} {L : List Value} {x : DataW H × List MemPlace}
    (hf : DataW.trod enc Tryd.prog W base sp held fuel 22 L = some x) : ∃ zs : List Nat, dOk zs ∧ L = cellsOf zs := by
  obtain ⟨xs, m, _, hx, hl, hn, hel⟩ := DataW.trod_array und_dr hf
  rw [cells_drR] at hl
  have hat : ∀ i, i < 32 → ∃ n : Nat, n < 256 ∧ L[i]? = some (.int .u8 (n : Int)) := by
    intro i hi
    have h1 := hel i hi
    rw [cells_u8R, Nat.mul_one] at h1
    rw [show xs[i]? = some (xs[i]'(by omega)) from List.getElem?_eq_getElem _] at h1
    obtain ⟨k, e1, _, hw⟩ := DataW.trod_int Tryd.underlying5 h1
    have hb : 0 ≤ k ∧ k ≤ 255 := by simpa [Lit.wf, IntKind.min, IntKind.max, IntKind.signed, IntKind.bits] using hw
    have hi2 : i < L.length := by omega
    rw [List.drop_eq_getElem_cons hi2, List.take_succ_cons] at e1
    refine ⟨k.toNat, by omega, ?_⟩
    rw [List.getElem?_eq_getElem hi2, (List.cons.inj e1).1, Int.toNat_of_nonneg hb.1]
  have key : ∀ v ∈ L, natV v < 256 ∧ v = .int .u8 ((natV v : Nat) : Int) := fun v hv => by
    obtain ⟨i, hi, rfl⟩ := List.getElem_of_mem hv
    obtain ⟨n, hn, h1⟩ := hat i (by omega)
    rw [List.getElem?_eq_getElem hi] at h1
    rw [Option.some.inj h1]
    exact ⟨by simpa [natV] using hn, by simp [natV]⟩
  refine ⟨L.map natV, ⟨by simp [hl], fun z hz => ?_⟩, ?_⟩
  · obtain ⟨v, hv, rfl⟩ := List.mem_map.1 hz
    exact (key v hv).1
  · unfold cellsOf
    rw [List.map_map]
    conv => lhs; rw [← List.map_id L]
    exact List.map_congr_left fun v hv => (key v hv).2
theorem trod_struct5R {H : Type} {P : Program} {enc : TypeId × Value → H} {w : World} {base : Nat} {spare : Nat → Bool} {held : Bool} {t : TypeId} {f0 f1 f2 f3 f4 : Field} {fuel : Nat} {cs : List Value} {x : DataW H × List MemPlace} (ht : P.underlying t = some (.struct #[f0, f1, f2, f3, f4])) (h : DataW.trod enc P w base spare held fuel t cs = some x) :
    ∃ y0 y1 y2 y3 y4 n, x = (.agg [y0.1, y1.1, y2.1, y3.1, y4.1], y0.2 ++ (y1.2 ++ (y2.2 ++ (y3.2 ++ y4.2)))) ∧ cs.length = P.cellsOf t ∧ DataW.trod enc P w base spare held n f0.type ((cs.drop f0.offset).take (P.cellsOf f0.type)) = some y0 ∧
      DataW.trod enc P w base spare held n f1.type ((cs.drop f1.offset).take (P.cellsOf f1.type)) = some y1 ∧ DataW.trod enc P w base spare held n f2.type ((cs.drop f2.offset).take (P.cellsOf f2.type)) = some y2 ∧
      DataW.trod enc P w base spare held n f3.type ((cs.drop f3.offset).take (P.cellsOf f3.type)) = some y3 ∧ DataW.trod enc P w base spare held n f4.type ((cs.drop f4.offset).take (P.cellsOf f4.type)) = some y4 := by
  obtain ⟨xs, n, _, rfl, hl, hlen, hf⟩ := DataW.trod_struct ht h
  match xs, hlen with
  | [y0, y1, y2, y3, y4], _ => exact ⟨y0, y1, y2, y3, y4, n, by simp, hl, by simpa using hf 0 f0 rfl, by simpa using hf 1 f1 rfl, by simpa using hf 2 f2 rfl, by simpa using hf 3 f3 rfl, by simpa using hf 4 f4 rfl⟩
theorem trod_struct3R {H : Type} {P : Program} {enc : TypeId × Value → H} {w : World} {base : Nat} {spare : Nat → Bool} {held : Bool} {t : TypeId} {f0 f1 f2 : Field} {fuel : Nat} {cs : List Value} {x : DataW H × List MemPlace} (ht : P.underlying t = some (.struct #[f0, f1, f2])) (h : DataW.trod enc P w base spare held fuel t cs = some x) :
    ∃ y0 y1 y2 n, x = (.agg [y0.1, y1.1, y2.1], y0.2 ++ (y1.2 ++ y2.2)) ∧ cs.length = P.cellsOf t ∧ DataW.trod enc P w base spare held n f0.type ((cs.drop f0.offset).take (P.cellsOf f0.type)) = some y0 ∧
      DataW.trod enc P w base spare held n f1.type ((cs.drop f1.offset).take (P.cellsOf f1.type)) = some y1 ∧ DataW.trod enc P w base spare held n f2.type ((cs.drop f2.offset).take (P.cellsOf f2.type)) = some y2 := by
  obtain ⟨xs, n, _, rfl, hl, hlen, hf⟩ := DataW.trod_struct ht h
  match xs, hlen with
  | [y0, y1, y2], _ => exact ⟨y0, y1, y2, n, by simp, hl, by simpa using hf 0 f0 rfl, by simpa using hf 1 f1 rfl, by simpa using hf 2 f2 rfl⟩
set_option maxRecDepth 100000 in
theorem open_rec {H : Type} {enc : TypeId × Value → H} {W : World} {base b0 : Nat} {sp : Nat → Bool} {held : Bool} {v : Value} {d : DataW H} {pl : List MemPlace}
    (hv : Value.okWide Tryd.prog W .any b0 24 v) (h : DataW.Trod enc Tryd.prog W base sp held 24 v d pl) :
    ∃ (r : Rcv) (dx : DataW H), v = .agg (recC r) ∧ dOk r.dig ∧ d = .agg [.lit (.int .i64 r.k), .lit (.string r.repo), .lit (.string r.tag), dx, .lit (.int .i64 r.t)] := by
  unfold Value.okWide at hv
  rw [Tryd.underlying24] at hv
  obtain ⟨cs, rfl, _, _⟩ := hv
  obtain ⟨fuel, hf⟩ := h
  obtain ⟨y0, y1, y2, y3, y4, n, hx, hl, h0, h1, h2, h3, h4⟩ := trod_struct5R Tryd.underlying24 hf
  obtain ⟨L⟩ := cs
  simp only [Value.cells] at hl h0 h1 h2 h3 h4
  rw [cells_q] at hl
  rw [cells_stR] at h1 h2
  rw [cells_in] at h0 h4
  rw [cells_drR] at h3
  obtain ⟨k, e0, f0, _⟩ := DataW.trod_int Tryd.underlying3 h0
  obtain ⟨s1, e1, f1, _⟩ := DataW.trod_string Tryd.underlying9 h1
  obtain ⟨s2, e2, f2, _⟩ := DataW.trod_string Tryd.underlying9 h2
  obtain ⟨x, hd, e3⟩ := digR_of h3
  obtain ⟨t, e4, f4, _⟩ := DataW.trod_int Tryd.underlying3 h4
  have hlen : L.length = 36 := hl
  refine ⟨⟨k, s1.data.toList, s2.data.toList, x, t⟩, y3.1, ?_, hd, ?_⟩
  · unfold recC
    simp only
    have eL : L = Value.int .i64 k :: .string s1 :: .string s2 :: (cellsOf x ++ [.int .i64 t]) := by
      rw [← e3, ← e4]
      match L, hlen, e0, e1, e2 with
      | v0 :: v1 :: v2 :: R, hlen, e0, e1, e2 =>
        simp only [List.drop_zero, List.drop_succ_cons, List.take_succ_cons, List.take_zero, List.cons.injEq, and_true] at e0 e1 e2 ⊢
        refine ⟨e0, e1, e2, ?_⟩
        simp only [List.length_cons] at hlen
        rw [List.take_of_length_le (l := R.drop 32) (by rw [List.length_drop]; omega), List.take_append_drop]
    rw [eL]
  · have := congrArg Prod.fst hx
    simp only at this
    rw [this, f0, f1, f2, f4]
theorem sized_rec {H : Type} {ts : List TypeId} {ds : List (DataW H)} (h : (DataW.weightsEach Tryd.prog ts ds).all (· ≤ reachBytes) = true) {j : Nat} {r : Rcv} {dx : DataW H} (ht : ts[j]? = some 24)
    (hd : ds[j]? = some (.agg [.lit (.int .i64 r.k), .lit (.string r.repo), .lit (.string r.tag), dx, .lit (.int .i64 r.t)])) : SzR r := by
  have k0 := List.all_eq_true.1 h _ (DataW.weights_mem_each ht hd r.repo.length (by simp [DataW.weights, Tryd.underlying24, DataW.weightsEach]))
  have k1 := List.all_eq_true.1 h _ (DataW.weights_mem_each ht hd r.tag.length (by simp [DataW.weights, Tryd.underlying24, DataW.weightsEach]))
  have e : reachBytes = 140737488351232 := rfl
  unfold SzR
  rw [← e]
  exact ⟨of_decide_eq_true k0, of_decide_eq_true k1⟩
set_option maxRecDepth 100000 in
theorem open_hd {H : Type} {enc : TypeId × Value → H} {W : World} {base b0 : Nat} {sp : Nat → Bool} {held : Bool} {v : Value} {d : DataW H} {pl : List MemPlace}
    (hv : Value.okWide Tryd.prog W .any b0 46 v) (h : DataW.Trod enc Tryd.prog W base sp held 46 v d pl) :
    ∃ (r : Hdv), v = .agg (hdC r) ∧ dOk r.root := by
  unfold Value.okWide at hv
  rw [Tryd.underlying46] at hv
  obtain ⟨cs, rfl, _, _⟩ := hv
  obtain ⟨fuel, hf⟩ := h
  obtain ⟨y0, y1, y2, n, hx, hl, h0, h1, h2⟩ := trod_struct3R Tryd.underlying46 hf
  obtain ⟨L⟩ := cs
  simp only [Value.cells] at hl h0 h1 h2
  rw [cells_qh] at hl
  rw [cells_in] at h0 h2
  rw [cells_drR] at h1
  obtain ⟨k, e0, f0, _⟩ := DataW.trod_int Tryd.underlying3 h0
  obtain ⟨x, hd, e1⟩ := digR_of h1
  obtain ⟨t, e2, f2, _⟩ := DataW.trod_int Tryd.underlying3 h2
  have hlen : L.length = 34 := hl
  refine ⟨⟨k, x, t⟩, ?_, hd⟩
  unfold hdC
  simp only
  have eL : L = Value.int .i64 k :: (cellsOf x ++ [.int .i64 t]) := by
    rw [← e1, ← e2]
    match L, hlen, e0 with
    | v0 :: R, hlen, e0 =>
      simp only [List.drop_zero, List.drop_succ_cons, List.take_succ_cons, List.take_zero, List.cons.injEq, and_true] at e0 ⊢
      refine ⟨e0, ?_⟩
      simp only [List.length_cons] at hlen
      rw [List.take_of_length_le (l := R.drop 32) (by rw [List.length_drop]; omega), List.take_append_drop]
  rw [eL]
end Go.Proofs.YtjjkfbebaoikbaaDoor.Rc
