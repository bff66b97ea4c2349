/-
  What the arguments of a law give its walk: lists of sums that came in.
-/
import Derived.Test.YtlnblfdddellmaaDoorPkc
import Derived.Test.YtlnblfdddellmaaDoorDgl
import Derived.Deep.Slices
namespace Go.Proofs.YtlnblfdddellmaaDoor
open Go.ChangeShapes Go.WideShapes Go.ChangeAt Go.RowKit Go.Deep
set_option linter.unusedVariables false
set_option maxRecDepth 100000 in
theorem dig_cells {H : Type} {enc : TypeId × Value → H} {W : World} {base : Nat} {sp : Nat → Bool} {held : Bool} {t : TypeId} {fuel : Nat} {L : List Value} {x : DataW H × List MemPlace} (hu : Tryd.prog.underlying t = some (.array 32 5)) (hc : Tryd.prog.cellsOf t = 32)
    (hf : DataW.trod enc Tryd.prog W base sp held fuel t L = some x) : ∃ zs : List Nat, D32 zs ∧ L = cellsOf zs := by
  obtain ⟨xs, m, _, hx, hl, hn, hel⟩ := DataW.trod_array hu hf
  rw [hc] at hl
  have hat : ∀ i, i < 32 → ∃ n : Nat, n < 256 ∧ L[i]? = some (.int .u8 (n : Int)) := by
    intro i hi
    have h1 := hel i hi
    rw [cells_u8, Nat.mul_one] at h1
    have hxi : xs[i]? = some (xs[i]'(by omega)) := List.getElem?_eq_getElem _
    rw [hxi] at h1
    obtain ⟨k, e1, e2, hw⟩ := DataW.trod_int Tryd.underlying5 h1
    have hb : 0 ≤ k ∧ k ≤ 255 := by simpa [Lit.wf, IntKind.min, IntKind.max, IntKind.signed, IntKind.bits] using hw
    have hi2 : i < L.length := by omega
    refine ⟨k.toNat, by omega, ?_⟩
    rw [List.getElem?_eq_getElem hi2]
    rw [List.drop_eq_getElem_cons hi2, List.take_succ_cons] at e1
    have e3 := (List.cons.inj e1).1
    rw [e3, Int.toNat_of_nonneg hb.1]
  refine ⟨L.map natOf, ⟨by simp [hl], ?_⟩, ?_⟩
  · intro z hz
    simp only [List.mem_map] at hz
    obtain ⟨v, hv, rfl⟩ := hz
    obtain ⟨i, hi, rfl⟩ := List.getElem_of_mem hv
    obtain ⟨n, hn, h1⟩ := hat i (by omega)
    rw [List.getElem?_eq_getElem hi] at h1
    rw [Option.some.inj h1]
    simpa [natOf] using hn
  · apply List.ext_getElem?
    intro i
    by_cases hi : i < 32
    · obtain ⟨n, _, h1⟩ := hat i hi
      simp only [cellsOf, List.getElem?_map, h1, Option.map_some, natOf, Int.toNat_natCast]
    · rw [List.getElem?_eq_none (by omega), List.getElem?_eq_none (by rw [cellsOf_length, List.length_map]; omega)]
theorem digs_dr {W : World} {a : Addr} {len : Nat} {Z : Nat → List Nat} (hD : ∀ i, i < len → D32 (Z i)) (hc : ∀ i, i < len → ∀ j, j < 32 → W.cell? ((a.add (i * 32)).add j) = (cellsOf (Z i))[j]?) : DR W (some a) len ((List.range len).map Z) := by
  have hd : ∀ d ∈ (List.range len).map Z, D32 d := by
    intro d hd
    obtain ⟨i, hi, rfl⟩ := List.mem_map.1 hd
    exact hD i (by simpa using hi)
  have hl : ((List.range len).map Z).length = len := by simp
  refine ⟨hl, hd, by rw [flat_len _ hd, hl], fun z hz => ?_, ?_⟩
  · obtain ⟨d, h1, h2⟩ := List.mem_flatten.1 hz
    exact (hd d h1).2 z h2
  · by_cases h0 : len = 0
    · exact .inl (by omega)
    · have hz := hc 0 (by omega) 0 (by omega)
      rw [cellsOf_get _ _ (by rw [(hD 0 (by omega)).1]; omega)] at hz
      obtain ⟨b, off, spot⟩ := a
      have hspot : spot = none := by simpa [Addr.add] using World.cell?_spot hz
      subst hspot
      rw [show ((⟨b, off, none⟩ : Addr).add (0 * 32)).add 0 = ⟨b, off, none⟩ by simp [Addr.add]] at hz
      refine .inr ⟨b, off, rfl, World.block_lt_of_cell? W ⟨b, off, none⟩ hz, fun i hi => ?_⟩
      have h1 := hc (i / 32) (by omega) (i % 32) (by omega)
      rw [cellsOf_get _ _ (by rw [(hD (i / 32) (by omega)).1]; omega), Addr.add_mid, Addr.add_mid] at h1
      rw [show off + i = off + i / 32 * 32 + i % 32 by omega, h1]
      have h2 := flat_get _ hd (i / 32) (i % 32) (by rw [hl]; omega) (by omega)
      rw [show 32 * (i / 32) + i % 32 = i by omega] at h2
      rw [h2]
      have h3 : ((List.range len).map Z).getD (i / 32) [] = Z (i / 32) := by
        rw [List.getD_eq_getElem?_getD, List.getElem?_map, List.getElem?_range (by omega)]
        rfl
      rw [h3]
theorem cells_e : Tryd.prog.cellsOf 31 = 32 := by kernel_rfl
theorem bytes_e : Tryd.prog.bytesOf 31 = 32 := by kernel_rfl
theorem open_digs {H : Type} {enc : TypeId × Value → H} {W : World} {base : Nat} {held : Bool} {d : DataW H} {p : List MemPlace} {a : Option Addr} {len cap : Nat}
    (h : DataW.Trod enc Tryd.prog W base (fun _ => true) held 22 (.slice a len cap) d p) (hsz : ∀ es sp : List (DataW H), d = .slice es sp → (es.length + sp.length) * 32 ≤ 140737488351232) :
    ∃ ds : Ds, DigsIn W a len cap ds := by
  obtain ⟨fuel, hf⟩ := h
  rcases open_slice Tryd.underlying22 hf with ⟨hcs, _⟩ | ⟨x, l, c, m, n, D, Pl, hcs, _, hl, _, hm, hx, hi⟩
  · simp [Value.cells] at hcs
    obtain ⟨rfl, rfl, rfl⟩ := hcs
    exact ⟨[], DR.nil W, fun _ => rfl, Nat.le_refl _, by omega⟩
  · simp [Value.cells] at hcs
    obtain ⟨rfl, rfl, rfl⟩ := hcs
    simp only [if_true] at hm
    subst hm
    have hs := hsz _ _ (Prod.mk.inj hx).1
    simp only [List.length_map, List.length_range] at hs
    rw [cells_e] at hi
    obtain ⟨Z, hZ⟩ := choose_lt (α := List Nat) (n := m) (p := fun i zs => D32 zs ∧ W.cells? base (x.add (i * 32)) 32 = some (cellsOf zs)) (fun i him => by
      obtain ⟨cs', h1, h2⟩ := hi i him
      obtain ⟨zs, h3, rfl⟩ := dig_cells Tryd.underlying31 cells_e h2
      exact ⟨zs, h3, h1⟩)
    refine ⟨(List.range len).map Z, digs_dr (fun i hi => (hZ i (by omega)).1) (fun i hi j hj => ?_), by simp, hl, by omega⟩
    obtain ⟨_, _, hat⟩ := World.cells?_some (hZ i (by omega)).2
    exact hat j hj
end Go.Proofs.YtlnblfdddellmaaDoor
