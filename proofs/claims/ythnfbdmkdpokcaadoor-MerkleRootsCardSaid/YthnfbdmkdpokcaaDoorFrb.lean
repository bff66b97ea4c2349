/-
  What the arguments of a law of this seat give its walk: sums that came in; the table of the rounds' constants.
-/
import Derived.Test.YthnfbdmkdpokcaaDoorFrame
import Derived.Test.YthnfbdmkdpokcaaDoorBulk
import Derived.Test.YthnfbdmkdpokcaaDoorOrd
import Derived.Test.YthnfbdmkdpokcaaDoorCards
import Derived.Test.YthnfbdmkdpokcaaDoorTie
import Derived.Deep.DeepHandedRow
import Derived.Lib.LaidTab
import Derived.LaidMore
namespace Go.Proofs.YthnfbdmkdpokcaaDoor
open Go.ChangeShapes Go.WideShapes Go.ChangeAt Go.RowKit
set_option linter.unusedVariables false

def natOf : Value → Nat
  | .int _ n => n.toNat
  | _ => 0
/-- the datum of a sum -/
def digD {H : Type} (zs : List Nat) : DataW H := .agg (zs.map fun z : Nat => .lit (.int .u8 (z : Int)))
theorem cells_u8 : Tryd.prog.cellsOf 5 = 1 := by kernel_rfl
set_option maxRecDepth 100000 in
theorem open_dig {H : Type} {enc : TypeId × Value → H} {W : World} {base b0 : Nat} {sp : Nat → Bool} {held : Bool} {t : TypeId} {v : Value} {d : DataW H} {p : List MemPlace} (hu : Tryd.prog.underlying t = some (.array 32 5)) (hc : Tryd.prog.cellsOf t = 32)
    (hv : Value.okWide Tryd.prog W .any b0 t v) (h : DataW.Trod enc Tryd.prog W base sp held t v d p) : ∃ zs : List Nat, v = .agg (cellsOf zs).toArray ∧ D32 zs ∧ d = digD zs ∧ p = [] := by
  unfold Value.okWide at hv
  rw [hu] at hv
  obtain ⟨cs, rfl, _, _⟩ := hv
  obtain ⟨fuel, hf⟩ := h
  obtain ⟨xs, m, _, hx, hl, hn, hel⟩ := DataW.trod_array hu hf
  obtain ⟨L⟩ := cs
  simp only [Value.cells] at hl hel
  rw [hc] at hl
  have hat : ∀ i, i < 32 → ∃ n : Nat, n < 256 ∧ L[i]? = some (.int .u8 (n : Int)) ∧ xs[i]? = some (.lit (.int .u8 (n : Int)), []) := by
    intro i hi
    have h1 := hel i hi
    rw [cells_u8, Nat.mul_one] at h1
    have hxi : xs[i]? = some (xs[i]'(by omega)) := List.getElem?_eq_getElem _
    rw [hxi] at h1
    obtain ⟨k, e1, e2, hw⟩ := DataW.trod_int Tryd.underlying5 h1
    have hb : 0 ≤ k ∧ k ≤ 255 := by simpa [Lit.wf, IntKind.min, IntKind.max, IntKind.signed, IntKind.bits] using hw
    have hi2 : i < L.length := by omega
    refine ⟨k.toNat, by omega, ?_, ?_⟩
    · rw [List.getElem?_eq_getElem hi2]
      rw [List.drop_eq_getElem_cons hi2, List.take_succ_cons] at e1
      have e3 := (List.cons.inj e1).1
      rw [e3, Int.toNat_of_nonneg hb.1]
    · rw [hxi, e2, Int.toNat_of_nonneg hb.1]
  have hL : L.length = 32 := hl
  refine ⟨L.map natOf, ?_, ⟨by simp [hL], ?_⟩, ?_, ?_⟩
  · refine congrArg (fun l : List Value => Value.agg l.toArray) ?_
    apply List.ext_getElem?
    intro i
    by_cases hi : i < 32
    · obtain ⟨n, _, h1, _⟩ := hat i hi
      simp only [cellsOf, List.getElem?_map, h1, Option.map_some, natOf, Int.toNat_natCast]
    · rw [List.getElem?_eq_none (by omega), List.getElem?_eq_none (by rw [cellsOf_length, List.length_map]; omega)]
  · intro z hz
    simp only [List.mem_map] at hz
    obtain ⟨v, hv, rfl⟩ := hz
    obtain ⟨i, hi, rfl⟩ := List.getElem_of_mem hv
    obtain ⟨n, hn, h1, _⟩ := hat i (by omega)
    rw [List.getElem?_eq_getElem hi] at h1
    rw [Option.some.inj h1]
    simpa [natOf] using hn
  · have e : (xs.map (·.1)) = (L.map natOf).map fun z : Nat => (.lit (.int .u8 (z : Int)) : DataW H) := by
      apply List.ext_getElem?
      intro i
      by_cases hi : i < 32
      · obtain ⟨n, _, h1, h2⟩ := hat i hi
        simp only [List.getElem?_map, h1, h2, Option.map_some, natOf, Int.toNat_natCast]
      · rw [List.getElem?_eq_none (by simp; omega), List.getElem?_eq_none (by simp; omega)]
    rw [(Prod.mk.inj hx).1, e]
    rfl
  · rw [(Prod.mk.inj hx).2]
    apply List.eq_nil_iff_forall_not_mem.2
    intro q hq
    simp only [List.mem_flatMap] at hq
    obtain ⟨y, hy, hq⟩ := hq
    obtain ⟨i, hi, rfl⟩ := List.getElem_of_mem hy
    obtain ⟨n, _, _, h2⟩ := hat i (by omega)
    rw [List.getElem?_eq_getElem hi] at h2
    rw [Option.some.inj h2] at hq
    simp at hq

theorem gTab : Tryd.prog.globalNamed "hallmark/digest.fractions" = some 0 := by kernel_rfl
theorem gTabType : (Tryd.prog.globals[0]?).map (·.type) = some 110 := by kernel_rfl
theorem cells_t64 : Tryd.prog.cellsOf 110 = 64 := by kernel_rfl
theorem cells_u32 : Tryd.prog.cellsOf 94 = 1 := by kernel_rfl
theorem cells_a32 : Tryd.prog.cellsOf 26 = 32 := by kernel_rfl
def kInts : List Int := Sha.K.map fun z : Nat => (z : Int)
theorem kInts_get : ∀ i, i < 64 → kInts.getD i 0 = ((Sha.K.getD i 0 : Nat) : Int) := by decide
/-- what the row's list gives -/
theorem tab_of {W : World} (h : laidMetH Tryd.prog [("hallmark/digest.fractions", Rows.laid_hallmark_digest_fractions)] W) : Tab W := fun i hi => by
  have ht : Lib.TabIs Tryd.prog W "hallmark/digest.fractions" .u32 kInts := Lib.tabIs_of_head (rest := []) gTab gTabType Tryd.underlying110 Tryd.underlying94 cells_u32 cells_t64 h
  rw [← kInts_get i hi]
  exact ht.cell gTab i (by rw [kInts, List.length_map]; exact hi)
/-- a world for the witness: the table holds what its initialiser lays -/
noncomputable def laidWorld (os : Os) : World :=
  { World.holding Tryd.prog os ⟨#[], #[], []⟩ with heap := (World.holding Tryd.prog os ⟨#[], #[], []⟩).heap.modify 0 fun
      | .cells _ t frozen => .cells (kInts.map fun z => Value.int .u32 z).toArray t frozen
      | o => o }
theorem laid_met (os : Os) (args : Array Value) : laidMet Tryd.prog [("hallmark/digest.fractions", Rows.laid_hallmark_digest_fractions)] ((laidWorld os).forCall (fun _ _ => 0) ⟨#[], args, []⟩).memory :=
  laidMet_of_run' 8 (by kernel_rfl) (by kernel_rfl)
end Go.Proofs.YthnfbdmkdpokcaaDoor
