/-
  Slices of slices of bytes that came in.
-/
import Derived.Test.YtpppffgchgcghaaPkb
import Derived.Deep.Slices
namespace Go.Proofs.Ytpppffgchgcghaa
open Go.ChangeShapes Go.WideShapes Go.ChangeAt Go.RowKit Go.Deep
set_option linter.unusedVariables false
abbrev Sl := Option Addr × Nat × Nat × List Nat
def slv (s : Sl) : Value := .slice s.1 s.2.1 s.2.2.1
def SlB (W : World) (s : Sl) : Prop := Rd W s.1 s.2.1 s.2.2.2 ∧ (s.1 = none → s.2.2.1 = 0) ∧ s.2.1 ≤ s.2.2.1 ∧ s.2.2.1 ≤ 140737488351232
def BssIn (W : World) (a : Option Addr) (len cap : Nat) (L : List Sl) : Prop :=
  L.length = len ∧ (a = none → cap = 0) ∧ len ≤ cap ∧ cap ≤ 9223372036854775807 ∧ (len = 0 ∨ ∃ b off, a = some ⟨b, off, none⟩ ∧ b < W.heap.size ∧ ∀ i s, L[i]? = some s → W.cell? ⟨b, off + i, none⟩ = some (slv s)) ∧ ∀ s ∈ L, SlB W s
theorem SlB.below {W W' : World} {s : Sl} (h : SlB W s) (hb : Below W.heap.size W W') : SlB W' s := ⟨h.1.below hb, h.2⟩
theorem BssIn.below {W W' : World} {a : Option Addr} {len cap : Nat} {L : List Sl} (h : BssIn W a len cap L) (hb : Below W.heap.size W W') : BssIn W' a len cap L := by
  obtain ⟨h1, h2, h3, h4, h5, h6⟩ := h
  refine ⟨h1, h2, h3, h4, h5.imp id ?_, fun s hs => (h6 s hs).below hb⟩
  rintro ⟨b, off, ha, hlt, hc⟩
  exact ⟨b, off, ha, Nat.lt_of_lt_of_le hlt hb.size, fun i s hs => (hb.cell (p := ⟨b, off + i, none⟩) hlt).trans (hc i s hs)⟩
theorem weightsAll_mem {H : Type} {P : Program} {e : TypeId} : ∀ {l : List (DataW H)} {d : DataW H} {n : Nat}, d ∈ l → n ∈ d.weights P e → n ∈ DataW.weightsAll P e l
  | x :: l, d, n, hd, hn => by
    simp only [DataW.weightsAll, List.mem_append]
    rcases List.mem_cons.1 hd with rfl | hd
    · exact .inl hn
    · exact .inr (weightsAll_mem hd hn)
theorem cells_sl : Try.prog.cellsOf 33 = 1 := by kernel_rfl
theorem bytes_u8 : Try.prog.bytesOf 5 = 1 := by kernel_rfl
set_option maxRecDepth 100000 in
theorem open_bytess {H : Type} {enc : TypeId × Value → H} {W : World} {base : Nat} {held : Bool} {d : DataW H} {p : List MemPlace} {a : Option Addr} {len cap : Nat}
    (h : DataW.Trod enc Try.prog W base (fun _ => true) held 55 (.slice a len cap) d p) (hsz : ∀ n ∈ DataW.weights Try.prog 55 d, n ≤ reachBytes) : ∃ L, BssIn W a len cap L := by
  obtain ⟨fuel, hf⟩ := h
  rcases open_slice Try.underlying55 hf with ⟨hcs, _⟩ | ⟨x, l, c, m, n, D, Pl, hcs, _, hl, hcm, hm, hx, hi⟩
  · simp [Value.cells] at hcs
    obtain ⟨rfl, rfl, rfl⟩ := hcs
    exact ⟨[], rfl, fun _ => rfl, Nat.le_refl _, by omega, .inl rfl, by simp⟩
  · simp [Value.cells] at hcs
    obtain ⟨rfl, rfl, rfl⟩ := hcs
    simp only [if_true] at hm
    subst hm
    have hd := (Prod.mk.inj hx).1
    rw [cells_sl] at hi
    unfold maxLen at hcm
    obtain ⟨Z, hZ⟩ := choose_lt (α := Sl) (n := len) (p := fun i s => SlB W s ∧ W.cells? base (x.add (i * 1)) 1 = some [slv s]) (fun i him => by
      obtain ⟨cs', h1, h2⟩ := hi i (by omega)
      rcases open_ints Try.underlying33 Try.underlying5 (by kernel_rfl) h2 with ⟨e, _⟩ | ⟨x', l', c', zs, e, _, hl', hm', hz, hx', hcell, hwz⟩
      · exact ⟨(none, 0, 0, []), ⟨⟨rfl, by simp, .inl rfl⟩, fun _ => rfl, Nat.le_refl _, Nat.zero_le _⟩, by rw [h1, e]; rfl⟩
      · simp only [if_true] at hz
        have hdi := (Prod.mk.inj hx').1
        have hw : (lits .u8 (zs.take l') : List (DataW H)).length + (lits .u8 (zs.drop l') : List (DataW H)).length ≤ reachBytes := by
          refine hsz _ ?_
          rw [hd]
          simp only [DataW.weights, Try.underlying55]
          refine List.mem_cons_of_mem _ (List.mem_append_left _ (weightsAll_mem (d := D i) (List.mem_map.2 ⟨i, by simpa using him, rfl⟩) ?_))
          rw [hdi]
          simp only [DataW.weights, Try.underlying33, bytes_u8, Nat.mul_one]
          exact List.mem_cons_self
        simp only [lits, List.length_map, List.length_take, List.length_drop, reachBytes] at hw
        obtain ⟨b1, b2, b3, b4⟩ := bytesIn_some hl' hz (by omega) hcell hwz
        exact ⟨(some x', l', c', _), ⟨b1, b2, b3, b4⟩, by rw [h1, e]; rfl⟩)
    refine ⟨(List.range len).map Z, by simp, by simp, hl, by omega, ?_, fun s hs => ?_⟩
    · by_cases h0 : len = 0
      · exact .inl h0
      · have hat : ∀ i, i < len → W.cell? ((x.add (i * 1)).add 0) = some (slv (Z i)) := fun i him => by
          obtain ⟨_, _, hat⟩ := World.cells?_some (hZ i him).2
          exact hat 0 (by omega)
        have hz := hat 0 (by omega)
        obtain ⟨b, off, spot⟩ := x
        have hspot : spot = none := by simpa [Addr.add] using World.cell?_spot hz
        subst hspot
        rw [show ((⟨b, off, none⟩ : Addr).add (0 * 1)).add 0 = ⟨b, off, none⟩ by simp [Addr.add]] at hz
        refine .inr ⟨b, off, rfl, World.block_lt_of_cell? W ⟨b, off, none⟩ hz, fun i s hs => ?_⟩
        have hil : i < len := by
          have := (List.getElem?_eq_some_iff.1 hs).1
          simpa using this
        rw [List.getElem?_map, List.getElem?_range hil] at hs
        simp only [Option.map_some, Option.some.injEq] at hs
        have h1 := hat i hil
        rw [Addr.add_mid, Addr.add_mid, Nat.mul_one, Nat.add_zero] at h1
        rw [h1, hs]
    · obtain ⟨i, hi, rfl⟩ := List.mem_map.1 hs
      exact (hZ i (by simpa using hi)).1
end Go.Proofs.Ytpppffgchgcghaa
