/-
  What the arguments of a law give its walk: slices of structs whose fields are numbers, strings, slices of bytes.
-/
import Derived.Test.YtpppffgchgcghaaGbs
import Derived.Deep.Fields
namespace Go.Proofs.Ytpppffgchgcghaa
open Go.ChangeShapes Go.WideShapes Go.ChangeAt Go.RowKit Go.Deep
set_option linter.unusedVariables false
/-- kinds of fields -/
inductive FK where
  | u
  | i
  | s
  | b
def FK.ty : FK → TypeId
  | .u => 5
  | .i => 3
  | .s => 9
  | .b => 33
inductive FV where
  | u (n : Int)
  | i (n : Int)
  | s (t : ByteArray)
  | b (z : Sl)
instance : Inhabited FV := ⟨.i 0⟩
def FV.val : FV → Value
  | .u n => .int .u8 n
  | .i n => .int .i64 n
  | .s t => .string t
  | .b z => slv z
def FV.ok (W : World) : FK → FV → Prop
  | .u, .u n => (Lit.int .u8 n).wf = true
  | .i, .i n => (Lit.int .i64 n).wf = true
  | .s, .s t => t.size ≤ maxLen
  | .b, .b z => SlB W z
  | _, _ => False
theorem FV.ok_below {W W' : World} {k : FK} {v : FV} (h : FV.ok W k v) (hb : Below W.heap.size W W') : FV.ok W' k v := by
  cases k <;> cases v <;> first | exact h | exact SlB.below h hb | exact h.elim
def StsIn (W : World) (ks : List FK) (a : Option Addr) (len cap : Nat) (L : List (List FV)) : Prop :=
  L.length = len ∧ (a = none → cap = 0) ∧ len ≤ cap ∧ cap ≤ 9223372036854775807 ∧ (len = 0 ∨ ∃ b off, a = some ⟨b, off, none⟩ ∧ b < W.heap.size ∧ ∀ (i : Nat) (r : List FV), L[i]? = some r → ∀ (j : Nat) (v : FV), r[j]? = some v → W.cell? ⟨b, off + i * ks.length + j, none⟩ = some v.val) ∧ ∀ r : List FV, r ∈ L → r.length = ks.length ∧ ∀ (j : Nat) (k : FK) (v : FV), ks[j]? = some k → r[j]? = some v → FV.ok W k v
theorem stsIn_nil (W : World) (ks : List FK) : StsIn W ks none 0 0 [] := ⟨rfl, fun _ => rfl, Nat.le_refl _, by omega, .inl rfl, fun r hr => by cases hr⟩
theorem open_field {H : Type} {enc : TypeId × Value → H} {W : World} {base n : Nat} {held : Bool} {k : FK} {cs : List Value} {x : DataW H × List MemPlace}
    (h : DataW.trod enc Try.prog W base (fun _ => true) held n k.ty cs = some x) (hsz : ∀ m ∈ DataW.weights Try.prog k.ty x.1, m ≤ reachBytes) : ∃ v : FV, cs = [v.val] ∧ FV.ok W k v := by
  cases k with
  | u =>
    obtain ⟨m, h1, h2, h3⟩ := DataW.trod_int Try.underlying5 h
    exact ⟨.u m, h1, h3⟩
  | i =>
    obtain ⟨m, h1, h2, h3⟩ := DataW.trod_int Try.underlying3 h
    exact ⟨.i m, h1, h3⟩
  | s =>
    obtain ⟨s, h1, h2, h3⟩ := DataW.trod_string Try.underlying9 h
    exact ⟨.s s, h1, h3⟩
  | b =>
    rcases open_ints Try.underlying33 Try.underlying5 (by kernel_rfl) h with ⟨e, _⟩ | ⟨x', l', c', zs, e, _, hl', hm', hz, hx', hcell, hwz⟩
    · exact ⟨.b (none, 0, 0, []), e, ⟨⟨rfl, by simp, .inl rfl⟩, fun _ => rfl, Nat.le_refl _, Nat.zero_le _⟩⟩
    · simp only [if_true] at hz
      have hdi := (Prod.mk.inj hx').1
      have hw : (lits .u8 (zs.take l') : List (DataW H)).length + (lits .u8 (zs.drop l') : List (DataW H)).length ≤ reachBytes := by
        refine hsz _ ?_
        rw [hdi]
        simp only [DataW.weights, FK.ty, Try.underlying33, bytes_u8, Nat.mul_one]
        exact List.mem_cons_self
      simp only [lits, List.length_map, List.length_take, List.length_drop, reachBytes] at hw
      obtain ⟨b1, b2, b3, b4⟩ := bytesIn_some hl' hz (by omega) hcell hwz
      exact ⟨.b (some x', l', c', _), e, ⟨b1, b2, b3, b4⟩⟩
set_option maxRecDepth 100000 in
theorem open_sts {H : Type} {enc : TypeId × Value → H} {W : World} {base : Nat} {held : Bool} {t e : TypeId} {fs : Array Field} (ks : List FK) (ht : Try.prog.underlying t = some (.slice e)) (he : Try.prog.underlying e = some (.struct fs))
    (hone : ∀ (i : Nat) (f : Field), fs[i]? = some f → f.offset = i ∧ Try.prog.cellsOf f.type = 1) (hC : Try.prog.cellsOf e = ks.length) (hK : ks.length ≠ 0) (hty : fs.toList.map (·.type) = ks.map FK.ty)
    {d : DataW H} {p : List MemPlace} {a : Option Addr} {len cap : Nat}
    (h : DataW.Trod enc Try.prog W base (fun _ => true) held t (.slice a len cap) d p) (hsz : ∀ n ∈ DataW.weights Try.prog t d, n ≤ reachBytes) : ∃ L, StsIn W ks a len cap L := by
  obtain ⟨fuel, hf⟩ := h
  have hfl : fs.size = ks.length := by
    have := congrArg List.length hty
    simpa using this
  rcases open_slice ht hf with ⟨hcs, _⟩ | ⟨x, l, c, m, n, D, Pl, hcs, _, hl, hcm, hm, hx, hi⟩
  · simp [Value.cells] at hcs
    obtain ⟨rfl, rfl, rfl⟩ := hcs
    exact ⟨[], stsIn_nil _ _⟩
  · simp [Value.cells] at hcs
    obtain ⟨rfl, rfl, rfl⟩ := hcs
    simp only [if_true] at hm
    subst hm
    have hd := (Prod.mk.inj hx).1
    rw [hC] at hi
    unfold maxLen at hcm
    obtain ⟨Z, hZ⟩ := choose_lt (α := List FV) (n := len) (p := fun i r => (r.length = ks.length ∧ ∀ j k v, ks[j]? = some k → r[j]? = some v → FV.ok W k v) ∧ W.cells? base (x.add (i * ks.length)) ks.length = some (r.map FV.val)) (fun i him => by
      obtain ⟨cs', h1, h2⟩ := hi i (by omega)
      obtain ⟨xs, n', _, hxy, hl2, hxl, hff⟩ := DataW.trod_struct he h2
      rw [hC] at hl2
      obtain ⟨V, hV⟩ := choose_lt (α := FV) (n := ks.length) (p := fun j v => cs'[j]? = some v.val ∧ ∀ k, ks[j]? = some k → FV.ok W k v) (fun j hj => by
        have hjf : fs[j]? = some fs[j] := Array.getElem?_eq_getElem (by omega)
        have hkj : ks[j]? = some ks[j] := List.getElem?_eq_getElem hj
        have htj : (fs[j]).type = (ks[j]).ty := by
          have h3 := congrArg (fun l => l[j]?) hty
          simp only [List.getElem?_map, Array.getElem?_toList, hjf, hkj, Option.map_some, Option.some.injEq] at h3
          exact h3
        obtain ⟨ho, hc1⟩ := hone j _ hjf
        have g := hff j _ hjf
        rw [ho, hc1, take1_drop cs' j undef (by omega), htj] at g
        have hxj : xs[j]? = some xs[j] := List.getElem?_eq_getElem (by omega)
        rw [hxj] at g
        obtain ⟨v, h3, h4⟩ := open_field g (fun q hq => hsz q (by
          rw [hd]
          simp only [DataW.weights, ht]
          refine List.mem_cons_of_mem _ (List.mem_append_left _ (weightsAll_mem (d := D i) (List.mem_map.2 ⟨i, by simpa using him, rfl⟩) ?_))
          rw [(Prod.mk.inj hxy).1]
          simp only [DataW.weights, he]
          exact DataW.weights_mem_each (j := j) (t := (ks[j]).ty) (by rw [hty, List.getElem?_map, hkj]; rfl) (by rw [List.getElem?_map, hxj]; rfl) q hq))
        refine ⟨v, ?_, fun k hk => by rw [hkj] at hk; cases hk; exact h4⟩
        have h5 : cs'.getD j undef = v.val := by simpa using h3
        rw [List.getElem?_eq_getElem (by omega), ← h5]
        simp [List.getD, List.getElem?_eq_getElem (show j < cs'.length by omega)])
      refine ⟨(List.range ks.length).map V, ⟨by simp, fun j k v hk hv => ?_⟩, ?_⟩
      · have hj : j < ks.length := (List.getElem?_eq_some_iff.1 hk).1
        rw [List.getElem?_map, List.getElem?_range hj] at hv
        simp only [Option.map_some, Option.some.injEq] at hv
        rw [← hv]
        exact (hV j hj).2 k hk
      · rw [h1]
        congr 1
        apply List.ext_getElem?
        intro j
        by_cases hj : j < ks.length
        · rw [(hV j hj).1, List.getElem?_map, List.getElem?_map, List.getElem?_range hj]
          rfl
        · rw [List.getElem?_eq_none (by omega), List.getElem?_eq_none (by simp; omega)])
    refine ⟨(List.range len).map Z, by simp, by simp, hl, by omega, ?_, fun s hs => ?_⟩
    · by_cases h0 : len = 0
      · exact .inl h0
      · have hk0 := hK
        have hat : ∀ i j, i < len → j < ks.length → W.cell? ((x.add (i * ks.length)).add j) = ((Z i).map FV.val)[j]? := fun i j him hj => by
          obtain ⟨_, _, hat⟩ := World.cells?_some (hZ i him).2
          exact hat j hj
        have hz := hat 0 0 (by omega) (by omega)
        have hZ0 := (hZ 0 (by omega)).1.1
        rw [List.getElem?_eq_getElem (by rw [List.length_map]; omega)] at hz
        obtain ⟨b, off, spot⟩ := x
        have hspot : spot = none := by simpa [Addr.add] using World.cell?_spot hz
        subst hspot
        rw [show ((⟨b, off, none⟩ : Addr).add (0 * ks.length)).add 0 = ⟨b, off, none⟩ by simp [Addr.add]] at hz
        refine .inr ⟨b, off, rfl, World.block_lt_of_cell? W ⟨b, off, none⟩ hz, fun i r hr j v hv => ?_⟩
        have hil : i < len := by
          have := (List.getElem?_eq_some_iff.1 hr).1
          simpa using this
        rw [List.getElem?_map, List.getElem?_range hil] at hr
        simp only [Option.map_some, Option.some.injEq] at hr
        have hjl : j < ks.length := by
          have := (List.getElem?_eq_some_iff.1 hv).1
          rw [← hr, (hZ i hil).1.1] at this
          exact this
        have h1 := hat i j hil hjl
        rw [Addr.add_mid, Addr.add_mid] at h1
        rw [h1, hr, List.getElem?_map, hv]
        rfl
    · obtain ⟨i, hi, rfl⟩ := List.mem_map.1 hs
      exact (hZ i (by simpa using hi)).1
end Go.Proofs.Ytpppffgchgcghaa
