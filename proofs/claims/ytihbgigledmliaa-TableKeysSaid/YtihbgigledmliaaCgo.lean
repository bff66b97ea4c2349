/-
  What the arguments of a law give its walk: a row of the document's changes, an array of two texts.
-/
import Derived.Test.YtihbgigledmliaaJpk
import Derived.Test.YtihbgigledmliaaTbb
import Derived.Deep.Fields
namespace Go.Proofs.Ytihbgigledmliaa.Cgo
open Go.Proofs.Ytihbgigledmliaa Go.ChangeShapes Go.WideShapes Go.ChangeAt Go.RowKit Go.Deep
set_option linter.unusedVariables false
/-- kinds of fields -/
inductive FK where
  | i
  | s
  | b
  | o
def FK.ty : FK → TypeId
  | .i => 3
  | .s => 9
  | .b => 41
  | .o => 4
inductive FV where
  | i (n : Int)
  | s (t : ByteArray)
  | b (z : Sl)
  | o (g : Bool)
instance : Inhabited FV := ⟨.i 0⟩
def FV.val : FV → Value
  | .i n => .int .i64 n
  | .s t => .string t
  | .b z => slv z
  | .o g => .bool g
def FV.ok (W : World) : FK → FV → Prop
  | .i, .i n => (Lit.int .i64 n).wf = true
  | .s, .s t => t.size ≤ maxLen
  | .b, .b z => SlB W z
  | .o, .o _ => True
  | _, _ => False
theorem FV.ok_below {W W' : World} {k : FK} {v : FV} (h : FV.ok W k v) (hb : Below W.heap.size W W') : FV.ok W' k v := by
  cases k <;> cases v <;> first | exact h | exact SlB.below h hb | exact h.elim
def StsIn (W : World) (ks : List FK) (a : Option Addr) (len cap : Nat) (L : List (List FV)) : Prop :=
  L.length = len ∧ (a = none → cap = 0) ∧ len ≤ cap ∧ cap ≤ 9223372036854775807 ∧ (len = 0 ∨ ∃ b off, a = some ⟨b, off, none⟩ ∧ b < W.heap.size ∧ ∀ (i : Nat) (r : List FV), L[i]? = some r → ∀ (j : Nat) (v : FV), r[j]? = some v → W.cell? ⟨b, off + i * ks.length + j, none⟩ = some v.val) ∧ ∀ r : List FV, r ∈ L → r.length = ks.length ∧ ∀ (j : Nat) (k : FK) (v : FV), ks[j]? = some k → r[j]? = some v → FV.ok W k v
theorem stsIn_nil (W : World) (ks : List FK) : StsIn W ks none 0 0 [] := ⟨rfl, fun _ => rfl, Nat.le_refl _, by omega, .inl rfl, fun r hr => by cases hr⟩
theorem open_field {H : Type} {enc : TypeId × Value → H} {W : World} {base n : Nat} {held : Bool} {k : FK} {cs : List Value} {x : DataW H × List MemPlace}
    (h : DataW.trod enc Try.prog W base (fun _ => true) held n k.ty cs = some x) (hsz : ∀ m ∈ DataW.weights Try.prog k.ty x.1, m ≤ reachBytes) : ∃ v : FV, cs = [v.val] ∧ FV.ok W k v := by
  cases k with
  | o =>
    obtain ⟨g, h1, h2⟩ := DataW.trod_bool Try.underlying4 h
    exact ⟨.o g, h1, trivial⟩
  | i =>
    obtain ⟨m, h1, h2, h3⟩ := DataW.trod_int Try.underlying3 h
    exact ⟨.i m, h1, h3⟩
  | s =>
    obtain ⟨s, h1, h2, h3⟩ := DataW.trod_string Try.underlying9 h
    exact ⟨.s s, h1, h3⟩
  | b =>
    rcases open_ints Try.underlying41 Try.underlying5 (by kernel_rfl) h with ⟨e, _⟩ | ⟨x', l', c', zs, e, _, hl', hm', hz, hx', hcell, hwz⟩
    · exact ⟨.b (none, 0, 0, []), e, ⟨⟨rfl, by simp, .inl rfl⟩, fun _ => rfl, Nat.le_refl _, Nat.zero_le _⟩⟩
    · simp only [if_true] at hz
      have hdi := (Prod.mk.inj hx').1
      have hw : (lits .u8 (zs.take l') : List (DataW H)).length + (lits .u8 (zs.drop l') : List (DataW H)).length ≤ reachBytes := by
        refine hsz _ ?_
        rw [hdi]
        simp only [DataW.weights, FK.ty, Try.underlying41, bytes_u8, Nat.mul_one]
        exact List.mem_cons_self
      simp only [lits, List.length_map, List.length_take, List.length_drop, reachBytes] at hw
      obtain ⟨b1, b2, b3, b4⟩ := bytesIn_some hl' hz (by omega) hcell hwz
      exact ⟨.b (some x', l', c', _), e, ⟨b1, b2, b3, b4⟩⟩
set_option maxRecDepth 100000 in
theorem open_sts {H : Type} {enc : TypeId × Value → H} {W : World} {base : Nat} {held : Bool} {t e : TypeId} {fs : Array Field} (ks : List FK) (ht : Try.prog.underlying t = some (.slice e)) (he : Try.prog.underlying e = some (.struct fs))
    (hone : ∀ (i : Nat) (f : Field), fs[i]? = some f → f.offset = i ∧ Try.prog.cellsOf f.type = 1) (hC : Try.prog.cellsOf e = ks.length) (hK : ks.length ≠ 0) (hty : fs.toList.map (·.type) = ks.map FK.ty)
    {d : DataW H} {p : List MemPlace} {a : Option Addr} {len cap : Nat}
    (h : DataW.Trod enc Try.prog W base (fun _ => true) held t (.slice a len cap) d p) (hsz : ∀ n ∈ DataW.weights Try.prog t d, n ≤ reachBytes) : ∃ L, StsIn W ks a len cap L := by
  obtain ⟨fuel, hf⟩ := h
  have hfl : fs.size = ks.length := by
    have := congrArg List.length hty
    simpa using this
  rcases open_slice ht hf with ⟨hcs, _⟩ | ⟨x, l, c, m, n, D, Pl, hcs, _, hl, hcm, hm, hx, hi⟩
  · simp [Value.cells] at hcs
    obtain ⟨rfl, rfl, rfl⟩ := hcs
    exact ⟨[], stsIn_nil _ _⟩
  · simp [Value.cells] at hcs
    obtain ⟨rfl, rfl, rfl⟩ := hcs
    simp only [if_true] at hm
    subst hm
    have hd := (Prod.mk.inj hx).1
    rw [hC] at hi
    unfold maxLen at hcm
    obtain ⟨Z, hZ⟩ := choose_lt (α := List FV) (n := len) (p := fun i r => (r.length = ks.length ∧ ∀ j k v, ks[j]? = some k → r[j]? = some v → FV.ok W k v) ∧ W.cells? base (x.add (i * ks.length)) ks.length = some (r.map FV.val)) (fun i him => by
      obtain ⟨cs', h1, h2⟩ := hi i (by omega)
      obtain ⟨xs, n', _, hxy, hl2, hxl, hff⟩ := DataW.trod_struct he h2
      rw [hC] at hl2
      obtain ⟨V, hV⟩ := choose_lt (α := FV) (n := ks.length) (p := fun j v => cs'[j]? = some v.val ∧ ∀ k, ks[j]? = some k → FV.ok W k v) (fun j hj => by
        have hjf : fs[j]? = some fs[j] := Array.getElem?_eq_getElem (by omega)
        have hkj : ks[j]? = some ks[j] := List.getElem?_eq_getElem hj
        have htj : (fs[j]).type = (ks[j]).ty := by
          have h3 := congrArg (fun l => l[j]?) hty
          simp only [List.getElem?_map, Array.getElem?_toList, hjf, hkj, Option.map_some, Option.some.injEq] at h3
          exact h3
        obtain ⟨ho, hc1⟩ := hone j _ hjf
        have g := hff j _ hjf
        rw [ho, hc1, take1_drop cs' j undef (by omega), htj] at g
        have hxj : xs[j]? = some xs[j] := List.getElem?_eq_getElem (by omega)
        rw [hxj] at g
        obtain ⟨v, h3, h4⟩ := open_field g (fun q hq => hsz q (by
          rw [hd]
          simp only [DataW.weights, ht]
          refine List.mem_cons_of_mem _ (List.mem_append_left _ (weightsAll_mem (d := D i) (List.mem_map.2 ⟨i, by simpa using him, rfl⟩) ?_))
          rw [(Prod.mk.inj hxy).1]
          simp only [DataW.weights, he]
          exact DataW.weights_mem_each (j := j) (t := (ks[j]).ty) (by rw [hty, List.getElem?_map, hkj]; rfl) (by rw [List.getElem?_map, hxj]; rfl) q hq))
        refine ⟨v, ?_, fun k hk => by rw [hkj] at hk; cases hk; exact h4⟩
        have h5 : cs'.getD j undef = v.val := by simpa using h3
        rw [List.getElem?_eq_getElem (by omega), ← h5]
        simp [List.getD, List.getElem?_eq_getElem (show j < cs'.length by omega)])
      refine ⟨(List.range ks.length).map V, ⟨by simp, fun j k v hk hv => ?_⟩, ?_⟩
      · have hj : j < ks.length := (List.getElem?_eq_some_iff.1 hk).1
        rw [List.getElem?_map, List.getElem?_range hj] at hv
        simp only [Option.map_some, Option.some.injEq] at hv
        rw [← hv]
        exact (hV j hj).2 k hk
      · rw [h1]
        congr 1
        apply List.ext_getElem?
        intro j
        by_cases hj : j < ks.length
        · rw [(hV j hj).1, List.getElem?_map, List.getElem?_map, List.getElem?_range hj]
          rfl
        · rw [List.getElem?_eq_none (by omega), List.getElem?_eq_none (by simp; omega)])
    refine ⟨(List.range len).map Z, by simp, by simp, hl, by omega, ?_, fun s hs => ?_⟩
    · by_cases h0 : len = 0
      · exact .inl h0
      · have hk0 := hK
        have hat : ∀ i j, i < len → j < ks.length → W.cell? ((x.add (i * ks.length)).add j) = ((Z i).map FV.val)[j]? := fun i j him hj => by
          obtain ⟨_, _, hat⟩ := World.cells?_some (hZ i him).2
          exact hat j hj
        have hz := hat 0 0 (by omega) (by omega)
        have hZ0 := (hZ 0 (by omega)).1.1
        rw [List.getElem?_eq_getElem (by rw [List.length_map]; omega)] at hz
        obtain ⟨b, off, spot⟩ := x
        have hspot : spot = none := by simpa [Addr.add] using World.cell?_spot hz
        subst hspot
        rw [show ((⟨b, off, none⟩ : Addr).add (0 * ks.length)).add 0 = ⟨b, off, none⟩ by simp [Addr.add]] at hz
        refine .inr ⟨b, off, rfl, World.block_lt_of_cell? W ⟨b, off, none⟩ hz, fun i r hr j v hv => ?_⟩
        have hil : i < len := by
          have := (List.getElem?_eq_some_iff.1 hr).1
          simpa using this
        rw [List.getElem?_map, List.getElem?_range hil] at hr
        simp only [Option.map_some, Option.some.injEq] at hr
        have hjl : j < ks.length := by
          have := (List.getElem?_eq_some_iff.1 hv).1
          rw [← hr, (hZ i hil).1.1] at this
          exact this
        have h1 := hat i j hil hjl
        rw [Addr.add_mid, Addr.add_mid] at h1
        rw [h1, hr, List.getElem?_map, hv]
        rfl
    · obtain ⟨i, hi, rfl⟩ := List.mem_map.1 hs
      exact (hZ i (by simpa using hi)).1
/-- a change of its three fields -/
def cgOf : List FV → Cg
  | [.s t, .o g, .b z] => ⟨t, g, z.1, z.2.1, z.2.2.1, z.2.2.2⟩
  | _ => ⟨ByteArray.empty, false, none, 0, 0, []⟩
theorem row_form {W : World} {r : List FV} (hr : r.length = 3 ∧ ∀ (j : Nat) (k : FK) (v : FV), [FK.s, FK.o, FK.b][j]? = some k → r[j]? = some v → FV.ok W k v) :
    ∃ t g z, r = [.s t, .o g, .b z] ∧ t.size ≤ maxLen ∧ SlB W z := by
  obtain ⟨hl, hok⟩ := hr
  match r, hl with
  | [x0, x1, x2], _ =>
    have h0 := hok 0 .s x0 rfl rfl
    have h1 := hok 1 .o x1 rfl rfl
    have h2 := hok 2 .b x2 rfl rfl
    cases x0 with
    | s t =>
      cases x1 with
      | o g =>
        cases x2 with
        | b z => exact ⟨t, g, z, rfl, h0, h2⟩
        | i n => exact h2.elim
        | s n => exact h2.elim
        | o n => exact h2.elim
      | i n => exact h1.elim
      | s n => exact h1.elim
      | b n => exact h1.elim
    | i n => exact h0.elim
    | b n => exact h0.elim
    | o n => exact h0.elim
theorem cgIn_of {W : World} {a : Option Addr} {len cap : Nat} {L : List (List FV)} (h : StsIn W [.s, .o, .b] a len cap L) : CgIn W a len cap (L.map cgOf) := by
  obtain ⟨h1, h2, h3, h4, h5, h6⟩ := h
  refine ⟨by rw [List.length_map]; exact h1, h3, h4, h5.imp id ?_, ?_⟩
  · rintro ⟨b, off, ha, hlt, hc⟩
    refine ⟨b, off, ha, hlt, fun i c hi => ?_⟩
    rw [List.getElem?_map] at hi
    cases hr : L[i]? with
    | none => rw [hr] at hi; cases hi
    | some r =>
      rw [hr] at hi
      obtain rfl := Option.some.inj hi
      obtain ⟨t, g, z, rfl, _, _⟩ := row_form (h6 r (List.mem_of_getElem? hr))
      refine ⟨?_, ?_, ?_⟩
      · have := hc i _ hr 0 _ rfl
        rw [Nat.add_zero] at this
        exact this
      · exact hc i _ hr 1 _ rfl
      · exact hc i _ hr 2 _ rfl
  · intro c hc
    obtain ⟨r, hr, rfl⟩ := List.mem_map.1 hc
    obtain ⟨t, g, z, rfl, ht, hz⟩ := row_form (h6 r hr)
    exact ⟨hz.1, hz.2.1, ht⟩
theorem cells_pair : Try.prog.cellsOf 23 = 2 := by kernel_rfl
theorem cells_text : Try.prog.cellsOf 9 = 1 := by kernel_rfl
set_option maxRecDepth 100000 in
theorem open_pair {H : Type} {enc : TypeId × Value → H} {W : World} {base b0 : Nat} {sp : Nat → Bool} {held : Bool} {v : Value} {d : DataW H} {p : List MemPlace}
    (hv : Value.okWide Try.prog W .any b0 23 v) (h : DataW.Trod enc Try.prog W base sp held 23 v d p) : ∃ x y : ByteArray, v = .agg #[.string x, .string y] ∧ x.size ≤ maxLen ∧ y.size ≤ maxLen := by
  unfold Value.okWide at hv
  rw [Try.underlying23] at hv
  obtain ⟨cs, rfl, _, _⟩ := hv
  obtain ⟨fuel, hf⟩ := h
  obtain ⟨xs, m, _, hx, hl, hn, hel⟩ := DataW.trod_array Try.underlying23 hf
  obtain ⟨L⟩ := cs
  simp only [Value.cells] at hl hel
  rw [cells_pair] at hl
  match L, hl with
  | [c0, c1], _ =>
    have h0 := hel 0 (by omega)
    have h1 := hel 1 (by omega)
    rw [cells_text] at h0 h1
    rw [show xs[0]? = some (xs[0]'(by omega)) from List.getElem?_eq_getElem _] at h0
    rw [show xs[1]? = some (xs[1]'(by omega)) from List.getElem?_eq_getElem _] at h1
    obtain ⟨x, ex, _, dx⟩ := DataW.trod_string Try.underlying9 h0
    obtain ⟨y, ey, _, dy⟩ := DataW.trod_string Try.underlying9 h1
    refine ⟨x, y, ?_, dx, dy⟩
    have e0 : c0 = .string x := List.head_eq_of_cons_eq ex
    have e1 : c1 = .string y := List.head_eq_of_cons_eq ey
    rw [e0, e1]
end Go.Proofs.Ytihbgigledmliaa.Cgo
