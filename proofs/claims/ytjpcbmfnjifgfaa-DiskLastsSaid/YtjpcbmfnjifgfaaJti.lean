/-
  What the arguments of a law give its walk: lists of byte slices that came in. Rows of numbers that the call owns; appends that leave another row as it is.
-/
import Derived.Test.YtjpcbmfnjifgfaaJsl
import Derived.Deep.Slices
namespace Go.Proofs.Ytjpcbmfnjifgfaa
open Go.ChangeShapes Go.WideShapes Go.ChangeAt Go.RowKit Go.Deep
set_option linter.unusedVariables false
def SlB (W : World) (s : Sl) : Prop := Rd W s.1 s.2.1 s.2.2.2 ∧ (s.1 = none → s.2.2.1 = 0) ∧ s.2.1 ≤ s.2.2.1 ∧ s.2.2.1 ≤ 140737488351232
def BssIn (W : World) (a : Option Addr) (len cap : Nat) (L : List Sl) : Prop :=
  L.length = len ∧ (a = none → cap = 0) ∧ len ≤ cap ∧ cap ≤ 9223372036854775807 ∧ (len = 0 ∨ ∃ b off, a = some ⟨b, off, none⟩ ∧ b < W.heap.size ∧ ∀ i s, L[i]? = some s → W.cell? ⟨b, off + i, none⟩ = some (slv s)) ∧ ∀ s ∈ L, SlB W s
theorem SlB.below {W W' : World} {s : Sl} (h : SlB W s) (hb : Below W.heap.size W W') : SlB W' s := ⟨h.1.below hb, h.2⟩
theorem BssIn.below {W W' : World} {a : Option Addr} {len cap : Nat} {L : List Sl} (h : BssIn W a len cap L) (hb : Below W.heap.size W W') : BssIn W' a len cap L := by
  obtain ⟨h1, h2, h3, h4, h5, h6⟩ := h
  refine ⟨h1, h2, h3, h4, h5.imp id ?_, fun s hs => (h6 s hs).below hb⟩
  rintro ⟨b, off, ha, hlt, hc⟩
  exact ⟨b, off, ha, Nat.lt_of_lt_of_le hlt hb.size, fun i s hs => (hb.cell (p := ⟨b, off + i, none⟩) hlt).trans (hc i s hs)⟩
theorem weightsAll_mem {H : Type} {P : Program} {e : TypeId} : ∀ {l : List (DataW H)} {d : DataW H} {n : Nat}, d ∈ l → n ∈ d.weights P e → n ∈ DataW.weightsAll P e l
  | x :: l, d, n, hd, hn => by
    simp only [DataW.weightsAll, List.mem_append]
    rcases List.mem_cons.1 hd with rfl | hd
    · exact .inl hn
    · exact .inr (weightsAll_mem hd hn)
theorem cells_sl : Try.prog.cellsOf 30 = 1 := by kernel_rfl
theorem bytes_u8 : Try.prog.bytesOf 5 = 1 := by kernel_rfl
set_option maxRecDepth 100000 in
theorem open_bytess {H : Type} {enc : TypeId × Value → H} {W : World} {base : Nat} {held : Bool} {d : DataW H} {p : List MemPlace} {a : Option Addr} {len cap : Nat}
    (h : DataW.Trod enc Try.prog W base (fun _ => true) held 52 (.slice a len cap) d p) (hsz : ∀ n ∈ DataW.weights Try.prog 52 d, n ≤ reachBytes) : ∃ L, BssIn W a len cap L := by
  obtain ⟨fuel, hf⟩ := h
  rcases open_slice Try.underlying52 hf with ⟨hcs, _⟩ | ⟨x, l, c, m, n, D, Pl, hcs, _, hl, hcm, hm, hx, hi⟩
  · simp [Value.cells] at hcs
    obtain ⟨rfl, rfl, rfl⟩ := hcs
    exact ⟨[], rfl, fun _ => rfl, Nat.le_refl _, by omega, .inl rfl, by simp⟩
  · simp [Value.cells] at hcs
    obtain ⟨rfl, rfl, rfl⟩ := hcs
    simp only [if_true] at hm
    subst hm
    have hd := (Prod.mk.inj hx).1
    rw [cells_sl] at hi
    unfold maxLen at hcm
    obtain ⟨Z, hZ⟩ := choose_lt (α := Sl) (n := len) (p := fun i s => SlB W s ∧ W.cells? base (x.add (i * 1)) 1 = some [slv s]) (fun i him => by
      obtain ⟨cs', h1, h2⟩ := hi i (by omega)
      rcases open_ints Try.underlying30 Try.underlying5 (by kernel_rfl) h2 with ⟨e, _⟩ | ⟨x', l', c', zs, e, _, hl', hm', hz, hx', hcell, hwz⟩
      · exact ⟨(none, 0, 0, []), ⟨⟨rfl, by simp, .inl rfl⟩, fun _ => rfl, Nat.le_refl _, Nat.zero_le _⟩, by rw [h1, e]; rfl⟩
      · simp only [if_true] at hz
        have hdi := (Prod.mk.inj hx').1
        have hw : (lits .u8 (zs.take l') : List (DataW H)).length + (lits .u8 (zs.drop l') : List (DataW H)).length ≤ reachBytes := by
          refine hsz _ ?_
          rw [hd]
          simp only [DataW.weights, Try.underlying52]
          refine List.mem_cons_of_mem _ (List.mem_append_left _ (weightsAll_mem (d := D i) (List.mem_map.2 ⟨i, by simpa using him, rfl⟩) ?_))
          rw [hdi]
          simp only [DataW.weights, Try.underlying30, bytes_u8, Nat.mul_one]
          exact List.mem_cons_self
        simp only [lits, List.length_map, List.length_take, List.length_drop, reachBytes] at hw
        obtain ⟨b1, b2, b3, b4⟩ := bytesIn_some hl' hz (by omega) hcell hwz
        exact ⟨(some x', l', c', _), ⟨b1, b2, b3, b4⟩, by rw [h1, e]; rfl⟩)
    refine ⟨(List.range len).map Z, by simp, by simp, hl, by omega, ?_, fun s hs => ?_⟩
    · by_cases h0 : len = 0
      · exact .inl h0
      · have hat : ∀ i, i < len → W.cell? ((x.add (i * 1)).add 0) = some (slv (Z i)) := fun i him => by
          obtain ⟨_, _, hat⟩ := World.cells?_some (hZ i him).2
          exact hat 0 (by omega)
        have hz := hat 0 (by omega)
        obtain ⟨b, off, spot⟩ := x
        have hspot : spot = none := by simpa [Addr.add] using World.cell?_spot hz
        subst hspot
        rw [show ((⟨b, off, none⟩ : Addr).add (0 * 1)).add 0 = ⟨b, off, none⟩ by simp [Addr.add]] at hz
        refine .inr ⟨b, off, rfl, World.block_lt_of_cell? W ⟨b, off, none⟩ hz, fun i s hs => ?_⟩
        have hil : i < len := by
          have := (List.getElem?_eq_some_iff.1 hs).1
          simpa using this
        rw [List.getElem?_map, List.getElem?_range hil] at hs
        simp only [Option.map_some, Option.some.injEq] at hs
        have h1 := hat i hil
        rw [Addr.add_mid, Addr.add_mid, Nat.mul_one, Nat.add_zero] at h1
        rw [h1, hs]
    · obtain ⟨i, hi, rfl⟩ := List.mem_map.1 hs
      exact (hZ i (by simpa using hi)).1
/-- numbers in a row that the call owns -/
def cellsI (ns : List Nat) : List Value := ns.map fun n : Nat => Value.int .i64 (n : Int)
theorem cellsI_len (ns : List Nat) : (cellsI ns).length = ns.length := by simp [cellsI]
abbrev OwnI (w : World) (B : Nat) (v : Value) (ns : List Nat) : Prop := w.ownsRow B 3 1 v ns.length (cellsI ns)
theorem OwnI.nil (w : World) (B : Nat) : OwnI w B (.slice none 0 0) [] := World.ownsRow_nil _ _ _ _
theorem info_int : (Try.prog.info? 3).map (fun i => (i.zero, i.size, i.bytes)) = some (some (.int .i64 0), 1, 8) := by kernel_rfl
theorem OwnI.form {w : World} {B : Nat} {v : Value} {ns : List Nat} (h : OwnI w B v ns) : ∃ a n c, v = .slice a n c ∧ ns.length = n ∧ n ≤ c ∧ c ≤ 9223372036854775807 ∧ (n = 0 ∨ ∃ g, a = some ⟨g, 0, none⟩ ∧ B ≤ g ∧ g < w.heap.size ∧ ∀ i, i < n → w.cell? ⟨g, i, none⟩ = some (.int .i64 ((ns.getD i 0 : Nat) : Int))) := by
  rcases h.2 with ⟨rfl, h0⟩ | ⟨g, c, cur, rfl, hb, hh, hn, hm, hs, ht⟩
  · exact ⟨none, 0, 0, rfl, h0, Nat.le_refl _, by omega, .inl rfl⟩
  · refine ⟨_, _, c, rfl, rfl, hn, hm, .inr ⟨g, rfl, hb, (Array.getElem?_eq_some_iff.1 hh).1, fun i hi => ?_⟩⟩
    rw [cell_of_row w g i cur _ _ hh, ← Array.getElem?_toList]
    have e := congrArg (fun l => l[i]?) ht
    simp only [Nat.mul_one, List.getElem?_take, if_pos hi] at e
    rw [e]
    simp [cellsI, hi]
/-- a row of bytes and a row of numbers are two -/
theorem own_two {w : World} {B B' : Nat} {v v' : Value} {zs ns : List Nat} (h : Own w B v zs) (h' : OwnI w B' v' ns) : v'.ownBlock = none ∨ v'.ownBlock ≠ v.ownBlock := by
  rcases h.2 with ⟨rfl, _⟩ | ⟨g, c, cur, rfl, _, hh, _⟩
  · by_cases e : v'.ownBlock = none
    · exact .inl e
    · exact .inr e
  · rcases h'.2 with ⟨rfl, _⟩ | ⟨g', c', cur', rfl, _, hh', _⟩
    · exact .inl rfl
    · right
      intro e
      have e2 : g' = g := by simpa [Value.ownBlock] using e
      subst e2
      rw [hh] at hh'
      simp only [Option.some.injEq, Obj.cells.injEq] at hh'
      exact absurd hh'.2.1 (by decide)
/-- append(s, p...) of bytes, and what it may write -/
theorem wpList_catG {w : World} {ops : Array Oper} {rest : List Oper} {o : Oper} {a : Act} {Q : Exit → Act → World → Prop} (hgd : o.guard = none) (s x : Operand)
    (ho : o.op = .call { callee := .builtin .append, args := #[s, x], argTypes := #[30, 30] })
    (B : Nat) (v : Value) (zs ys : List Nat) (hs : a.eval s = v) (hown : Own w B v zs) (hB : B ≤ w.heap.size) (ad : Option Addr) (len cap : Nat) (hx : a.eval x = .slice ad len cap)
    (hrd : Rd w ad len ys) (h0 : 0 < len) (hlen : zs.length + ys.length ≤ 140737488355328)
    (h : ∀ v' w', Own w' B v' (zs ++ ys) → w.grownBy w' v.ownBlock → wpList Try.prog ops Q rest (a.put o.dst v') w') :
    wpList Try.prog ops Q (o :: rest) a w := by
  obtain ⟨i0, hi, hz0, hz1, hz2⟩ := info_parts byteInfo
  obtain ⟨hl, hz, hc⟩ := hrd
  obtain ⟨b, off, rfl, hb, hcell⟩ := hc.resolve_left (by omega)
  refine wpList_append_own _ hgd s x 30 ho B 5 i0 (.int .u8 0) 1 1 Try.underlying30 hi hz0 hz1 hz2 rfl (by decide) v zs.length (cellsOf zs) hs hown ⟨b, off, none⟩ len cap (cellsOf ys) hx (by rw [cellsOf_length, hl, Nat.mul_one]) ?_ (cellsOf_one _) (by unfold maxLen; omega) (by omega) hB ?_
  · intro j u hj
    have hjl : j < ys.length := by
      have := (List.getElem?_eq_some_iff.1 hj).1
      rwa [cellsOf_length] at this
    rw [cellsOf_get ys j hjl] at hj
    cases hj
    rw [Addr.add_mid]
    exact hcell j (by omega)
  · intro v' w' h1 h2 _
    refine h v' w' ?_ h2
    have e : (zs ++ ys).length = zs.length + len := by rw [List.length_append, hl]
    unfold Own
    rw [e, cellsOf_append]
    exact h1
theorem wpList_pushI {w : World} {ops : Array Oper} {rest : List Oper} {o : Oper} {a : Act} {Q : Exit → Act → World → Prop} (hgd : o.guard = none) (s x : Operand)
    (ho : o.op = .call { callee := .builtin .append, args := #[s, x], argTypes := #[62, 62] })
    (B : Nat) (v : Value) (ns : List Nat) (n : Nat) (y : Int) (hy : y = (n : Int)) (hs : a.eval s = v) (hown : OwnI w B v ns) (hB : B ≤ w.heap.size) (hx : a.eval x = .slice (some ⟨w.heap.size, 0, none⟩) 1 1)
    (hlen : ns.length + 1 ≤ 1000000000)
    (h : ∀ v' w', OwnI w' B v' (ns ++ [n]) → (w.alloc (.cells #[.int .i64 y] 3)).grownBy w' v.ownBlock → wpList Try.prog ops Q rest (a.put o.dst v') w') :
    wpList Try.prog ops Q (o :: rest) a (w.alloc (.cells #[.int .i64 y] 3)) := by
  subst hy
  obtain ⟨i0, hi, hz0, hz1, hz2⟩ := info_parts info_int
  have hal : OwnI (w.alloc (.cells #[.int .i64 (n : Int)] 3)) B v ns := World.ownsRow.alloc hown _
  refine wpList_append_own _ hgd s x 62 ho B 3 i0 (.int .i64 0) 1 8 Try.underlying62 hi hz0 hz1 hz2 rfl (by decide) v ns.length (cellsI ns) hs hal ⟨w.heap.size, 0, none⟩ 1 1 (cellsI [n]) hx rfl ?_ ?_ (by unfold maxLen; omega) (by omega) (by simp; omega) ?_
  · intro j u hj
    rw [Addr.add_mid, Nat.zero_add, cell_of_row _ _ _ _ _ _ (heap_new _ _)]
    simpa [cellsI] using hj
  · intro u hu
    simp only [cellsI, List.map_cons, List.map_nil, List.mem_singleton] at hu
    subst hu; rfl
  · intro v' w' h1 h2 _
    refine h v' w' ?_ h2
    have e : (ns ++ [n]).length = ns.length + 1 := by simp
    have e2 : cellsI (ns ++ [n]) = cellsI ns ++ cellsI [n] := by simp [cellsI]
    unfold OwnI
    rw [e, e2]
    exact h1
end Go.Proofs.Ytjpcbmfnjifgfaa
