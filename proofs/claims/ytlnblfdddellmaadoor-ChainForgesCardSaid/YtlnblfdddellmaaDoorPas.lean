/-
  Regions in which several variables are laid and take what calls answer, in any order: one law for all of them.
-/
import Derived.Test.YtlnblfdddellmaaDoorChi
import Derived.Test.YtlnblfdddellmaaDoorRop
namespace Go.Proofs.YtlnblfdddellmaaDoor
open Go.RowKit
set_option linter.unusedVariables false
theorem set_count : ∀ (l : List Bool) (i : Nat), l[i]? = some false → (l.set i true).count false + 1 = l.count false
  | [], i, h => by simp at h
  | b :: l, 0, h => by
    simp at h
    subst h
    simp
  | b :: l, i + 1, h => by
    have := set_count l i (by simpa using h)
    simp only [List.set_cons_succ, List.count_cons]
    omega
/-- what an operation waits for -/
def depsOf (md : Region.Mode) (ops : Array Oper) (i : Nat) : List Nat := match ops[i]? with
  | some o => (o.after.toList.filter (Region.binds md)).map (·.on)
  | none => []
theorem ready_spec {md : Region.Mode} {ops : Array Oper} {listed : Array Bool} {i : Nat} (h : i ∈ Region.ready md ops listed) : i < ops.size ∧ listed.getD i true = false ∧ ∀ j ∈ depsOf md ops i, listed.getD j false = true := by
  unfold Region.ready at h
  rw [List.mem_filter, List.mem_range] at h
  obtain ⟨h1, h2⟩ := h
  rw [Bool.and_eq_true] at h2
  refine ⟨h1, by simpa using h2.1, ?_⟩
  intro j hj
  unfold depsOf at hj
  have h3 := h2.2
  cases ho : ops[i]? with
  | none => rw [ho] at hj; simp at hj
  | some o =>
    rw [ho] at hj h3
    simp only [List.mem_map, List.mem_filter] at hj
    obtain ⟨e, ⟨he, hb⟩, rfl⟩ := hj
    simp only [Option.map_some, Option.getD_some] at h3
    rw [← Array.all_toList] at h3
    have := (List.all_eq_true.1 h3) e he
    rw [hb] at this
    simpa using this
theorem ready_intro {md : Region.Mode} {ops : Array Oper} {listed : Array Bool} {i : Nat} (h1 : i < ops.size) (h2 : listed.getD i true = false) (h3 : ∀ j ∈ depsOf md ops i, listed.getD j false = true) : i ∈ Region.ready md ops listed := by
  unfold Region.ready
  rw [List.mem_filter, List.mem_range]
  refine ⟨h1, ?_⟩
  rw [Bool.and_eq_true]
  refine ⟨by rw [h2]; rfl, ?_⟩
  have ho : ops[i]? = some ops[i] := Array.getElem?_eq_getElem h1
  rw [ho]
  simp only [Option.map_some, Option.getD_some]
  rw [← Array.all_toList, List.all_eq_true]
  intro e he
  cases hb : Region.binds md e with
  | false => rfl
  | true =>
    have := h3 e.on (by
      unfold depsOf
      rw [ho]
      simp only [List.mem_map, List.mem_filter]
      exact ⟨e, ⟨he, hb⟩, rfl⟩)
    simpa using this
theorem all_listed {md : Region.Mode} {ops : Array Oper} {listed : Array Bool} (hd : ((List.range ops.size).all fun i => (depsOf md ops i).all (· < i)) = true) (hs : listed.size = ops.size) (h : Region.ready md ops listed = []) : ∀ i, i < ops.size → listed.getD i true = true := by
  intro i
  induction i using Nat.strongRecOn with
  | ind i ih =>
    intro hi
    cases hb : listed.getD i true with
    | true => rfl
    | false =>
      have : i ∈ Region.ready md ops listed := ready_intro hi hb (by
        intro j hj
        have h1 := (List.all_eq_true.1 hd) i (List.mem_range.2 hi)
        have h2 := (List.all_eq_true.1 h1) j hj
        have hji : j < i := by simpa using h2
        have h3 := ih j hji (by omega)
        have hjs : j < listed.size := by omega
        rw [Array.getD_eq_getD_getElem?, Array.getElem?_eq_getElem hjs] at h3 ⊢
        simpa using h3)
      rw [h] at this
      simp at this
section
variable {P : Program} {ops : Array Oper} {Q : Exit → Act → World → Prop} {md : Region.Mode} {S : World → Prop}
theorem wpAnyH_inv {I : Array Bool → Act → World → Prop} (step : ∀ listed a w, I listed a w → ∀ i ∈ Region.ready md ops listed, wpOp P ops Q i (fun a' w' => S w' ∧ I (listed.setIfInBounds i true) a' w') a w)
    (fin : ∀ listed a w, I listed a w → Region.ready md ops listed = [] → Q .normal a w) :
    ∀ (fuel : Nat) (listed : Array Bool) (a : Act) (w : World), listed.toList.count false ≤ fuel → I listed a w → wpAnyH P md ops Q S fuel listed a w
  | 0, listed, a, w, hc, hI => by
    have h0 : Region.ready md ops listed = [] := by
      apply List.eq_nil_iff_forall_not_mem.2
      intro i hi
      have h := (ready_spec hi).2.1
      rw [Array.getD_eq_getD_getElem?] at h
      cases hb : listed[i]? with
      | none => rw [hb] at h; simp at h
      | some b =>
        rw [hb] at h
        simp at h
        subst h
        rw [← Array.getElem?_toList] at hb
        have := set_count _ _ hb
        omega
    exact ⟨h0, fin _ _ _ hI h0⟩
  | fuel + 1, listed, a, w, hc, hI => by
    refine ⟨fun h => fin _ _ _ hI h, fun i hi => ?_⟩
    refine wpOp_mono (fun a' w' h => ⟨h.1, wpAnyH_inv step fin fuel _ _ _ ?_ h.2⟩) (step _ _ _ hI i hi)
    have h := (ready_spec hi).2.1
    rw [Array.getD_eq_getD_getElem?] at h
    cases hb : listed[i]? with
    | none => rw [hb] at h; simp at h
    | some b =>
      rw [hb] at h
      simp at h
      subst h
      rw [← Array.getElem?_toList] at hb
      have := set_count _ _ hb
      rw [Array.toList_setIfInBounds]
      omega
end
/-- variables that are laid, each with the value that it takes: the alloc's and the store's place, the variable's and the value's slot, its type, its zero and its value; and, where that is what a call answers, the call -/
structure Par where
  n : Nat
  al : Nat → Nat
  st : Nat → Nat
  d : Nat → Nat
  v : Nat → Nat
  ty : Nat → TypeId
  Z : Nat → List Nat
  E : Nat → List Nat
  hc : Nat → Bool
  cl : Nat → Nat
  f : Nat → FuncId
  xs : Nat → Array Operand
  ts : Nat → Array TypeId
  vs : Nat → Array Value
namespace Par
def ptr (g : Nat) : Value := .pointer (some ⟨g, 0, none⟩)
def row (p : Par) (k : Nat) : Value := .agg (cellsOf (p.E k)).toArray
def inD (p : Par) (j : Nat) : Bool := (List.range p.n).any fun k => j == p.d k || (p.hc k && j == p.v k)
def fin (p : Par) (g : Nat → Nat) (a : Act) : Nat → Act
  | 0 => a
  | k + 1 => if p.hc k then ((p.fin g a k).put (some (p.v k)) (p.row k)).put (some (p.d k)) (ptr (g k)) else (p.fin g a k).put (some (p.d k)) (ptr (g k))
/-- the places of the region's operations, and the slots, are apart -/
def apart (p : Par) (size : Nat) : Bool := (List.range p.n).all fun j => (List.range p.n).all fun k =>
  (j == k || (p.al j != p.al k && p.st j != p.st k && p.d j != p.d k && (!(p.hc j && p.hc k) || (p.cl j != p.cl k && p.v j != p.v k)))) &&
  p.al j != p.st k && p.d j != p.v k && (!p.hc k || (p.cl k != p.al j && p.cl k != p.st j)) && p.d j < size && p.v j < size
def waits (p : Par) (md : Region.Mode) (ops : Array Oper) (listed : Array Bool) : Bool := (List.range ops.size).all fun i =>
  listed.getD i true || (List.range p.n).any fun k => i == p.al k || (p.hc k && i == p.cl k) || (i == p.st k && (depsOf md ops i).contains (p.al k) && (!p.hc k || (depsOf md ops i).contains (p.cl k)))
end Par
structure ParSt (p : Par) (S : World → Prop) (B0 : Nat) (l0 : Array Bool) (a0 : Act) (listed : Array Bool) (a : Act) (w : World) : Prop where
  held : S w
  size : listed.size = l0.size
  more : ∀ i, l0.getD i true = true → listed.getD i true = true
  defers : a.defers = a0.defers
  slots : a.tmps.size = a0.tmps.size
  rest : ∀ j, p.inD j = false → a.tmps[j]? = a0.tmps[j]?
  vals : ∀ k, k < p.n → p.hc k = true → listed.getD (p.cl k) true = true → a.tmps[p.v k]? = some (p.row k)
  stal : ∀ k, k < p.n → listed.getD (p.st k) true = true → listed.getD (p.al k) true = true
  laid : ∃ g : Nat → Nat, (∀ k, k < p.n → listed.getD (p.al k) true = true → B0 ≤ g k ∧ a.tmps[p.d k]? = some (Par.ptr (g k)) ∧ Brow w (g k) (p.ty k) (if listed.getD (p.st k) true = true then p.E k else p.Z k)) ∧
    ∀ j k, j < p.n → k < p.n → j ≠ k → listed.getD (p.al j) true = true → listed.getD (p.al k) true = true → g j ≠ g k
theorem getD_set (l : Array Bool) (i j : Nat) : (l.setIfInBounds i true).getD j true = if i = j then true else l.getD j true := by
  rw [Array.getD_eq_getD_getElem?, Array.getD_eq_getD_getElem?, Array.getElem?_setIfInBounds]
  by_cases h : i = j
  · rw [if_pos h, if_pos h]
    split <;> rfl
  · rw [if_neg h, if_neg h]
theorem getD_keep {l : Array Bool} {i j : Nat} (h : l.getD j true = true) : (l.setIfInBounds i true).getD j true = true := by
  rw [getD_set]
  split
  · rfl
  · exact h
theorem put_slot (a : Act) (d j : Nat) (v : Value) (h : d < a.tmps.size) : (a.put (some d) v).tmps[j]? = if d = j then some v else a.tmps[j]? := by
  simp only [Act.put]
  rw [Array.getElem?_setIfInBounds]
  by_cases e : d = j
  · subst e
    simp [h]
  · simp [e]
theorem put_size (a : Act) (d : Option Nat) (v : Value) : (a.put d v).tmps.size = a.tmps.size := by
  cases d <;> simp [Act.put]
theorem put_defers (a : Act) (d : Option Nat) (v : Value) : (a.put d v).defers = a.defers := by
  cases d <;> simp [Act.put]
theorem eval_slot {a a0 : Act} {j : Nat} (h : a.tmps[j]? = a0.tmps[j]?) : a.eval (.tmp j) = a0.eval (.tmp j) := by
  simp only [Act.eval]
  rw [Array.getD_eq_getD_getElem?, Array.getD_eq_getD_getElem?, h]
namespace Par
structure Apart (p : Par) (size : Nat) : Prop where
  al : ∀ j k, j < p.n → k < p.n → j ≠ k → p.al j ≠ p.al k
  st : ∀ j k, j < p.n → k < p.n → j ≠ k → p.st j ≠ p.st k
  d : ∀ j k, j < p.n → k < p.n → j ≠ k → p.d j ≠ p.d k
  cl : ∀ j k, j < p.n → k < p.n → j ≠ k → p.hc j = true → p.hc k = true → p.cl j ≠ p.cl k ∧ p.v j ≠ p.v k
  alst : ∀ j k, j < p.n → k < p.n → p.al j ≠ p.st k
  dv : ∀ j k, j < p.n → k < p.n → p.d j ≠ p.v k
  clal : ∀ j k, j < p.n → k < p.n → p.hc k = true → p.cl k ≠ p.al j ∧ p.cl k ≠ p.st j
  dsz : ∀ j, j < p.n → p.d j < size
  vsz : ∀ j, j < p.n → p.v j < size
theorem apart_spec {p : Par} {size : Nat} (h : p.apart size = true) : p.Apart size := by
  have H : ∀ j k, j < p.n → k < p.n → ((j == k || (p.al j != p.al k && p.st j != p.st k && p.d j != p.d k && (!(p.hc j && p.hc k) || (p.cl j != p.cl k && p.v j != p.v k)))) &&
      p.al j != p.st k && p.d j != p.v k && (!p.hc k || (p.cl k != p.al j && p.cl k != p.st j)) && p.d j < size && p.v j < size) = true := fun j k hj hk =>
    (List.all_eq_true.1 ((List.all_eq_true.1 h) j (List.mem_range.2 hj))) k (List.mem_range.2 hk)
  simp only [Bool.and_eq_true, Bool.or_eq_true, beq_iff_eq, bne_iff_ne, ne_eq, Bool.not_eq_true', decide_eq_true_eq, Bool.and_eq_false_iff] at H
  constructor
  · intro j k hj hk hjk
    obtain ⟨⟨⟨⟨⟨h1, _⟩, _⟩, _⟩, _⟩, _⟩ := H j k hj hk
    rcases h1 with h1 | h1
    · exact absurd h1 hjk
    · exact h1.1.1.1
  · intro j k hj hk hjk
    obtain ⟨⟨⟨⟨⟨h1, _⟩, _⟩, _⟩, _⟩, _⟩ := H j k hj hk
    rcases h1 with h1 | h1
    · exact absurd h1 hjk
    · exact h1.1.1.2
  · intro j k hj hk hjk
    obtain ⟨⟨⟨⟨⟨h1, _⟩, _⟩, _⟩, _⟩, _⟩ := H j k hj hk
    rcases h1 with h1 | h1
    · exact absurd h1 hjk
    · exact h1.1.2
  · intro j k hj hk hjk c1 c2
    obtain ⟨⟨⟨⟨⟨h1, _⟩, _⟩, _⟩, _⟩, _⟩ := H j k hj hk
    rcases h1 with h1 | h1
    · exact absurd h1 hjk
    · rcases h1.2 with h2 | h2
      · rcases h2 with h2 | h2
        · rw [c1] at h2; cases h2
        · rw [c2] at h2; cases h2
      · exact h2
  · intro j k hj hk
    exact (H j k hj hk).1.1.1.1.2
  · intro j k hj hk
    exact (H j k hj hk).1.1.1.2
  · intro j k hj hk c
    rcases (H j k hj hk).1.1.2 with h1 | h1
    · rw [c] at h1; cases h1
    · exact h1
  · intro j hj
    exact (H j j hj hj).1.2
  · intro j hj
    exact (H j j hj hj).2
theorem not_in {p : Par} {j : Nat} (h : p.inD j = false) : ∀ k, k < p.n → j ≠ p.d k ∧ (p.hc k = true → j ≠ p.v k) := by
  intro k hk
  have := (List.any_eq_false.1 h) k (List.mem_range.2 hk)
  simp only [Bool.or_eq_true, beq_iff_eq, Bool.and_eq_true, not_or, not_and] at this
  exact this
theorem fin_size (p : Par) (g : Nat → Nat) (a : Act) : ∀ k, (p.fin g a k).tmps.size = a.tmps.size
  | 0 => rfl
  | k + 1 => by
    rw [fin]
    split
    · rw [put_size, put_size, fin_size p g a k]
    · rw [put_size, fin_size p g a k]
theorem fin_defers (p : Par) (g : Nat → Nat) (a : Act) : ∀ k, (p.fin g a k).defers = a.defers
  | 0 => rfl
  | k + 1 => by
    rw [fin]
    split
    · rw [put_defers, put_defers, fin_defers p g a k]
    · rw [put_defers, fin_defers p g a k]
theorem fin_two (p : Par) (g : Nat → Nat) (a : Act) (v0 d0 v1 d1 : Nat) (r0 r1 : Value) (hn : p.n = 2) (h0 : p.hc 0 = true) (h1 : p.hc 1 = true) (a0 : p.v 0 = v0) (b0 : p.d 0 = d0) (c0 : p.row 0 = r0) (a1 : p.v 1 = v1) (b1 : p.d 1 = d1) (c1 : p.row 1 = r1) :
    p.fin g a p.n = (((a.put (some v0) r0).put (some d0) (.pointer (some ⟨g 0, 0, none⟩))).put (some v1) r1).put (some d1) (.pointer (some ⟨g 1, 0, none⟩)) := by
  subst a0 b0 c0 a1 b1 c1
  rw [hn, show (2 : Nat) = 0 + 1 + 1 from rfl, fin, fin, fin, if_pos h0, if_pos h1]
  rfl
theorem fin_two' (p : Par) (g : Nat → Nat) (a : Act) (d0 d1 : Nat) (hn : p.n = 2) (h0 : p.hc 0 = false) (h1 : p.hc 1 = false) (b0 : p.d 0 = d0) (b1 : p.d 1 = d1) : p.fin g a p.n = (a.put (some d0) (.pointer (some ⟨g 0, 0, none⟩))).put (some d1) (.pointer (some ⟨g 1, 0, none⟩)) := by
  subst b0 b1
  rw [hn, show (2 : Nat) = 0 + 1 + 1 from rfl, fin, fin, fin, h0, h1]
  rfl
theorem fin_three (p : Par) (g : Nat → Nat) (a : Act) (v0 d0 v1 d1 v2 d2 : Nat) (r0 r1 r2 : Value) (hn : p.n = 3) (h0 : p.hc 0 = true) (h1 : p.hc 1 = true) (h2 : p.hc 2 = true) (a0 : p.v 0 = v0) (b0 : p.d 0 = d0) (c0 : p.row 0 = r0) (a1 : p.v 1 = v1) (b1 : p.d 1 = d1) (c1 : p.row 1 = r1) (a2 : p.v 2 = v2) (b2 : p.d 2 = d2) (c2 : p.row 2 = r2) :
    p.fin g a p.n = (((((a.put (some v0) r0).put (some d0) (.pointer (some ⟨g 0, 0, none⟩))).put (some v1) r1).put (some d1) (.pointer (some ⟨g 1, 0, none⟩))).put (some v2) r2).put (some d2) (.pointer (some ⟨g 2, 0, none⟩)) := by
  subst a0 b0 c0 a1 b1 c1 a2 b2 c2
  rw [hn, show (3 : Nat) = 0 + 1 + 1 + 1 from rfl, fin, fin, fin, fin, if_pos h0, if_pos h1, if_pos h2]
  rfl
/-- what came out, in whatever order -/
theorem fin_eq {p : Par} {g : Nat → Nat} {a a0 : Act} (hA : p.Apart a0.tmps.size) (hd : a.defers = a0.defers) (hs : a.tmps.size = a0.tmps.size) (hr : ∀ j, p.inD j = false → a.tmps[j]? = a0.tmps[j]?)
    (hv : ∀ k, k < p.n → p.hc k = true → a.tmps[p.v k]? = some (p.row k)) (hl : ∀ k, k < p.n → a.tmps[p.d k]? = some (ptr (g k))) : a = p.fin g a0 p.n := by
  have T : ∀ k, k ≤ p.n → ∀ j, (p.fin g a0 k).tmps[j]? = if ((List.range k).any fun i => j == p.d i || (p.hc i && j == p.v i)) = true then a.tmps[j]? else a0.tmps[j]? := by
    intro k
    induction k with
    | zero => intro _ j; rfl
    | succ k ih =>
      intro hk j
      have ih := ih (by omega) j
      have hk' : k < p.n := by omega
      rw [List.range_succ, List.any_append]
      simp only [List.any_cons, List.any_nil, Bool.or_false]
      rw [fin]
      cases hc : p.hc k with
      | true =>
        simp only [if_true, Bool.true_and]
        rw [put_slot _ _ _ _ (by rw [put_size, fin_size]; exact hA.dsz k hk'), put_slot _ _ _ _ (by rw [fin_size]; exact hA.vsz k hk')]
        by_cases e1 : p.d k = j
        · rw [if_pos e1, if_pos (by simp [e1]), ← e1, hl k hk']
        · rw [if_neg e1]
          by_cases e2 : p.v k = j
          · rw [if_pos e2, if_pos (by simp [e2]), ← e2, hv k hk' hc]
          · rw [if_neg e2, ih]
            have b1 : (j == p.d k) = false := by simpa using fun h : j = p.d k => e1 h.symm
            have b2 : (j == p.v k) = false := by simpa using fun h : j = p.v k => e2 h.symm
            rw [b1, b2]
            simp only [Bool.or_false]
      | false =>
        simp only [Bool.false_and, Bool.or_false, Bool.false_eq_true, if_false]
        rw [put_slot _ _ _ _ (by rw [fin_size]; exact hA.dsz k hk')]
        by_cases e1 : p.d k = j
        · rw [if_pos e1, if_pos (by simp [e1]), ← e1, hl k hk']
        · rw [if_neg e1, ih]
          have b1 : (j == p.d k) = false := by simpa using fun h : j = p.d k => e1 h.symm
          rw [b1]
          simp only [Bool.or_false]
  have ht : a.tmps = (p.fin g a0 p.n).tmps := by
    apply Array.ext_getElem?
    intro j
    rw [T p.n (Nat.le_refl _) j]
    split
    · rfl
    · rename_i h
      exact hr j (by unfold inD; simpa using h)
  cases a with
  | mk t ds =>
    have hdd := p.fin_defers g a0 p.n
    cases hf : p.fin g a0 p.n with
    | mk t' ds' =>
      rw [hf] at ht hdd
      simp only at ht hdd hd
      subst ht
      rw [hd, hdd]
end Par
section
variable {P : Program} {ops : Array Oper} {Q : Exit → Act → World → Prop} {md : Region.Mode} {S : World → Prop}
/-- whatever the order: behind the region each variable lies in a block of its own and has its value -/
theorem anyH_par (p : Par) (B0 : Nat) {fuel : Nat} {listed : Array Bool} {a : Act} {w : World} (hsz : listed.size = ops.size)
    (hw : p.waits md ops listed = true) (hd : ((List.range ops.size).all fun i => (depsOf md ops i).all (· < i)) = true) (hap : p.apart a.tmps.size = true) (hfu : listed.toList.count false ≤ fuel)
    (hnew : ((List.range p.n).all fun k => !listed.getD (p.al k) true && !listed.getD (p.st k) true && (!p.hc k || !listed.getD (p.cl k) true) && decide (p.al k < ops.size) && decide (p.st k < ops.size) && decide (p.cl k < ops.size)) = true)
    (hargs : ((List.range p.n).all fun k => !p.hc k || (p.xs k).toList.all fun x => match x with | .tmp j => !p.inD j | _ => true) = true)
    (hal : ∀ k, k < p.n → (ops[p.al k]?.map fun o => (o.dst, o.op, o.guard)) = some (some (p.d k), Op.alloc (p.ty k), none) ∧ ∀ (a : Act) (o : Oper), o.op = Op.alloc (p.ty k) → ∀ W, (execOp a.eval o).run P W = .ok (.value (Par.ptr W.heap.size)) (W.alloc (.cells (cellsOf (p.Z k)).toArray (p.ty k))))
    (hst : ∀ k, k < p.n → (ops[p.st k]?.map fun o => (o.dst, o.op, o.guard)) = some (none, Op.store (p.ty k) (.tmp (p.d k)) (.tmp (p.v k)), none) ∧ (P.info? (p.ty k)).map (·.size) = some (cellsOf (p.E k)).toArray.size ∧ (p.E k).length = (p.Z k).length)
    (hva : ∀ k, k < p.n → p.hc k = false → a.tmps[p.v k]? = some (p.row k) ∧ p.inD (p.v k) = false)
    (hcl : ∀ k, k < p.n → p.hc k = true → (ops[p.cl k]?.map fun o => (o.dst, o.op, o.guard)) = some (some (p.v k), Op.call { callee := .value (.func (p.f k)), args := p.xs k, argTypes := p.ts k }, none) ∧ (p.xs k).map a.eval = p.vs k ∧
      (∀ W, (callFunc (p.f k) (p.vs k)).run P W = .ok (.enter (p.f k) (p.vs k)) W) ∧ ∀ W, S W → Calls P (p.f k) (p.vs k) W (fun e W' => e = .returned (p.row k) ∧ Below W.heap.size W W'))
    (hSb : ∀ W W', S W → Below W.heap.size W W' → S W') (hSo : ∀ g W W', S W → B0 ≤ g → Only g W W' → S W') (hSB : ∀ W, S W → B0 ≤ W.heap.size) (hS : S w)
    (h : ∀ (g : Nat → Nat) W, S W → (∀ k, k < p.n → B0 ≤ g k ∧ Brow W (g k) (p.ty k) (p.E k)) → (∀ j k, j < p.n → k < p.n → j ≠ k → g j ≠ g k) → Q .normal (p.fin g a p.n) W) :
    wpAnyH P md ops Q S fuel listed a w := by
  have hA := Par.apart_spec hap
  have hN : ∀ k, k < p.n → listed.getD (p.al k) true = false ∧ listed.getD (p.st k) true = false ∧ (p.hc k = true → listed.getD (p.cl k) true = false) ∧ p.al k < ops.size ∧ p.st k < ops.size ∧ p.cl k < ops.size := by
    intro k hk
    have := (List.all_eq_true.1 hnew) k (List.mem_range.2 hk)
    simp only [Bool.and_eq_true, Bool.or_eq_true, Bool.not_eq_true', decide_eq_true_eq] at this
    obtain ⟨⟨⟨⟨⟨h1, h2⟩, h3⟩, h4⟩, h5⟩, h6⟩ := this
    refine ⟨h1, h2, fun c => ?_, h4, h5, h6⟩
    rcases h3 with h3 | h3
    · rw [c] at h3; cases h3
    · exact h3
  refine wpAnyH_inv (I := ParSt p S B0 listed a) ?_ ?_ fuel listed a w hfu ?_
  · intro l1 a1 w1 hI i hi
    obtain ⟨hi1, hi2, hi3⟩ := ready_spec hi
    have hwi := (List.all_eq_true.1 hw) i (List.mem_range.2 hi1)
    have hl0 : listed.getD i true = false := by
      cases hb : listed.getD i true with
      | false => rfl
      | true => rw [hI.more i hb] at hi2; cases hi2
    rw [hl0, Bool.false_or] at hwi
    obtain ⟨k, hk, hwk⟩ := List.any_eq_true.1 hwi
    have hk := List.mem_range.1 hk
    simp only [Bool.or_eq_true, Bool.and_eq_true, beq_iff_eq] at hwk
    have hB := hSB w1 hI.held
    obtain ⟨g, hg1, hg2⟩ := hI.laid
    rcases hwk with (hia | ⟨hck, hic⟩) | ⟨⟨his, hda⟩, hdc⟩
    · subst hia
      obtain ⟨e1, e2⟩ := hal k hk
      refine op_at (p.al k) e1 ?_
      intro o hod hoo
      unfold Oper.wp
      rw [e2 a1 o hoo w1]
      have hb : Below w1.heap.size w1 (w1.alloc (.cells (cellsOf (p.Z k)).toArray (p.ty k))) := (Below.refl _ _).alloc (Nat.le_refl _) _
      have hS1 := hSb w1 _ hI.held hb
      refine ⟨hS1, ⟨hS1, by rw [Array.size_setIfInBounds]; exact hI.size, fun j hj => getD_keep (hI.more j hj), by rw [put_defers]; exact hI.defers, by rw [put_size]; exact hI.slots, ?_, ?_, ?_, ?_⟩⟩
      · intro j hj
        rw [hod, put_slot _ _ _ _ (by rw [hI.slots]; exact hA.dsz k hk), if_neg (fun e => (Par.not_in hj k hk).1 e.symm)]
        exact hI.rest j hj
      · intro k' hk' hc hl
        rw [getD_set, if_neg (fun e => (hA.clal k k' hk hk' hc).1 e.symm)] at hl
        rw [hod, put_slot _ _ _ _ (by rw [hI.slots]; exact hA.dsz k hk), if_neg (hA.dv k k' hk hk')]
        exact hI.vals k' hk' hc hl
      · intro k' hk' hl
        rw [getD_set, if_neg (hA.alst k k' hk hk')] at hl
        exact getD_keep (hI.stal k' hk' hl)
      · refine ⟨fun j => if j = k then w1.heap.size else g j, ?_, ?_⟩
        · intro k' hk' hl
          rw [hod, put_slot _ _ _ _ (by rw [hI.slots]; exact hA.dsz k hk)]
          by_cases e : k' = k
          · subst e
            have hst0 : l1.getD (p.st k') true = false := by
              cases hb : l1.getD (p.st k') true with
              | false => rfl
              | true =>
                have := hI.stal k' hk' hb
                rw [hi2] at this
                cases this
            simp only [if_true]
            refine ⟨hB, trivial, ?_⟩
            rw [getD_set, if_neg (hA.alst k' k' hk' hk'), hst0]
            exact Brow.new w1 (p.ty k') (p.Z k')
          · have ne : p.al k ≠ p.al k' := hA.al k k' hk hk' (fun h => e h.symm)
            rw [getD_set, if_neg ne] at hl
            obtain ⟨q1, q2, q3⟩ := hg1 k' hk' hl
            simp only [if_neg e]
            rw [if_neg (hA.d k k' hk hk' (fun h => e h.symm)), getD_set, if_neg (hA.alst k k' hk hk')]
            exact ⟨q1, q2, q3.below hb q3.lt⟩
        · intro j k' hj hk' hne l1' l2'
          simp only
          by_cases e1 : j = k
          · subst e1
            have e2 : k' ≠ j := fun h => hne h.symm
            rw [if_pos rfl, if_neg e2]
            rw [getD_set, if_neg (hA.al j k' hj hk' hne)] at l2'
            have := (hg1 k' hk' l2').2.2.lt
            omega
          · rw [if_neg e1]
            rw [getD_set, if_neg (hA.al k j hk hj (fun h => e1 h.symm))] at l1'
            by_cases e2 : k' = k
            · subst e2
              rw [if_pos rfl]
              have := (hg1 j hj l1').2.2.lt
              omega
            · rw [if_neg e2]
              rw [getD_set, if_neg (hA.al k k' hk hk' (fun h => e2 h.symm))] at l2'
              exact hg2 j k' hj hk' hne l1' l2'
    · subst hic
      obtain ⟨e1, e2, e3, e4⟩ := hcl k hk hck
      have hargk : (p.xs k).map a1.eval = p.vs k := by
        rw [← e2]
        apply Array.map_congr_left
        intro x hx
        have h1 := (List.all_eq_true.1 hargs) k (List.mem_range.2 hk)
        rw [hck, Bool.not_true, Bool.false_or] at h1
        have h2 := (List.all_eq_true.1 h1) x (by simpa using hx)
        cases x with
        | tmp j => exact eval_slot (hI.rest j (by simpa using h2))
        | const v => rfl
        | global v => rfl
        | func v => rfl
      refine op_at (p.cl k) e1 ?_
      intro o hod hoo
      refine wp_call_fn hoo hargk (e3 w1) (e4 w1 hI.held) ?_
      rintro e w' ⟨rfl, hb⟩
      have hS1 := hSb w1 _ hI.held hb
      refine ⟨p.row k, rfl, hS1, ⟨hS1, by rw [Array.size_setIfInBounds]; exact hI.size, fun j hj => getD_keep (hI.more j hj), by rw [put_defers]; exact hI.defers, by rw [put_size]; exact hI.slots, ?_, ?_, ?_, ?_⟩⟩
      · intro j hj
        rw [hod, put_slot _ _ _ _ (by rw [hI.slots]; exact hA.vsz k hk), if_neg (fun e => (Par.not_in hj k hk).2 hck e.symm)]
        exact hI.rest j hj
      · intro k' hk' hc hl
        rw [hod, put_slot _ _ _ _ (by rw [hI.slots]; exact hA.vsz k hk)]
        by_cases e : k' = k
        · subst e
          rw [if_pos rfl]
        · have ne := hA.cl k k' hk hk' (fun h => e h.symm) hck hc
          rw [if_neg ne.2]
          rw [getD_set, if_neg ne.1] at hl
          exact hI.vals k' hk' hc hl
      · intro k' hk' hl
        rw [getD_set, if_neg (hA.clal k' k hk' hk hck).2] at hl
        exact getD_keep (hI.stal k' hk' hl)
      · refine ⟨g, ?_, ?_⟩
        · intro k' hk' hl
          rw [getD_set, if_neg (hA.clal k' k hk' hk hck).1] at hl
          obtain ⟨q1, q2, q3⟩ := hg1 k' hk' hl
          rw [hod, put_slot _ _ _ _ (by rw [hI.slots]; exact hA.vsz k hk), if_neg (fun e => hA.dv k' k hk' hk e.symm), getD_set, if_neg (hA.clal k' k hk' hk hck).2]
          exact ⟨q1, q2, q3.below hb q3.lt⟩
        · intro j k' hj hk' hne l1' l2'
          rw [getD_set, if_neg (hA.clal j k hj hk hck).1] at l1'
          rw [getD_set, if_neg (hA.clal k' k hk' hk hck).1] at l2'
          exact hg2 j k' hj hk' hne l1' l2'
    · subst his
      obtain ⟨e1, e2, e3⟩ := hst k hk
      have halk : l1.getD (p.al k) true = true := by
        have h1 := hi3 (p.al k) (by simpa using hda)
        rw [Array.getD_eq_getD_getElem?] at h1 ⊢
        cases hb : l1[p.al k]? with
        | none => rfl
        | some b => rw [hb] at h1; exact h1
      obtain ⟨q1, q2, q3⟩ := hg1 k hk halk
      rw [hi2] at q3
      simp only [Bool.false_eq_true, if_false] at q3
      have hval : a1.tmps[p.v k]? = some (p.row k) := by
        cases hck : p.hc k with
        | false =>
          obtain ⟨r1, r2⟩ := hva k hk hck
          rw [hI.rest _ r2, r1]
        | true =>
          rw [hck] at hdc
          have h1 := hi3 (p.cl k) (by simpa using hdc)
          refine hI.vals k hk hck ?_
          rw [Array.getD_eq_getD_getElem?] at h1 ⊢
          cases hb : l1[p.cl k]? with
          | none => rfl
          | some b => rw [hb] at h1; exact h1
      refine op_at (p.st k) e1 ?_
      intro o hod hoo
      refine wp_store_mid (p.ty k) (.tmp (p.d k)) (.tmp (p.v k)) hoo (g k) 0 (cellsOf (p.E k)).toArray (by simp only [Act.eval]; rw [Array.getD_eq_getD_getElem?, q2]; rfl) (by simp only [Act.eval]; rw [Array.getD_eq_getD_getElem?, hval]; rfl)
        (q3.there _ (by rw [cellsOf_size, e3])) e2 (cellsOf_all _) ?_
      have ho : Only (g k) w1 (w1.setCells (g k) 0 (cellsOf (p.E k)).toArray.toList) := Only.setCells _ 0 (Only.refl _ _)
      have hS1 := hSo (g k) w1 _ hI.held q1 ho
      rw [hod]
      refine ⟨hS1, ⟨hS1, by rw [Array.size_setIfInBounds]; exact hI.size, fun j hj => getD_keep (hI.more j hj), hI.defers, hI.slots, hI.rest, ?_, ?_, ?_⟩⟩
      · intro k' hk' hc hl
        rw [getD_set, if_neg (fun e => (hA.clal k k' hk hk' hc).2 e.symm)] at hl
        exact hI.vals k' hk' hc hl
      · intro k' hk' hl
        rw [getD_set] at hl
        by_cases e : k' = k
        · subst e
          exact getD_keep halk
        · rw [if_neg (hA.st k k' hk hk' (fun h => e h.symm))] at hl
          exact getD_keep (hI.stal k' hk' hl)
      · refine ⟨g, ?_, ?_⟩
        · intro k' hk' hl
          rw [getD_set, if_neg (fun e => hA.alst k' k hk' hk e.symm)] at hl
          by_cases e : k' = k
          · subst e
            rw [getD_set, if_pos rfl]
            refine ⟨q1, q2, ?_⟩
            simp only [if_true]
            exact q3.setAll e3
          · obtain ⟨r1, r2, r3⟩ := hg1 k' hk' hl
            rw [getD_set, if_neg (hA.st k k' hk hk' (fun h => e h.symm))]
            exact ⟨r1, r2, r3.only ho (hg2 k' k hk' hk e hl halk)⟩
        · intro j k' hj hk' hne l1' l2'
          rw [getD_set, if_neg (fun e => hA.alst j k hj hk e.symm)] at l1'
          rw [getD_set, if_neg (fun e => hA.alst k' k hk' hk e.symm)] at l2'
          exact hg2 j k' hj hk' hne l1' l2'
  · intro l1 a1 w1 hI h0
    have hall := all_listed (listed := l1) hd (by rw [hI.size, hsz]) h0
    obtain ⟨g, hg1, hg2⟩ := hI.laid
    have e : a1 = p.fin g a p.n := Par.fin_eq hA hI.defers hI.slots hI.rest (fun k hk hc => hI.vals k hk hc (hall _ (hN k hk).2.2.2.2.2)) (fun k hk => (hg1 k hk (hall _ (hN k hk).2.2.2.1)).2.1)
    rw [e]
    refine h g w1 hI.held ?_ ?_
    · intro k hk
      obtain ⟨r1, _, r3⟩ := hg1 k hk (hall _ (hN k hk).2.2.2.1)
      rw [hall _ (hN k hk).2.2.2.2.1] at r3
      exact ⟨r1, r3⟩
    · intro j k hj hk hne
      exact hg2 j k hj hk hne (hall _ (hN j hj).2.2.2.1) (hall _ (hN k hk).2.2.2.1)
  · refine ⟨hS, rfl, fun i h => h, rfl, rfl, fun j _ => rfl, ?_, ?_, ⟨fun _ => 0, ?_, ?_⟩⟩
    · intro k hk hc hl
      rw [(hN k hk).2.2.1 hc] at hl
      cases hl
    · intro k hk hl
      rw [(hN k hk).2.1] at hl
      cases hl
    · intro k hk hl
      rw [(hN k hk).1] at hl
      cases hl
    · intro j k hj hk hne hl
      rw [(hN j hj).1] at hl
      cases hl
end
end Go.Proofs.YtlnblfdddellmaaDoor
