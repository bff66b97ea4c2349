/-
  A run of a closed call, told by a program: values, memory, what a block holds; loads, stores, slices, append.
-/
import Derived.Orders
import Derived.Laws.Cells
import Derived.Laws.CopyRow
import Derived.Laws.World
import Derived.Below
import Derived.Laws.Tables
import Derived.Laws.Rows
import Derived.Laws.Append
import Derived.Lib.AppendZerosOnto
namespace Go.Proofs.Ytmomdfmilelilaa.Ev
set_option linter.unusedVariables false
section
/-- a tree of places -/
inductive Tr (α : Type) where
  | leaf
  | node (v : Option α) (l r : Tr α)
def Tr.get {α : Type} : Tr α → Nat → Option α
  | .leaf, _ => none
  | .node v l r, n => if n = 0 then v else if n % 2 = 1 then l.get (n / 2) else r.get (n / 2 - 1)
def Tr.put {α : Type} (x : Option α) : Nat → Tr α → Nat → Tr α
  | 0, t, _ => t
  | f + 1, .leaf, n => if n = 0 then .node x .leaf .leaf else if n % 2 = 1 then .node none (Tr.put x f .leaf (n / 2)) .leaf else .node none .leaf (Tr.put x f .leaf (n / 2 - 1))
  | f + 1, .node v l r, n => if n = 0 then .node x l r else if n % 2 = 1 then .node v (Tr.put x f l (n / 2)) r else .node v l (Tr.put x f r (n / 2 - 1))
def Tr.set {α : Type} (t : Tr α) (n : Nat) (x : Option α) : Tr α := Tr.put x (n + 1) t n
theorem Tr.get_put {α : Type} (x : Option α) : ∀ (f : Nat) (t : Tr α) (n m : Nat), n < f → (Tr.put x f t n).get m = if m = n then x else t.get m := by
  intro f
  induction f with
  | zero => intro t n m h; omega
  | succ f ih =>
    intro t n m h
    have aux : ∀ (v : Option α) (l r : Tr α), (Tr.put x (f + 1) (.node v l r) n).get m = if m = n then x else (Tr.node v l r).get m := by
      intro v l r
      unfold Tr.put
      split
      · rename_i hn; subst hn
        unfold Tr.get
        split <;> rfl
      · rename_i hn
        split
        · rename_i ho
          show (if m = 0 then v else if m % 2 = 1 then (Tr.put x f l (n / 2)).get (m / 2) else r.get (m / 2 - 1)) = if m = n then x else (if m = 0 then v else if m % 2 = 1 then l.get (m / 2) else r.get (m / 2 - 1))
          by_cases h0 : m = 0
          · rw [if_pos h0, if_neg (by omega), if_pos h0]
          · rw [if_neg h0, if_neg h0]
            by_cases h1 : m % 2 = 1
            · rw [if_pos h1, if_pos h1, ih _ _ _ (by omega)]
              by_cases h2 : m = n
              · rw [if_pos h2, if_pos (by omega)]
              · rw [if_neg h2, if_neg (by omega)]
            · rw [if_neg h1, if_neg h1, if_neg (by omega)]
        · rename_i ho
          show (if m = 0 then v else if m % 2 = 1 then l.get (m / 2) else (Tr.put x f r (n / 2 - 1)).get (m / 2 - 1)) = if m = n then x else (if m = 0 then v else if m % 2 = 1 then l.get (m / 2) else r.get (m / 2 - 1))
          by_cases h0 : m = 0
          · rw [if_pos h0, if_neg (by omega), if_pos h0]
          · rw [if_neg h0, if_neg h0]
            by_cases h1 : m % 2 = 1
            · rw [if_pos h1, if_pos h1, if_neg (by omega)]
            · rw [if_neg h1, if_neg h1, ih _ _ _ (by omega)]
              by_cases h2 : m = n
              · rw [if_pos h2, if_pos (by omega)]
              · rw [if_neg h2, if_neg (by omega)]
    cases t with
    | node v l r => exact aux v l r
    | leaf =>
      have h1 : (Tr.put x (f + 1) (.leaf : Tr α) n) = Tr.put x (f + 1) (.node none .leaf .leaf) n := rfl
      rw [h1, aux]
      have h2 : (Tr.node none .leaf .leaf : Tr α).get m = (Tr.leaf : Tr α).get m := by
        simp [Tr.get]
      rw [h2]
theorem Tr.get_set {α : Type} (t : Tr α) (n : Nat) (x : Option α) (m : Nat) : (t.set n x).get m = if m = n then x else t.get m := Tr.get_put x _ _ _ _ (Nat.lt_succ_self n)

/-- values as the run sees them: known ones, and places by the run's own numbers -/
inductive AV where
  | any
  | lit (v : Value)
  | ptr (b off : Nat)
  | sl (b off len s : Nat) (cap : Option Nat)
  | map (b : Nat)
  | fn (f : FuncId) (pre caps : List AV)
  | iface (t : TypeId) (x : AV)
  | agg (l : List AV)
  | tup (l : List AV)
/-- the blocks behind the run's numbers, and how many cells each has -/
abbrev Vl := Nat → Option (Nat × Nat)
mutual
def AV.is (V : Vl) : AV → Value → Prop
  | .any, _ => True
  | .lit v, u => u = v
  | .ptr b off, u => ∃ p, V b = some p ∧ u = .pointer (some ⟨p.1, off, none⟩)
  | .sl b off len s cap, u => ∃ p o' c, V b = some p ∧ u = .slice (some ⟨p.1, o', none⟩) len c ∧ (∀ k, cap = some k → c = k) ∧ len ≤ c ∧ off + c * s ≤ p.2 ∧ (o' = off ∨ c = 0)
  | .map b, u => ∃ p, V b = some p ∧ u = .map (some p.1)
  | .fn f pre caps, u => ∃ q l, AV.are V pre q ∧ AV.are V caps l ∧ u = .func (.func f) q.toArray l.toArray
  | .iface t x, u => ∃ v, AV.is V x v ∧ u = .iface t v
  | .agg l, u => ∃ vs, AV.are V l vs ∧ u = .agg vs.toArray
  | .tup l, u => ∃ vs, AV.are V l vs ∧ u = .tuple vs.toArray
def AV.are (V : Vl) : List AV → List Value → Prop
  | [], us => us = []
  | x :: xs, us => ∃ v vs, us = v :: vs ∧ AV.is V x v ∧ AV.are V xs vs
end
/-- all that V tells V' tells, too -/
def Vl.le (V V' : Vl) : Prop := ∀ b p, V b = some p → V' b = some p
theorem Vl.le.refl (V : Vl) : V.le V := fun _ _ h => h
theorem Vl.le.trans {A B C : Vl} (h : A.le B) (k : B.le C) : A.le C := fun b p hb => k b p (h b p hb)
mutual
theorem AV.is.mono {V V' : Vl} (h : V.le V') : ∀ {x : AV} {u : Value}, x.is V u → x.is V' u
  | .any, _, _ => trivial
  | .lit _, _, hx => hx
  | .ptr _ _, _, hx => by obtain ⟨p, h1, h2⟩ := hx; exact ⟨p, h _ _ h1, h2⟩
  | .sl _ _ _ _ _, _, hx => by obtain ⟨p, o', c, h1, h2⟩ := hx; exact ⟨p, o', c, h _ _ h1, h2⟩
  | .map _, _, hx => by obtain ⟨p, h1, h2⟩ := hx; exact ⟨p, h _ _ h1, h2⟩
  | .fn _ pre caps, _, hx => by obtain ⟨q, l, h0, h1, h2⟩ := hx; exact ⟨q, l, AV.are.mono h h0, AV.are.mono h h1, h2⟩
  | .iface _ x, _, hx => by obtain ⟨v, h1, h2⟩ := hx; exact ⟨v, AV.is.mono h h1, h2⟩
  | .agg l, _, hx => by obtain ⟨vs, h1, h2⟩ := hx; exact ⟨vs, AV.are.mono h h1, h2⟩
  | .tup l, _, hx => by obtain ⟨vs, h1, h2⟩ := hx; exact ⟨vs, AV.are.mono h h1, h2⟩
theorem AV.are.mono {V V' : Vl} (h : V.le V') : ∀ {xs : List AV} {us : List Value}, AV.are V xs us → AV.are V' xs us
  | [], _, hx => hx
  | x :: xs, _, hx => by obtain ⟨v, vs, h1, h2, h3⟩ := hx; exact ⟨v, vs, h1, AV.is.mono h h2, AV.are.mono h h3⟩
end
theorem AV.are_cons {V : Vl} {x : AV} {v : Value} {xs : List AV} {vs : List Value} (h : x.is V v) (k : AV.are V xs vs) : AV.are V (x :: xs) (v :: vs) := ⟨v, vs, rfl, h, k⟩
theorem AV.are_length {V : Vl} : ∀ {xs : List AV} {vs : List Value}, AV.are V xs vs → vs.length = xs.length
  | [], _, h => by subst h; rfl
  | _ :: _, _, h => by obtain ⟨v, vs, rfl, _, h3⟩ := h; simp [AV.are_length h3]
theorem AV.are_get {V : Vl} : ∀ {xs : List AV} {vs : List Value}, AV.are V xs vs → ∀ (i : Nat) (x : AV), xs[i]? = some x → ∃ v, vs[i]? = some v ∧ x.is V v
  | [], _, _, i, x, hi => by simp at hi
  | y :: ys, _, h, i, x, hi => by
    obtain ⟨v, vs, rfl, h2, h3⟩ := h
    cases i with
    | zero => simp at hi; subst hi; exact ⟨v, by simp, h2⟩
    | succ i => simp at hi ⊢; exact AV.are_get h3 i x hi
theorem AV.are_append {V : Vl} : ∀ {xs : List AV} {vs : List Value} {ys : List AV} {us : List Value}, AV.are V xs vs → AV.are V ys us → AV.are V (xs ++ ys) (vs ++ us)
  | [], _, _, _, h, k => by subst h; exact k
  | _ :: _, _, _, _, h, k => by obtain ⟨v, vs, rfl, h2, h3⟩ := h; exact ⟨v, _, rfl, h2, AV.are_append h3 k⟩
theorem AV.are_take {V : Vl} : ∀ (n : Nat) {xs : List AV} {vs : List Value}, AV.are V xs vs → AV.are V (xs.take n) (vs.take n)
  | 0, _, _, _ => by simp [AV.are]
  | n + 1, [], _, h => by subst h; simp [AV.are]
  | n + 1, _ :: _, _, h => by obtain ⟨v, vs, rfl, h2, h3⟩ := h; exact ⟨v, _, rfl, h2, AV.are_take n h3⟩
theorem AV.are_drop {V : Vl} : ∀ (n : Nat) {xs : List AV} {vs : List Value}, AV.are V xs vs → AV.are V (xs.drop n) (vs.drop n)
  | 0, _, _, h => h
  | n + 1, [], _, h => by subst h; simp [AV.are]
  | n + 1, _ :: _, _, h => by obtain ⟨v, vs, rfl, h2, h3⟩ := h; exact AV.are_drop n h3
/-- the known value behind a value of the run -/
def litsOf : List AV → Option (List Value)
  | [] => some []
  | .lit v :: l => match litsOf l with | some vs => some (v :: vs) | none => none
  | _ :: _ => none
theorem lits_are {V : Vl} : ∀ {xs : List AV} {vs us : List Value}, litsOf xs = some vs → AV.are V xs us → us = vs
  | [], _, _, h, k => by cases h; exact k
  | x :: xs, vs, us, h, k => by
    obtain ⟨v, us', rfl, h2, h3⟩ := k
    cases x <;> simp only [litsOf] at h <;> try cases h
    rename_i u
    split at h
    · rename_i ws hw
      cases h
      rw [lits_are hw h3, show v = u from h2]
    · cases h
theorem are_lits {V : Vl} : ∀ (vs : List Value), AV.are V (vs.map .lit) vs
  | [] => rfl
  | v :: vs => ⟨v, vs, rfl, rfl, are_lits vs⟩
end
section
/-- what is known of a block: the cells that it begins with (all of them: 'exact'); a map; another thing -/
inductive AB where
  | cells (elem : TypeId) (vs : List AV) (exact : Bool)
  | map (es : List (Value × AV × Nat)) (clock : Nat)
  | obj (o : Obj)
def entryIs (V : Vl) (e : Value × AV × Nat) (x : MapEntry) : Prop := x.key = e.1 ∧ e.2.1.is V x.val ∧ x.born = e.2.2
def entriesAre (V : Vl) : List (Value × AV × Nat) → List MapEntry → Prop
  | [], xs => xs = []
  | e :: es, xs => ∃ y ys, xs = y :: ys ∧ entryIs V e y ∧ entriesAre V es ys
theorem entriesAre.mono {V V' : Vl} (h : V.le V') : ∀ {es : List (Value × AV × Nat)} {xs : List MapEntry}, entriesAre V es xs → entriesAre V' es xs
  | [], _, hx => hx
  | _ :: _, _, hx => by obtain ⟨y, ys, rfl, ⟨h1, h2, h3⟩, h4⟩ := hx; exact ⟨y, ys, rfl, ⟨h1, h2.mono h, h3⟩, entriesAre.mono h h4⟩
theorem thawed {n : Nat} {fr : Nat × Nat} (h : fr.1 = fr.2 ∨ n ≤ fr.1) (i : Nat) (hi : i < n) : ¬ (fr.1 ≤ i ∧ i < fr.2) := by omega
/-- the block behind b is so -/
def Holds (V : Vl) (w : World) (b : Nat) : AB → Prop
  | .cells elem vs exact => ∃ p C fr, V b = some p ∧ w.heap[p.1]? = some (.cells C elem fr) ∧ C.size = p.2 ∧ vs.length ≤ p.2 ∧ AV.are V vs (C.toList.take vs.length) ∧ (exact = true → p.2 = vs.length) ∧ (fr.1 = fr.2 ∨ p.2 ≤ fr.1)
  | .map es clock => ∃ p E, V b = some p ∧ w.heap[p.1]? = some (.map E clock) ∧ entriesAre V es E.toList
  | .obj o => ∃ p, V b = some p ∧ w.heap[p.1]? = some o ∧ ∀ c e f, o ≠ .cells c e f
theorem Holds.mono {V V' : Vl} (h : V.le V') {w : World} {b : Nat} : ∀ {k : AB}, Holds V w b k → Holds V' w b k
  | .cells _ _ _, hx => by obtain ⟨p, C, fr, h1, h2, h3, h4, h5, h6⟩ := hx; exact ⟨p, C, fr, h _ _ h1, h2, h3, h4, AV.are.mono h h5, h6⟩
  | .map _ _, hx => by obtain ⟨p, E, h1, h2, h3⟩ := hx; exact ⟨p, E, h _ _ h1, h2, h3.mono h⟩
  | .obj _, hx => by obtain ⟨p, h1, h2, h3⟩ := hx; exact ⟨p, h _ _ h1, h2, h3⟩
theorem Holds.at {V : Vl} {w : World} {b : Nat} : ∀ {k : AB}, Holds V w b k → ∃ p, V b = some p ∧ p.1 < w.heap.size
  | .cells _ _ _, hx => by obtain ⟨p, C, fr, h1, h2, _⟩ := hx; exact ⟨p, h1, (Array.getElem?_eq_some_iff.1 h2).1⟩
  | .map _ _, hx => by obtain ⟨p, E, h1, h2, _⟩ := hx; exact ⟨p, h1, (Array.getElem?_eq_some_iff.1 h2).1⟩
  | .obj _, hx => by obtain ⟨p, h1, h2, _⟩ := hx; exact ⟨p, h1, (Array.getElem?_eq_some_iff.1 h2).1⟩
theorem Holds.heap {V : Vl} {w w' : World} {b : Nat} (hh : ∀ p, V b = some p → w'.heap[p.1]? = w.heap[p.1]?) : ∀ {k : AB}, Holds V w b k → Holds V w' b k
  | .cells _ _ _, hx => by obtain ⟨p, C, fr, h1, h2, h3⟩ := hx; exact ⟨p, C, fr, h1, by rw [hh p h1]; exact h2, h3⟩
  | .map _ _, hx => by obtain ⟨p, E, h1, h2, h3⟩ := hx; exact ⟨p, E, h1, by rw [hh p h1]; exact h2, h3⟩
  | .obj _, hx => by obtain ⟨p, h1, h2, h3⟩ := hx; exact ⟨p, h1, by rw [hh p h1]; exact h2, h3⟩
/-- the memory of a run: blocks by number, the next number, which blocks were touched (a bit each), which were written -/
structure Mem where
  tr : Tr AB
  next : Nat
  T : Nat
  W : Nat
def Mem.get (m : Mem) (b : Nat) : Option AB := m.tr.get b
def bit (T b : Nat) : Prop := T.testBit b = true
theorem bit_or (T b c : Nat) : bit (T ||| 1 <<< b) c ↔ bit T c ∨ c = b := by
  unfold bit
  rw [Nat.testBit_or, Bool.or_eq_true, Nat.one_shiftLeft, Nat.testBit_two_pow, decide_eq_true_eq]
  exact or_congr_right eq_comm
def Mem.touch (m : Mem) (b : Nat) : Mem := { m with T := m.T ||| 1 <<< b }
def Mem.write (m : Mem) (b : Nat) (k : Option AB) : Mem := { m with tr := m.tr.set b k, T := m.T ||| 1 <<< b, W := m.W ||| 1 <<< b }
def Mem.new (m : Mem) (k : AB) : Mem := { m with tr := m.tr.set m.next (some k), next := m.next + 1 }
def Mem.wf (m : Mem) : Prop := ∀ b, m.next ≤ b → m.get b = none
/-- what can be said of two memories without a world -/
structure Fact (m m' : Mem) : Prop where
  next : m.next ≤ m'.next
  T : ∀ b, bit m.T b → bit m'.T b
  W : ∀ b, bit m.W b → bit m'.W b
  same : ∀ b, b < m.next → ¬ bit m'.W b → m'.get b = m.get b
  sub : ∀ b, bit m'.W b → bit m.W b ∨ bit m'.T b
  back : ∀ b, b < m.next → (m'.get b).isSome = true → (m.get b).isSome = true
  wf : m.wf → m'.wf
  live : m.wf → ∀ b, bit m'.T b → bit m.T b ∨ (m.next ≤ b ∧ b < m'.next) ∨ (m.get b).isSome = true
  far : ∀ b, m'.next ≤ b → ¬ bit m'.W b → m'.get b = m.get b
theorem Fact.refl (m : Mem) : Fact m m := ⟨Nat.le_refl _, fun _ h => h, fun _ h => h, fun _ _ _ => rfl, fun _ h => .inl h, fun _ _ h => h, fun h => h, fun _ _ h => .inl h, fun _ _ _ => rfl⟩
theorem Fact.trans {a b c : Mem} (h : Fact a b) (k : Fact b c) : Fact a c where
  next := Nat.le_trans h.next k.next
  T := fun x hx => k.T x (h.T x hx)
  W := fun x hx => k.W x (h.W x hx)
  same := fun x hx hw => by rw [k.same x (by have := h.next; omega) hw]; exact h.same x hx (fun hb => hw (k.W x hb))
  sub := fun x hx => by
    rcases k.sub x hx with h1 | h1
    · rcases h.sub x h1 with h2 | h2
      · exact .inl h2
      · exact .inr (k.T x h2)
    · exact .inr h1
  back := fun x hx hs => h.back x hx (k.back x (by have := h.next; omega) hs)
  wf := fun hw => k.wf (h.wf hw)
  live := fun hwf x hx => by
    rcases k.live (h.wf hwf) x hx with h1 | h1 | h1
    · rcases h.live hwf x h1 with h2 | h2 | h2
      · exact .inl h2
      · exact .inr (.inl ⟨h2.1, by have := k.next; omega⟩)
      · exact .inr (.inr h2)
    · exact .inr (.inl ⟨by have := h.next; omega, h1.2⟩)
    · have hlt : x < b.next := Decidable.byContradiction fun hn => by
        rw [h.wf hwf x (by omega)] at h1; cases h1
      by_cases hn : x < a.next
      · exact .inr (.inr (h.back x hn h1))
      · exact .inr (.inl ⟨by omega, by have := k.next; omega⟩)
  far := fun x hx hw => by rw [k.far x hx hw]; exact h.far x (by have := k.next; omega) (fun hb => hw (k.W x hb))
theorem Fact.touch (m : Mem) (b : Nat) (h : (m.get b).isSome = true) : Fact m (m.touch b) where
  next := Nat.le_refl _
  T := fun x hx => (bit_or _ _ _).2 (.inl hx)
  W := fun _ h => h
  same := fun _ _ _ => rfl
  sub := fun _ h => .inl h
  back := fun _ _ h => h
  wf := fun hw => hw
  live := fun _ x hx => by
    rcases (bit_or _ _ _).1 hx with h1 | rfl
    · exact .inl h1
    · exact .inr (.inr h)
  far := fun _ _ _ => rfl
theorem Mem.get_write (m : Mem) (b : Nat) (k : Option AB) (c : Nat) : (m.write b k).get c = if c = b then k else m.get c := Tr.get_set _ _ _ _
theorem Mem.get_new (m : Mem) (k : AB) (c : Nat) : (m.new k).get c = if c = m.next then some k else m.get c := Tr.get_set _ _ _ _
theorem Fact.write (m : Mem) (b : Nat) (k : Option AB) (h : (m.get b).isSome = true) : Fact m (m.write b k) where
  next := Nat.le_refl _
  T := fun x hx => (bit_or _ _ _).2 (.inl hx)
  W := fun x hx => (bit_or _ _ _).2 (.inl hx)
  same := fun x _ hw => by rw [Mem.get_write, if_neg (fun e => hw ((bit_or _ _ _).2 (.inr e)))]
  sub := fun x hx => by
    rcases (bit_or _ _ _).1 hx with h1 | rfl
    · exact .inl h1
    · exact .inr ((bit_or _ _ _).2 (.inr rfl))
  back := fun x _ hs => by
    rw [Mem.get_write] at hs
    split at hs
    · rename_i e; subst e; exact h
    · exact hs
  wf := fun hw c hc => by
    rw [Mem.get_write]
    split
    · rename_i e; subst e; rw [hw c hc] at h; cases h
    · exact hw c hc
  live := fun _ x hx => by
    rcases (bit_or _ _ _).1 hx with h1 | rfl
    · exact .inl h1
    · exact .inr (.inr h)
  far := fun x _ hw => by rw [Mem.get_write, if_neg (fun e => hw ((bit_or _ _ _).2 (.inr e)))]
theorem Fact.new (m : Mem) (k : AB) : Fact m (m.new k) where
  next := Nat.le_succ _
  T := fun _ h => h
  W := fun _ h => h
  same := fun x hx _ => by rw [Mem.get_new, if_neg (by omega)]
  sub := fun _ h => .inl h
  back := fun x hx hs => by rw [Mem.get_new, if_neg (by omega)] at hs; exact hs
  wf := fun hw c hc => by
    have hc2 : m.next + 1 ≤ c := hc
    rw [Mem.get_new, if_neg (by omega)]; exact hw c (by omega)
  live := fun _ _ h => .inl h
  far := fun x hx _ => by rw [Mem.get_new, if_neg (by have : m.next + 1 ≤ x := hx; omega)]
/-- the world holds what the memory says of the blocks of S, each by itself -/
structure Sat (V : Vl) (S : Nat → Prop) (m : Mem) (w : World) : Prop where
  holds : ∀ b, S b → ∀ k, m.get b = some k → Holds V w b k
  apart : ∀ b c, S b → S c → b ≠ c → ∀ k l p q, m.get b = some k → m.get c = some l → V b = some p → V c = some q → p.1 ≠ q.1
/-- what is not of S is as it was -/
structure Fr (V : Vl) (S : Nat → Prop) (w w' : World) : Prop where
  os : w'.os = w.os
  tape : w'.tape = w.tape
  output : w'.output = w.output
  size : w.heap.size ≤ w'.heap.size
  block : ∀ k, k < w.heap.size → (∀ b p, S b → V b = some p → p.1 ≠ k) → w'.heap[k]? = w.heap[k]?
def born (m m' : Mem) (b : Nat) : Prop := m.next ≤ b ∧ b < m'.next
def plus (S : Nat → Prop) (m m' : Mem) (b : Nat) : Prop := S b ∨ born m m' b
/-- V tells nothing yet of what is born on the way -/
def Free (V : Vl) (m m' : Mem) : Prop := ∀ b, born m m' b → V b = none
structure Step (S : Nat → Prop) (V : Vl) (m : Mem) (w : World) (V' : Vl) (m' : Mem) (w' : World) : Prop where
  keeps : ∀ b, ¬ born m m' b → V' b = V b
  sat : Sat V' (plus S m m') m' w'
  fr : Fr V S w w'
  fresh : ∀ b p, born m m' b → V' b = some p → (w.heap.size ≤ p.1 ∧ p.1 < w'.heap.size) ∨ ∃ c q, S c ∧ V c = some q ∧ q.1 = p.1
theorem Step.le {S : Nat → Prop} {V V' : Vl} {m m' : Mem} {w w' : World} (h : Step S V m w V' m' w') (hf : Free V m m') : V.le V' := fun b p hb => by
  by_cases hn : born m m' b
  · rw [hf b hn] at hb; cases hb
  · rw [h.keeps b hn]; exact hb
theorem born_split {a b c : Mem} (h : a.next ≤ b.next) (k : b.next ≤ c.next) (x : Nat) : born a c x ↔ born a b x ∨ born b c x := by unfold born; omega
theorem Free.left {V : Vl} {a b c : Mem} (h : Free V a c) (k : b.next ≤ c.next) : Free V a b := fun x hx => h x ⟨hx.1, Nat.lt_of_lt_of_le hx.2 k⟩
theorem Free.right {V V' : Vl} {a b c : Mem} (h : Free V a c) (j : a.next ≤ b.next) (hk : ∀ x, ¬ born a b x → V' x = V x) : Free V' b c := fun x hx => by
  rw [hk x (by unfold born at *; omega)]; exact h x ⟨Nat.le_trans j hx.1, hx.2⟩
theorem Step.trans {S : Nat → Prop} {V V1 V2 : Vl} {a b c : Mem} {w w1 w2 : World} (hn : a.next ≤ b.next) (kn : b.next ≤ c.next) (h : Step S V a w V1 b w1) (k : Step (plus S a b) V1 b w1 V2 c w2) : Step S V a w V2 c w2 where
  keeps := fun x hx => by
    rw [k.keeps x (fun hb => hx ((born_split hn kn x).2 (.inr hb))), h.keeps x (fun hb => hx ((born_split hn kn x).2 (.inl hb)))]
  sat := by
    have e : plus (plus S a b) b c = plus S a c := by
      funext x; unfold plus; rw [eq_iff_iff, born_split hn kn x, or_assoc]
    rw [← e]; exact k.sat
  fr := by
    refine ⟨k.fr.os.trans h.fr.os, k.fr.tape.trans h.fr.tape, k.fr.output.trans h.fr.output, Nat.le_trans h.fr.size k.fr.size, fun i hi hs => ?_⟩
    rw [k.fr.block i (Nat.lt_of_lt_of_le hi h.fr.size) ?_, h.fr.block i hi hs]
    intro x p hx hp
    by_cases hb : born a b x
    · rcases h.fresh x p hb hp with h1 | ⟨y, q, hy, hq, he⟩
      · omega
      · rw [← he]; exact hs y q hy hq
    · rcases hx with hx | hx
      · rw [h.keeps x hb] at hp; exact hs x p hx hp
      · exact absurd hx hb
  fresh := fun x p hx hp => by
    rcases (born_split hn kn x).1 hx with hb | hb
    · rw [k.keeps x (by unfold born at *; omega)] at hp
      exact (h.fresh x p hb hp).imp (fun h1 => ⟨h1.1, Nat.lt_of_lt_of_le h1.2 k.fr.size⟩) id
    · rcases k.fresh x p hb hp with h1 | ⟨y, q, hy, hq, he⟩
      · exact .inl ⟨Nat.le_trans h.fr.size h1.1, h1.2⟩
      · by_cases hyb : born a b y
        · rcases h.fresh y q hyb hq with h2 | ⟨z, r, hz, hr, he2⟩
          · have := k.fr.size
            exact .inl (by omega)
          · exact .inr ⟨z, r, hz, hr, by omega⟩
        · rcases hy with hy | hy
          · rw [h.keeps y hyb] at hq; exact .inr ⟨y, q, hy, hq, he⟩
          · exact absurd hy hyb
theorem Step.refl {S : Nat → Prop} {V : Vl} {m : Mem} {w : World} (h : Sat V S m w) : Step S V m w V m w where
  keeps := fun _ _ => rfl
  sat := ⟨fun b hb => h.holds b (hb.resolve_right (by unfold born; omega)), fun b c hb hc => h.apart b c (hb.resolve_right (by unfold born; omega)) (hc.resolve_right (by unfold born; omega))⟩
  fr := ⟨rfl, rfl, rfl, Nat.le_refl _, fun _ _ _ => rfl⟩
  fresh := fun b p hb => by unfold born at hb; omega
/-- a memory that differs in its marks alone -/
theorem Step.mark {S : Nat → Prop} {V : Vl} {m : Mem} {w : World} (h : Sat V S m w) (T W : Nat) : Step S V m w V { m with T := T, W := W } w := by
  have := Step.refl h
  exact ⟨this.keeps, ⟨this.sat.holds, this.sat.apart⟩, this.fr, this.fresh⟩
theorem Step.marked {S : Nat → Prop} {V V' : Vl} {m m' : Mem} {w w' : World} (h : Step S V m w V' m' w') (T W : Nat) : Step S V m w V' { m' with T := T, W := W } w' :=
  ⟨h.keeps, ⟨h.sat.holds, h.sat.apart⟩, h.fr, h.fresh⟩
/-- a new block -/
theorem Step.new {S : Nat → Prop} {V : Vl} {m : Mem} {w w' : World} (h : Sat V S m w) (hf : V m.next = none) (k : AB) (o : Obj) (n : Nat)
    (hw : w'.heap = w.heap.push o) (hos : w'.os = w.os) (htape : w'.tape = w.tape) (hout : w'.output = w.output)
    (hk : ∀ V', V.le V' → V' m.next = some (w.heap.size, n) → Holds V' w' m.next k) :
    Step S V m w (fun b => if b = m.next then some (w.heap.size, n) else V b) (m.new k) w' := by
  have hle : V.le (fun b => if b = m.next then some (w.heap.size, n) else V b) := fun b p hb => by
    show (if b = m.next then _ else _) = _
    rw [if_neg (fun e => by rw [e, hf] at hb; cases hb)]; exact hb
  have hold : ∀ i, i < w.heap.size → w'.heap[i]? = w.heap[i]? := fun i hi => by rw [hw, Array.getElem?_push, if_neg (by omega)]
  refine ⟨fun b hb => if_neg (fun e => hb ⟨by omega, by show b < m.next + 1; omega⟩), ⟨fun b hb l hl => ?_, fun b c hb hc hbc l l' p q hl hl' hp hq => ?_⟩, ⟨hos, htape, hout, by rw [hw]; simp, fun i hi _ => hold i hi⟩, fun b p hb hp => ?_⟩
  · rw [Mem.get_new] at hl
    split at hl
    · rename_i e
      subst e
      cases hl
      exact hk _ hle (if_pos rfl)
    · rename_i e
      have hS : S b := hb.resolve_right (fun x => e (by have := x.1; have h2 : b < m.next + 1 := x.2; omega))
      have h1 := h.holds b hS l hl
      obtain ⟨p, hp, hpl⟩ := h1.at
      exact (h1.mono hle).heap (fun q hq => by
        have hq2 : (if b = m.next then some (w.heap.size, n) else V b) = some q := hq
        rw [if_neg e, hp] at hq2
        cases hq2
        exact hold _ hpl)
  · rw [Mem.get_new] at hl hl'
    have aux : ∀ (b : Nat) (l : AB) (p : Nat × Nat), plus S m (m.new k) b → b ≠ m.next → m.get b = some l → (if b = m.next then some (w.heap.size, n) else V b) = some p → S b ∧ V b = some p ∧ p.1 < w.heap.size := fun b l p hb e hl hp => by
      have hS : S b := hb.resolve_right (fun x => e (by have := x.1; have h2 : b < m.next + 1 := x.2; omega))
      rw [if_neg e] at hp
      obtain ⟨p', hp', hl'⟩ := (h.holds b hS l hl).at
      rw [hp] at hp'
      cases hp'
      exact ⟨hS, hp, hl'⟩
    by_cases e : b = m.next
    · by_cases e' : c = m.next
      · exact absurd (e.trans e'.symm) hbc
      · rw [if_neg e'] at hl'
        obtain ⟨_, _, hlt⟩ := aux c l' q hc e' hl' hq
        have hp2 : (if b = m.next then some (w.heap.size, n) else V b) = some p := hp
        rw [if_pos e] at hp2
        cases hp2
        show w.heap.size ≠ q.1
        omega
    · rw [if_neg e] at hl
      obtain ⟨hSb, hVb, hlb⟩ := aux b l p hb e hl hp
      by_cases e' : c = m.next
      · have hq2 : (if c = m.next then some (w.heap.size, n) else V c) = some q := hq
        rw [if_pos e'] at hq2
        cases hq2
        show p.1 ≠ w.heap.size
        omega
      · rw [if_neg e'] at hl'
        obtain ⟨hSc, hVc, _⟩ := aux c l' q hc e' hl' hq
        exact h.apart b c hSb hSc hbc l l' p q hl hl' hVb hVc
  · have hb2 : b < m.next + 1 := hb.2
    have e : b = m.next := by have := hb.1; omega
    have hp2 : (if b = m.next then some (w.heap.size, n) else V b) = some p := hp
    rw [if_pos e] at hp2
    cases hp2
    refine .inl ⟨Nat.le_refl _, ?_⟩
    show w.heap.size < w'.heap.size
    rw [hw]; simp
/-- a block is written -/
theorem Step.write {S : Nat → Prop} {V : Vl} {m : Mem} {w w' : World} (h : Sat V S m w) (b : Nat) (hb : S b) (k k' : AB) (hk : m.get b = some k) (p : Nat × Nat) (hp : V b = some p)
    (hos : w'.os = w.os) (htape : w'.tape = w.tape) (hout : w'.output = w.output) (hsz : w'.heap.size = w.heap.size) (hoth : ∀ i, i ≠ p.1 → w'.heap[i]? = w.heap[i]?) (hh : Holds V w' b k') :
    Step S V m w V (m.write b (some k')) w' := by
  refine ⟨fun _ _ => rfl, ⟨fun c hc l hl => ?_, fun c d hc hd hcd l l' q r hl hl' hq hr => ?_⟩, ⟨hos, htape, hout, by omega, fun i hi hs => hoth i (fun e => hs b p hb hp e.symm)⟩, fun c p hc => by unfold born at hc; have h2 : c < m.next := hc.2; omega⟩
  · have hS : S c := hc.resolve_right (by unfold born; show ¬ (_ ∧ c < m.next); omega)
    rw [Mem.get_write] at hl
    split at hl
    · rename_i e; subst e; cases hl; exact hh
    · rename_i e
      exact (h.holds c hS l hl).heap (fun q hq => hoth _ (h.apart c b hS hb e l k q p hl hk hq hp))
  · have hc' : S c := hc.resolve_right (by unfold born; show ¬ (_ ∧ c < m.next); omega)
    have hd' : S d := hd.resolve_right (by unfold born; show ¬ (_ ∧ d < m.next); omega)
    rw [Mem.get_write] at hl hl'
    have aux : ∀ (c : Nat) (l : AB), (if c = b then some k' else m.get c) = some l → ∃ l0, m.get c = some l0 := fun c l hl => by
      split at hl
      · rename_i e; subst e; exact ⟨k, hk⟩
      · exact ⟨l, hl⟩
    obtain ⟨l0, h0⟩ := aux c l hl
    obtain ⟨l1, h1⟩ := aux d l' hl'
    exact h.apart c d hc' hd' hcd l0 l1 q r h0 h1 hq hr
theorem Sat.touch {V : Vl} {S : Nat → Prop} {m : Mem} {w : World} (h : Sat V S m w) (b : Nat) : Sat V S (m.touch b) w := ⟨h.holds, h.apart⟩
theorem Step.touch {S : Nat → Prop} {V : Vl} {m : Mem} {w : World} (h : Sat V S m w) (b : Nat) : Step S V m w V (m.touch b) w := Step.mark h _ _
end
section
variable {P : Program}
/-- an operation's value: it runs, and its value and its world are the run's -/
def Ran (P : Program) (S : Nat → Prop) (V : Vl) (m : Mem) (w : World) (s : Sem Value) (x : AV) (m' : Mem) : Prop :=
  ∃ v w' V', s.run P w = .ok v w' ∧ x.is V' v ∧ Step S V m w V' m' w'
theorem Ran.same {S : Nat → Prop} {V : Vl} {m : Mem} {w : World} {s : Sem Value} {x : AV} {v : Value} (hs : Sat V S m w) (h : s.run P w = .ok v w) (hx : x.is V v) : Ran P S V m w s x m :=
  ⟨v, w, V, h, hx, Step.refl hs⟩

def AV.one : AV → Bool
  | .lit v => v.oneCell'
  | .agg _ | .tup _ | .any => false
  | _ => true
theorem AV.one_is {V : Vl} {x : AV} {v : Value} (h : x.one = true) (k : x.is V v) : v.oneCell' = true := by
  cases x with
  | lit u => rw [show v = u from k]; exact h
  | ptr b o => obtain ⟨p, _, rfl⟩ := k; rfl
  | sl b o l z c => obtain ⟨p, _, _, _, rfl, _⟩ := k; rfl
  | map b => obtain ⟨p, _, rfl⟩ := k; rfl
  | fn f q l => obtain ⟨_, _, _, _, rfl⟩ := k; rfl
  | iface t y => obtain ⟨_, _, rfl⟩ := k; rfl
  | agg l => cases h
  | tup l => cases h
  | any => cases h
theorem AV.ones {V : Vl} : ∀ {xs : List AV} {vs : List Value}, xs.all AV.one = true → AV.are V xs vs → ∀ v ∈ vs, v.oneCell' = true
  | [], _, _, h => by subst h; simp
  | x :: xs, _, h, k => by
    obtain ⟨v, vs, rfl, h2, h3⟩ := k
    simp only [List.all_cons, Bool.and_eq_true] at h
    intro u hu
    rcases List.mem_cons.1 hu with rfl | hu
    · exact AV.one_is h.1 h2
    · exact AV.ones h.2 h3 u hu
/-- the cells of a value -/
def AV.cells : AV → Option (List AV)
  | .lit v => some (v.cells.toList.map .lit)
  | .agg l => some l
  | .tup _ | .any => none
  | x => some [x]
theorem AV.cells_is {V : Vl} {x : AV} {v : Value} {l : List AV} (h : x.cells = some l) (k : x.is V v) : AV.are V l v.cells.toList := by
  cases x with
  | lit u => cases h; rw [show v = u from k]; exact are_lits _
  | ptr b o => cases h; have k' := k; obtain ⟨p, _, rfl⟩ := k'; exact ⟨_, _, rfl, k, rfl⟩
  | sl b o l z c => cases h; have k' := k; obtain ⟨p, _, _, _, rfl, _⟩ := k'; exact ⟨_, _, rfl, k, rfl⟩
  | map b => cases h; have k' := k; obtain ⟨p, _, rfl⟩ := k'; exact ⟨_, _, rfl, k, rfl⟩
  | fn f q l => cases h; have k' := k; obtain ⟨_, _, _, _, rfl⟩ := k'; exact ⟨_, _, rfl, k, rfl⟩
  | iface t y => cases h; have k' := k; obtain ⟨_, _, rfl⟩ := k'; exact ⟨_, _, rfl, k, rfl⟩
  | agg l => cases h; obtain ⟨vs, h1, rfl⟩ := k; exact h1
  | tup l => cases h
  | any => cases h
/-- a struct or an array of these cells -/
def mkAgg (l : List AV) : AV := match litsOf l with | some vs => .lit (.agg vs.toArray) | none => .agg l
theorem mkAgg_is {V : Vl} {l : List AV} {vs : List Value} (h : AV.are V l vs) : (mkAgg l).is V (.agg vs.toArray) := by
  unfold mkAgg
  split
  · rename_i us hu
    rw [lits_are hu h]; rfl
  · exact ⟨vs, h, rfl⟩
def mkTup (l : List AV) : AV := match litsOf l with | some vs => .lit (.tuple vs.toArray) | none => .tup l
theorem mkTup_is {V : Vl} {l : List AV} {vs : List Value} (h : AV.are V l vs) : (mkTup l).is V (.tuple vs.toArray) := by
  unfold mkTup
  split
  · rename_i us hu
    rw [lits_are hu h]; rfl
  · exact ⟨vs, h, rfl⟩
def mkIface (t : TypeId) : AV → AV
  | .lit v => .lit (.iface t v)
  | x => .iface t x
theorem mkIface_is {V : Vl} {t : TypeId} {x : AV} {v : Value} (h : x.is V v) : (mkIface t x).is V (.iface t v) := by
  cases x with
  | lit u => rw [show v = u from h]; rfl
  | _ => exact ⟨v, h, rfl⟩
def aggOf (P : Program) (t : TypeId) : Option Bool :=
  match P.underlying t with
  | some (.struct _) | some (.array _ _) => some true
  | some _ => some false
  | none => none
theorem run_isAgg {t : TypeId} {b : Bool} (h : aggOf P t = some b) (w : World) : (isAgg t).run P w = .ok b w := by
  unfold aggOf at h
  cases hu : P.underlying t with
  | none => simp [hu] at h
  | some d =>
    unfold isAgg
    rw [Sem.run_bind, run_underlying hu w]
    rw [hu] at h
    cases d <;> simp_all
def sizeE (P : Program) (t : TypeId) : Option Nat := match P.info? t with | some i => some i.size | none => none
theorem run_sizeOf {t : TypeId} {n : Nat} (h : sizeE P t = some n) (w : World) : (sizeOf t).run P w = .ok n w := by
  unfold sizeE at h
  cases hi : P.info? t with
  | none => simp [hi] at h
  | some i =>
    rw [hi] at h
    cases h
    simp [sizeOf, typeInfo, Sem.run_bind, hi]
def zeroE (P : Program) (t : TypeId) : Option Value := match P.info? t with | some i => i.zero | none => none
theorem run_zeroValue {t : TypeId} {z : Value} (h : zeroE P t = some z) (w : World) : (zeroValue t).run P w = .ok z w := by
  unfold zeroE at h
  cases hi : P.info? t with
  | none => simp [hi] at h
  | some i =>
    rw [hi] at h
    simp only at h
    simp [zeroValue, typeInfo, Sem.run_bind, hi, h]
theorem run_newRow (e : TypeId) (c : Array Value) (w : World) : (newRow e c).run P w = .ok ⟨w.heap.size, 0, none⟩ (w.alloc (.cells c e)) := by
  rfl
/-- a new row of cells -/
theorem Step.row {S : Nat → Prop} {V : Vl} {m : Mem} {w : World} (h : Sat V S m w) (hf : V m.next = none) (e : TypeId) (l : List AV) (C : List Value) (rest : List Value) (ex : Bool)
    (hl : AV.are V l C) (hex : ex = true → rest = []) :
    Step S V m w (fun b => if b = m.next then some (w.heap.size, (C ++ rest).length) else V b) (m.new (.cells e l ex)) (w.alloc (.cells (C ++ rest).toArray e)) :=
  Step.new h hf (.cells e l ex) _ (C ++ rest).length rfl rfl rfl rfl fun V' hle hn => by
    have hlen := AV.are_length hl
    refine ⟨_, (C ++ rest).toArray, (0, 0), hn, heap_alloc_new w _, by simp, by simp [hlen], ?_, fun hx => by rw [hex hx]; simp [hlen], .inl rfl⟩
    rw [show ((C ++ rest).toArray.toList.take l.length) = C by simp [← hlen]]
    exact AV.are.mono hle hl
/-- the run's V behind a new block -/
def Vl.with (V : Vl) (b : Nat) (p : Nat × Nat) : Vl := fun c => if c = b then some p else V c
theorem Vl.with_same (V : Vl) (b : Nat) (p : Nat × Nat) : V.with b p b = some p := if_pos rfl
theorem Vl.with_le {V : Vl} {b : Nat} (h : V b = none) (p : Nat × Nat) : V.le (V.with b p) := fun c q hc => by
  unfold Vl.with
  rw [if_neg (fun e => by rw [e, h] at hc; cases hc)]; exact hc

def boxE (t : TypeId) (l : List AV) (m : Mem) : AV × Mem := (.ptr m.next 0, m.new (.cells t l true))
theorem box_ran {S : Nat → Prop} {V : Vl} {m : Mem} {w : World} (h : Sat V S m w) (hf : V m.next = none) (t : TypeId) (l : List AV) (v : Value) (hl : AV.are V l v.cells.toList) :
    Ran P S V m w (do pure (.pointer (some (← newVar t v)))) (boxE t l m).1 (boxE t l m).2 := by
  have hs := Step.row h hf t l v.cells.toList [] true hl (fun _ => rfl)
  rw [List.append_nil, Array.toArray_toList] at hs
  refine ⟨_, _, _, ?_, ⟨(w.heap.size, v.cells.toList.length), ?_, rfl⟩, hs⟩
  · rw [Sem.run_bind]
    unfold newVar
    rw [run_newRow]
    rfl
  · exact if_pos rfl
def allocE (P : Program) (t : TypeId) (m : Mem) : Option (AV × Mem) :=
  match zeroE P t with
  | some z => some (boxE t (z.cells.toList.map .lit) m)
  | none => none
theorem alloc_ran {S : Nat → Prop} {V : Vl} {m m' : Mem} {w : World} (h : Sat V S m w) (hf : V m.next = none) {t : TypeId} {x : AV} (he : allocE P t m = some (x, m')) :
    Ran P S V m w (Instr.alloc t true (.tuple #[])) x m' := by
  unfold allocE at he
  split at he
  · rename_i z hz
    cases he
    obtain ⟨v, w', V', h1, h2, h3⟩ := box_ran (P := P) h hf t (z.cells.toList.map .lit) z (are_lits _)
    refine ⟨v, w', V', ?_, h2, h3⟩
    unfold Instr.alloc
    rw [Sem.run_bind, run_zeroValue hz]
    exact h1
  · cases he
/-- cells off to off + n of a block -/
def loadE (P : Program) (t : TypeId) (x : AV) (m : Mem) : Option (AV × Mem) :=
  match x with
  | .ptr b off =>
    match m.get b with
    | some (.cells _ vs _) =>
      match aggOf P t with
      | some true =>
        match sizeE P t with
        | some n => if off + n ≤ vs.length then some (mkAgg ((vs.drop off).take n), m.touch b) else none
        | none => none
      | some false => match vs[off]? with | some y => some (y, m.touch b) | none => none
      | none => none
    | _ => none
  | _ => none
theorem cell_in {V : Vl} {w : World} {vs : List AV} {C : Array Value} {elem : TypeId} {fr : Nat × Nat} {p : Nat × Nat} (hh : w.heap[p.1]? = some (.cells C elem fr)) (ha : AV.are V vs (C.toList.take vs.length)) {i : Nat} {y : AV} (hy : vs[i]? = some y) :
    ∃ v, w.cell? ⟨p.1, i, none⟩ = some v ∧ y.is V v ∧ C[i]? = some v := by
  obtain ⟨v, hv, hi⟩ := AV.are_get ha i y hy
  have hlt : i < vs.length := (List.getElem?_eq_some_iff.1 hy).1
  rw [List.getElem?_take_of_lt hlt, Array.getElem?_toList] at hv
  exact ⟨v, by rw [cell_of_row w p.1 i C elem fr hh]; exact hv, hi, hv⟩
theorem addr_add (g o j : Nat) : (⟨g, o, none⟩ : Addr).add j = ⟨g, o + j, none⟩ := by unfold Addr.add; split <;> simp_all
theorem load_ran {S : Nat → Prop} {V : Vl} {m m' : Mem} {w : World} (h : Sat V S m w) {t : TypeId} {x y : AV} {v : Value} (hx : x.is V v) (hS : ∀ b, bit m'.T b → S b) (he : loadE P t x m = some (y, m')) :
    Ran P S V m w (Instr.loadAt t v) y m' := by
  unfold loadE at he
  split at he
  · rename_i b off
    obtain ⟨p, hp, rfl⟩ := hx
    split at he
    · rename_i elem vs ex hb
      have key : ∀ y, m' = m.touch b → (∃ u, (loadVar t ⟨p.1, off, none⟩).run P w = .ok u w ∧ y.is V u) → Ran P S V m w (Instr.loadAt t (.pointer (some ⟨p.1, off, none⟩))) y m' := fun y hm ⟨u, hu, hy⟩ => by
        subst hm
        refine ⟨u, w, V, ?_, hy, Step.touch h b⟩
        unfold Instr.loadAt Instr.sureAddr
        rw [Sem.run_bind]
        exact hu
      have hSb : m' = m.touch b → S b := fun e => hS b (by rw [e]; exact (bit_or _ _ _).2 (.inr rfl))
      split at he
      · rename_i hagg
        split at he
        · rename_i n hn
          split at he
          · rename_i hlen
            cases he
            obtain ⟨p', C, fr, hp', hh, hC, hlp, ha, _⟩ := h.holds b (hSb rfl) _ hb
            rw [hp] at hp'
            cases hp'
            refine key _ rfl ⟨.agg ((C.toList.drop off).take n).toArray, ?_, ?_⟩
            · unfold loadVar
              rw [Sem.run_bind, run_isAgg hagg]
              simp only [Result.andThen_ok, if_true]
              rw [Sem.run_bind, run_sizeOf hn]
              simp only [Result.andThen_ok]
              have hl := run_loadCells_list (P := P) w ⟨p.1, off, none⟩ ((C.toList.drop off).take n) (fun j u hu => by
                rw [addr_add, cell_of_row w p.1 _ C elem fr hh]
                rw [List.getElem?_take] at hu
                split at hu
                · rw [List.getElem?_drop, Array.getElem?_toList] at hu; exact hu
                · cases hu)
              rw [show ((C.toList.drop off).take n).length = n by simp; omega] at hl
              rw [Sem.run_bind, hl]
              rfl
            · refine mkAgg_is ?_
              have h2 := AV.are_take n (AV.are_drop off ha)
              rw [List.drop_take, List.take_take, Nat.min_eq_left (by omega)] at h2
              exact h2
          · cases he
        · cases he
      · rename_i hagg
        split at he
        · rename_i y' hy
          cases he
          obtain ⟨p', C, fr, hp', hh, hC, hlp, ha, _⟩ := h.holds b (hSb rfl) _ hb
          rw [hp] at hp'
          cases hp'
          obtain ⟨u, hu, hyu, _⟩ := cell_in hh ha hy
          refine key _ rfl ⟨u, ?_, hyu⟩
          unfold loadVar
          rw [Sem.run_bind, run_isAgg hagg]
          simp [load, Sem.run, hu]
        · cases he
      · cases he
    · cases he
  · cases he
theorem load_fact {t : TypeId} {x y : AV} {m m' : Mem} (he : loadE P t x m = some (y, m')) : Fact m m' := by
  unfold loadE at he
  split at he
  · rename_i b off
    split at he
    · rename_i elem vs ex hb
      have hm : m' = m.touch b := by
        repeat' (split at he)
        all_goals first | (cases he; done) | (cases he; rfl)
      rw [hm]
      exact Fact.touch m _ (by rw [hb]; rfl)
    · cases he
  · cases he
end
section
variable {P : Program}
/-- a store into a row of which no cell is frozen -/
theorem run_storeCells_fr (g o : Nat) (t : TypeId) (fr : Nat × Nat) : ∀ (vs : List Value) (i : Nat) (cur : Array Value) (w : World), w.heap[g]? = some (.cells cur t fr) → o + i + vs.length ≤ cur.size → (∀ j, j < cur.size → ¬ (fr.1 ≤ j ∧ j < fr.2)) → (∀ v ∈ vs, v.oneCell' = true) →
    (storeCells ⟨g, o, none⟩ vs i).run P w = .ok () (w.setRow g (cur.toList.take (o + i) ++ vs ++ cur.toList.drop (o + i + vs.length)).toArray)
  | [], i, cur, w, hg, _, _, _ => by
    simp only [storeCells, List.append_nil, List.length_nil, Nat.add_zero, List.take_append_drop, Array.toArray_toList]
    rw [setRow_self w g cur t fr hg]
    rfl
  | v :: rest, i, cur, w, hg, hl, hf, h1 => by
    have hi : o + i < cur.size := by simp at hl; omega
    have hcell : w.cell? ⟨g, o + i, none⟩ = some cur[o + i] := by simp [World.cell?, hg, hi]
    have hfro : w.frozen? ⟨g, o + i, none⟩ = false := by
      have := hf (o + i) hi
      obtain ⟨lo, hi'⟩ := fr
      simp only [World.frozen?, hg]
      rw [Bool.eq_false_iff]
      intro hb
      simp at hb
      exact this hb
    have hst : (store ((⟨g, o, none⟩ : Addr).add i) v).run P w = .ok () (w.setRow g (cur.setIfInBounds (o + i) v)) := by
      rw [addr_add, run_store P w _ v _ (h1 v (by simp)), hcell]
      simp [hfro, setCell_eq_setRow w g (o + i) cur t fr v hg]
    have ih := run_storeCells_fr g o t fr rest (i + 1) (cur.setIfInBounds (o + i) v) (w.setRow g (cur.setIfInBounds (o + i) v)) (setRow_heap w g cur _ t _ hg) (by simp at hl ⊢; omega) (by simpa using hf) (fun x hx => h1 x (by simp [hx]))
    simp only [storeCells, Sem.run_bind, hst, Result.andThen_ok, ih, setRow_setRow]
    congr 3
    have e := list_seg_step cur.toList (o + i) v rest (by simp at hl ⊢; omega)
    simpa [Array.toList_setIfInBounds, Nat.add_assoc] using e
/-- a list with others in the place of some -/
def over {α : Type} (l : List α) (off : Nat) (xs : List α) : List α := l.take off ++ xs ++ l.drop (off + xs.length)
theorem over_length {α : Type} (l : List α) (off : Nat) (xs : List α) (h : off + xs.length ≤ l.length) : (over l off xs).length = l.length := by
  unfold over; simp; omega
theorem over_take {α : Type} (l : List α) (off n : Nat) (xs : List α) (h : off + xs.length ≤ n) : (over l off xs).take n = over (l.take n) off xs := by
  unfold over
  rw [List.take_append, List.take_append, List.take_take, Nat.min_eq_right (show off ≤ n by omega)]
  by_cases hl : off ≤ l.length
  · rw [show (List.take off l).length = off by simp; omega]
    rw [List.take_of_length_le (l := xs) (by omega), List.length_append, show (List.take off l).length = off by simp; omega, List.drop_take, List.take_take, Nat.min_eq_left (show off ≤ n by omega), show n - (off + xs.length) = n - (off + xs.length) from rfl]
  · have e1 : (List.take off l).length = l.length := by simp; omega
    rw [e1, List.take_of_length_le (l := xs) (by omega), List.take_take, Nat.min_eq_left (show off ≤ n by omega)]
    rw [List.drop_eq_nil_of_le (by omega), List.drop_eq_nil_of_le (by simp; omega)]
    simp
theorem over_are {V : Vl} {xs : List AV} {vs : List Value} {ys : List AV} {us : List Value} (off : Nat) (h : AV.are V xs vs) (k : AV.are V ys us) : AV.are V (over xs off ys) (over vs off us) := by
  unfold over
  rw [AV.are_length k]
  exact AV.are_append (AV.are_append (AV.are_take _ h) k) (AV.are_drop _ h)
theorem over_length' {α : Type} (l : List α) (off : Nat) (xs : List α) (h : off ≤ l.length) : (over l off xs).length = max l.length (off + xs.length) := by
  unfold over; simp; omega
theorem over_are' {V : Vl} {vs : List AV} {C : List Value} {ys : List AV} {us : List Value} (off : Nat) (h : off ≤ vs.length) (hC : vs.length ≤ C.length) (hu : off + ys.length ≤ C.length) (ha : AV.are V vs (C.take vs.length)) (k : AV.are V ys us) :
    AV.are V (over vs off ys) ((over C off us).take (over vs off ys).length) := by
  have hlen := AV.are_length k
  rw [over_length' vs off ys h, over_take _ _ _ _ (by omega)]
  by_cases hc : off + ys.length ≤ vs.length
  · rw [Nat.max_eq_left hc]
    exact over_are off ha k
  · rw [Nat.max_eq_right (by omega)]
    unfold over
    rw [List.drop_eq_nil_of_le (as := vs) (by omega), List.drop_eq_nil_of_le (by simp; omega), List.append_nil, List.append_nil, List.take_take, Nat.min_eq_left (by omega)]
    refine AV.are_append ?_ k
    have h2 := AV.are_take off ha
    rw [List.take_take, Nat.min_eq_left h] at h2
    exact h2
theorem setRow_other (w : World) (g : Nat) (C : Array Value) (i : Nat) (h : i ≠ g) : (w.setRow g C).heap[i]? = w.heap[i]? := by
  unfold World.setRow
  simp only [Array.getElem?_modify]
  rw [if_neg (fun e => h e.symm)]
/-- cells of a block are written: memory and world -/
theorem Step.cells {S : Nat → Prop} {V : Vl} {m : Mem} {w : World} (h : Sat V S m w) {b : Nat} (hb : S b) {elem : TypeId} {vs : List AV} {ex : Bool} (hk : m.get b = some (.cells elem vs ex)) (off : Nat) {xs : List AV} {us : List Value} (hx : AV.are V xs us) (hl : off ≤ vs.length) (hq : ∀ p, V b = some p → off + xs.length ≤ p.2) (h1 : ∀ v ∈ us, v.oneCell' = true) :
    ∃ p, V b = some p ∧ ∀ i o : Nat, o + i = off → ∃ w', (storeCells ⟨p.1, o, none⟩ us i).run P w = .ok () w' ∧ Step S V m w V (m.write b (some (.cells elem (over vs off xs) ex))) w' := by
  obtain ⟨p, C, fr, hp, hh, hC, hlp, ha, hex, hfr⟩ := h.holds b hb _ hk
  have hlen := AV.are_length hx
  have hq' := hq p hp
  refine ⟨p, hp, fun i o hio => ?_⟩
  have hrun := run_storeCells_fr (P := P) p.1 o elem fr us i C w hh (by omega) (fun j hj => thawed hfr j (by omega)) h1
  rw [hio] at hrun
  refine ⟨_, hrun, ?_⟩
  refine Step.write h b hb _ _ hk p hp rfl rfl rfl (by simp [World.setRow]) (fun i hi => setRow_other w p.1 _ i hi) ?_
  refine ⟨p, _, fr, hp, setRow_heap w p.1 C _ elem fr hh, ?_, ?_, ?_, ?_, hfr⟩
  · have := over_length C.toList off us (by simp; omega)
    simp only [List.size_toArray]
    exact this.trans (by simp [hC])
  · rw [over_length' vs off xs hl]; omega
  · exact over_are' off hl (by simp; omega) (by simp; omega) ha hx
  · intro he
    rw [over_length' vs off xs hl]
    have := hex he
    omega
def storeE (P : Program) (t : TypeId) (x y : AV) (m : Mem) : Option Mem :=
  match x with
  | .ptr b off =>
    match m.get b with
    | some (.cells elem vs ex) =>
      match y.cells with
      | some l =>
        match sizeE P t with
        | some n => if l.length = n ∧ off + n ≤ vs.length ∧ l.all AV.one = true then some (m.write b (some (.cells elem (over vs off l) ex))) else none
        | none => none
      | none => none
    | _ => none
  | _ => none
theorem store_ran {S : Nat → Prop} {V : Vl} {m m' : Mem} {w : World} (h : Sat V S m w) {t : TypeId} {x y : AV} {v u : Value} (hx : x.is V v) (hy : y.is V u) (hS : ∀ b, bit m'.T b → S b) (he : storeE P t x y m = some m') :
    ∃ w', (Instr.storeAt t v u).run P w = .ok () w' ∧ Step S V m w V m' w' := by
  unfold storeE at he
  split at he
  · rename_i b off
    obtain ⟨p, hp, rfl⟩ := hx
    split at he
    · rename_i elem vs ex hb
      split at he
      · rename_i l hl
        split at he
        · rename_i n hn
          split at he
          · rename_i hc
            cases he
            obtain ⟨hc1, hc2, hc3⟩ := hc
            have hcells := AV.cells_is hl hy
            have hlen := AV.are_length hcells
            obtain ⟨p', hp', hr⟩ := Step.cells (P := P) h (hS b ((bit_or _ _ _).2 (.inr rfl))) hb off hcells (by omega) (fun p hp => by
              obtain ⟨p2, C, fr, hp2, _, _, hlp, _⟩ := h.holds b (hS b ((bit_or _ _ _).2 (.inr rfl))) _ hb
              rw [hp] at hp2; cases hp2; omega) (AV.ones hc3 hcells)
            rw [hp] at hp'
            cases hp'
            obtain ⟨w', hw, hst⟩ := hr 0 off (by omega)
            refine ⟨w', ?_, hst⟩
            unfold Instr.storeAt Instr.sureAddr
            rw [Sem.run_bind]
            show (storeVar t ⟨p.1, off, none⟩ u).run P w = _
            unfold storeVar
            have hsz : u.cells.size = n := by rw [← hc1, ← hlen]; simp
            rw [Sem.run_bind, run_sizeOf hn]
            simp only [Result.andThen_ok, hsz, ne_eq, not_true_eq_false, if_false]
            exact hw
          · cases he
        · cases he
      · cases he
    · cases he
  · cases he
theorem store_fact {t : TypeId} {x y : AV} {m m' : Mem} (he : storeE P t x y m = some m') : Fact m m' := by
  unfold storeE at he
  split at he
  · rename_i b off
    split at he
    · rename_i elem vs ex hb
      have hm : ∃ k, m' = m.write b (some k) := by
        repeat' (split at he)
        all_goals first | (cases he; done) | (cases he; exact ⟨_, rfl⟩)
      obtain ⟨k, hm⟩ := hm
      rw [hm]
      exact Fact.write m _ _ (by rw [hb]; rfl)
    · cases he
  · cases he
/-- a field's address -/
def fieldE (P : Program) (s : TypeId) (x : AV) (f : Nat) : Option AV :=
  match x with
  | .ptr b off =>
    match P.underlying s with
    | some (.struct fields) =>
      match fields[f]? with
      | some fd => match sizeE P fd.type with
        | some n => if n = 0 then none else some (.ptr b (off + fd.offset))
        | none => none
      | none => none
    | _ => none
  | _ => none
theorem field_ran {V : Vl} {w : World} {s : TypeId} {x y : AV} {f : Nat} {v : Value} (hx : x.is V v) (he : fieldE P s x f = some y) : ∃ u, (Instr.fieldAt s v f).run P w = .ok u w ∧ y.is V u := by
  unfold fieldE at he
  split at he
  · rename_i b off
    obtain ⟨p, hp, rfl⟩ := hx
    split at he
    · rename_i fields hu
      split at he
      · rename_i fd hf
        split at he
        · rename_i n hn
          split at he
          · cases he
          · rename_i hn0
            cases he
            refine ⟨.pointer (some ⟨p.1, off + fd.offset, none⟩), ?_, p, hp, rfl⟩
            unfold Instr.fieldAt
            rw [Sem.run_bind, run_underlying hu w]
            simp only [Result.andThen_ok, hf]
            unfold Instr.sureAddr
            rw [Sem.run_bind]
            show (Sem.bind (fieldPlace ⟨p.1, off, none⟩ fd) _).run P w = _
            rw [← show (fieldPlace ⟨p.1, off, none⟩ fd >>= fun a => pure (Value.pointer (some a))) = Sem.bind (fieldPlace ⟨p.1, off, none⟩ fd) _ from rfl, Sem.run_bind]
            unfold fieldPlace
            rw [Sem.run_bind, run_sizeOf hn]
            simp only [Result.andThen_ok, if_neg hn0, addr_add]
            rfl
        · cases he
      · cases he
    · cases he
  · cases he
/-- an element's address: of a slice, of an array behind a pointer -/
def indexAddrE (P : Program) (t : TypeId) (x : AV) (i : AV) : Option AV :=
  match i with
  | .lit (.int k n) =>
    match n with
    | .ofNat j =>
      match P.underlying t, x with
      | some (.slice e), .sl b off len s cap => if j < len ∧ sizeE P e = some s then some (.ptr b (off + j * s)) else none
      | some (.array len e), .ptr b off => match sizeE P e with
        | some s => if j < len then some (.ptr b (off + j * s)) else none
        | none => none
      | _, _ => none
    | _ => none
  | _ => none
theorem indexAddr_ran {V : Vl} {w : World} {t : TypeId} {x i y : AV} {v u : Value} (hx : x.is V v) (hi : i.is V u) (he : indexAddrE P t x i = some y) : ∃ r, (Instr.indexAt t v u).run P w = .ok r w ∧ y.is V r := by
  unfold indexAddrE at he
  split at he
  · rename_i k n
    obtain rfl : u = .int k n := hi
    split at he
    · rename_i j
      split at he
      · rename_i e b off len s cap hu
        obtain ⟨p, o', c, hp, rfl, hc, hlc, hop, ho⟩ := hx
        split at he
        · rename_i hj
          obtain ⟨hj, hs⟩ := hj
          cases he
          have ho' : o' = off := ho.resolve_right (by omega)
          subst ho'
          refine ⟨.pointer (some ⟨p.1, o' + j * s, none⟩), ?_, p, hp, rfl⟩
          unfold Instr.indexAt asIntOf
          simp only [Sem.run_bind, run_underlying hu w, Result.andThen_ok, Sem.run_pure]
          rw [if_pos ⟨by simp, by simp; omega⟩]
          simp only [Sem.run_bind, run_sizeOf hs, Result.andThen_ok, addr_add]
          rfl
        · cases he
      · rename_i len e b off hu
        obtain ⟨p, hp, rfl⟩ := hx
        split at he
        · rename_i s hs
          split at he
          · rename_i hj
            cases he
            refine ⟨.pointer (some ⟨p.1, off + j * s, none⟩), ?_, p, hp, rfl⟩
            unfold Instr.indexAt asIntOf Instr.sureAddr
            simp only [Sem.run_bind, run_underlying hu w, Result.andThen_ok, Sem.run_pure]
            rw [if_pos ⟨by simp, by simp; omega⟩]
            simp only [Sem.run_bind, run_sizeOf hs, Result.andThen_ok, addr_add]
            rfl
          · cases he
        · cases he
      · cases he
    · cases he
  · cases he
end
section
variable {P : Program}
def intLit : Option AV → Option (Option Nat)
  | none => some none
  | some (.lit (.int _ (.ofNat n))) => some (some n)
  | _ => none
theorem intLit_is {V : Vl} : ∀ {x : Option AV} {r : Option Nat}, intLit x = some r → ∀ {u : Option Value}, (match x, u with | none, none => True | some x, some u => x.is V u | _, _ => False) → (x = none ∧ r = none ∧ u = none) ∨ ∃ k n, r = some n ∧ u = some (.int k (.ofNat n))
  | none, r, h, none, _ => by cases h; exact .inl ⟨rfl, rfl, rfl⟩
  | none, _, _, some _, k => k.elim
  | some _, _, _, none, k => k.elim
  | some x, r, h, some u, k => by
    cases x with
    | lit v =>
      obtain rfl : u = v := k
      cases u with
      | int kk n =>
        cases n with
        | ofNat n => cases h; exact .inr ⟨kk, n, rfl, rfl⟩
        | negSucc n => cases h
      | _ => cases h
    | _ => cases h
def optIs (V : Vl) : Option AV → Option Value → Prop
  | none, none => True
  | some x, some u => x.is V u
  | _, _ => False
theorem run_bound (w : World) (k : IntKind) (n y : Nat) (c : BoundsCode) (h : n ≤ y) : (Instr.sliceBound (.int k (.ofNat n)) y c).run P w = .ok n w := by
  unfold Instr.sliceBound asIntOf
  simp only [Sem.run_bind, Sem.run_pure, Result.andThen_ok]
  rw [if_pos ⟨by simp, by simpa using h⟩]
  simp
theorem run_bounds (w : World) (isS : Bool) (len cap l h : Nat) (lo hi : Option Value)
    (hl : (lo = none ∧ l = 0) ∨ ∃ k, lo = some (.int k (.ofNat l))) (hh : (hi = none ∧ h = len) ∨ ∃ k, hi = some (.int k (.ofNat h))) (h1 : l ≤ h) (h2 : h ≤ cap) :
    (Instr.sliceBounds isS len cap lo hi none).run P w = .ok (l, h, cap) w := by
  unfold Instr.sliceBounds
  rcases hl with ⟨rfl, rfl⟩ | ⟨k, rfl⟩ <;> rcases hh with ⟨rfl, rfl⟩ | ⟨k', rfl⟩ <;>
    simp only [Sem.run_bind, Sem.run_pure, Result.andThen_ok, Option.isSome_none, Bool.false_eq_true, if_false, run_bound w _ _ _ _ h2, run_bound w _ _ _ _ h1]
/-- a part of a slice; of an array behind a pointer -/
def sliceE (P : Program) (t : TypeId) (x : AV) (lo hi mx : Option AV) (m : Mem) : Option (AV × Mem) :=
  match mx, intLit lo, intLit hi with
  | none, some l, some h =>
    match P.underlying t, x with
    | some (.slice e), .sl b off len s cap =>
      if sizeE P e = some s ∧ l.getD 0 ≤ h.getD len ∧ (h.getD len ≤ len ∨ ∃ k, cap = some k ∧ h.getD len ≤ k) then some (.sl b (off + l.getD 0 * s) (h.getD len - l.getD 0) s (cap.map (· - l.getD 0)), m) else none
    | some (.array n e), .ptr b off =>
      match m.get b with
      | some (.cells _ vs _) => match sizeE P e with
        | some s => if l.getD 0 ≤ h.getD n ∧ h.getD n ≤ n ∧ off + n * s ≤ vs.length then some (.sl b (off + l.getD 0 * s) (h.getD n - l.getD 0) s (some (n - l.getD 0)), m.touch b) else none
        | none => none
      | _ => none
    | _, _ => none
  | _, _, _ => none
theorem optLit {V : Vl} {x : Option AV} {r : Option Nat} {u : Option Value} (d : Nat) (h : intLit x = some r) (k : optIs V x u) : (u = none ∧ r.getD d = d) ∨ ∃ kk, u = some (.int kk (.ofNat (r.getD d))) := by
  rcases intLit_is (V := V) h (u := u) (by cases x <;> cases u <;> exact k) with ⟨_, rfl, rfl⟩ | ⟨kk, n, rfl, rfl⟩
  · exact .inl ⟨rfl, rfl⟩
  · exact .inr ⟨kk, rfl⟩
theorem slice_ran {S : Nat → Prop} {V : Vl} {m m' : Mem} {w : World} (h : Sat V S m w) {t : TypeId} {x y : AV} {lo hi mx : Option AV} {v : Value} {lo' hi' mx' : Option Value} (hx : x.is V v) (hlo : optIs V lo lo') (hhi : optIs V hi hi') (hmx : optIs V mx mx') (hS : ∀ b, bit m'.T b → S b) (he : sliceE P t x lo hi mx m = some (y, m')) :
    Ran P S V m w (Instr.sliceAt t v lo' hi' mx') y m' := by
  unfold sliceE at he
  split at he
  · rename_i l hh hl hhh
    obtain rfl : mx' = none := by cases mx' with | none => rfl | some _ => exact hmx.elim
    split at he
    · rename_i e b off len s cap hu
      split at he
      · rename_i hc
        obtain ⟨hc1, hc2, hc3⟩ := hc
        cases he
        obtain ⟨p, o', c, hp, rfl, hck, hlc, hop, ho⟩ := hx
        have hhc : hh.getD len ≤ c := by
          rcases hc3 with h3 | ⟨k, hk, h3⟩
          · omega
          · rw [hck k hk]; exact h3
        refine Ran.same h (v := .slice (if c = l.getD 0 then some ⟨p.1, o', none⟩ else (some (⟨p.1, o', none⟩ : Addr)).map (·.add (l.getD 0 * s))) (hh.getD len - l.getD 0) (c - l.getD 0)) ?_ ?_
        · unfold Instr.sliceAt
          rw [Sem.run_bind, run_underlying hu w]
          simp only [Result.andThen_ok]
          unfold Instr.slice
          rw [Sem.run_bind, run_underlying hu w]
          simp only [Result.andThen_ok]
          rw [Sem.run_bind, run_bounds w true len c (l.getD 0) (hh.getD len) lo' hi' (optLit 0 hl hlo) (optLit len hhh hhi) hc2 hhc]
          simp only [Result.andThen_ok]
          rw [Sem.run_bind, run_sizeOf hc1]
          rfl
        · have hmul : (c - l.getD 0) * s + l.getD 0 * s = c * s := by rw [← Nat.add_mul, Nat.sub_add_cancel (by omega)]
          by_cases hcl : c = l.getD 0
          · rw [if_pos hcl]
            refine ⟨p, o', c - l.getD 0, hp, rfl, fun k hk => ?_, by omega, by omega, .inr (by omega)⟩
            obtain ⟨k0, hk0, rfl⟩ := Option.map_eq_some_iff.1 hk
            rw [hck k0 hk0]
          · rw [if_neg hcl]
            have ho' : o' = off := ho.resolve_right (by omega)
            subst ho'
            refine ⟨p, o' + l.getD 0 * s, c - l.getD 0, hp, by rw [Option.map_some, addr_add], fun k hk => ?_, by omega, by omega, .inl rfl⟩
            obtain ⟨k0, hk0, rfl⟩ := Option.map_eq_some_iff.1 hk
            rw [hck k0 hk0]
      · cases he
    · rename_i n e b off hu
      obtain ⟨p, hp, rfl⟩ := hx
      split at he
      · rename_i elem vs ex hb
        split at he
        · rename_i s hs
          split at he
          · rename_i hc
            obtain ⟨hc1, hc2, hc3⟩ := hc
            cases he
            obtain ⟨p2, C, fr, hp2, hhe, hC, hlp, ha, _⟩ := h.holds b (hS b ((bit_or _ _ _).2 (.inr rfl))) _ hb
            rw [hp] at hp2
            cases hp2
            refine ⟨.slice (some (if n = l.getD 0 then ⟨p.1, off, none⟩ else (⟨p.1, off, none⟩ : Addr).add (l.getD 0 * s))) (hh.getD n - l.getD 0) (n - l.getD 0), w, V, ?_, ?_, Step.touch h b⟩
            · unfold Instr.sliceAt
              rw [Sem.run_bind, run_underlying hu w]
              simp only [Result.andThen_ok]
              unfold Instr.sureAddr
              rw [Sem.run_bind]
              simp only [Sem.run_pure, Result.andThen_ok]
              rw [Sem.run_bind, run_bounds w false n n (l.getD 0) (hh.getD n) lo' hi' (optLit 0 hl hlo) (optLit n hhh hhi) hc1 hc2]
              simp only [Result.andThen_ok]
              rw [Sem.run_bind, run_sizeOf hs]
              rfl
            · have hmul : (n - l.getD 0) * s + l.getD 0 * s = n * s := by rw [← Nat.add_mul, Nat.sub_add_cancel (by omega)]
              by_cases hcl : n = l.getD 0
              · rw [if_pos hcl]
                exact ⟨p, off, n - l.getD 0, hp, rfl, fun k hk => by cases hk; rfl, by omega, by omega, .inr (by omega)⟩
              · rw [if_neg hcl, addr_add]
                exact ⟨p, off + l.getD 0 * s, n - l.getD 0, hp, rfl, fun k hk => by cases hk; rfl, by omega, by omega, .inl rfl⟩
          · cases he
        · cases he
      · cases he
    · cases he
  · cases he
theorem slice_fact {t : TypeId} {x y : AV} {lo hi mx : Option AV} {m m' : Mem} (he : sliceE P t x lo hi mx m = some (y, m')) : Fact m m' := by
  unfold sliceE at he
  split at he
  · split at he
    · split at he
      · cases he; exact Fact.refl m
      · cases he
    · rename_i n e b off hu
      split at he
      · rename_i elem vs ex hb
        have hm : m' = m.touch b := by
          repeat' (split at he)
          all_goals first | (cases he; done) | (cases he; rfl)
        rw [hm]
        exact Fact.touch m _ (by rw [hb]; rfl)
      · cases he
    · cases he
  · cases he

/-- the cells that are copied, and their number of elements: of a slice, a string, nothing -/
def srcE (s : Nat) (x : AV) (m : Mem) : Option (Nat × List AV × Mem) :=
  match x with
  | .sl b off len s' _ => match m.get b with
    | some (.cells _ vs _) => if s' = s ∧ off + len * s ≤ vs.length then some (len, (vs.drop off).take (len * s), m.touch b) else none
    | _ => none
  | .lit (.string str) => if s = 1 then some (str.size, str.data.toList.map (fun c => .lit (.int .u8 c.toNat)), m) else none
  | .lit (.slice none a _) => if a = 0 then some (0, [], m) else none
  | _ => none
def firstsTo (P : Program) (w : World) (s n : Nat) (x : Value) (us : List Value) : Prop := us.length = n * s ∧ ∀ w', w'.heap = w.heap → (Builtin.firstCells s n x).run P w' = .ok us.toArray w'
theorem str_are {V : Vl} (str : ByteArray) : AV.are V (str.data.toList.map (fun c => AV.lit (.int .u8 c.toNat))) (str.data.toList.map (fun c => .int .u8 c.toNat)) := by
  have := are_lits (V := V) (str.data.toList.map (fun c => Value.int .u8 c.toNat))
  rwa [List.map_map] at this
theorem src_ran {S : Nat → Prop} {V : Vl} {m m' : Mem} {w : World} (h : Sat V S m w) {s n : Nat} {x : AV} {v : Value} {l : List AV} (hx : x.is V v) (hS : ∀ b, bit m'.T b → S b) (he : srcE s x m = some (n, l, m')) :
    (∃ us, AV.are V l us ∧ firstsTo P w s n v us ∧ ∀ k, k ≤ n → firstsTo P w s k v (us.take (k * s))) ∧ (∀ w', (Builtin.lenOf v).run P w' = .ok n w') ∧ Step S V m w V m' w := by
  unfold srcE at he
  split at he
  · rename_i b off len s' cap
    split at he
    · rename_i elem vs ex hb
      split at he
      · rename_i hc
        obtain ⟨rfl, hc2⟩ := hc
        cases he
        obtain ⟨p, o', c, hp, rfl, hck, hlc, hop, ho⟩ := hx
        obtain ⟨p2, C, fr, hp2, hhe, hC, hlp, ha, _⟩ := h.holds b (hS b ((bit_or _ _ _).2 (.inr rfl))) _ hb
        rw [hp] at hp2
        cases hp2
        have key : ∀ k, k ≤ n → firstsTo P w s' k (.slice (some ⟨p.1, o', none⟩) n c) ((C.toList.drop off).take (k * s')) := fun k hk => by
          have hks : k * s' ≤ n * s' := Nat.mul_le_mul_right _ hk
          refine ⟨by simp; omega, fun w' hw' => ?_⟩
          show (loadCells ⟨p.1, o', none⟩ (k * s')).run P w' = _
          have hl := run_loadCells_list (P := P) w' ⟨p.1, o', none⟩ ((C.toList.drop off).take (k * s')) (fun j u hu => by
            rw [addr_add, cell_of_row w' p.1 _ C elem fr (by rw [hw']; exact hhe)]
            rw [List.getElem?_take] at hu
            split at hu
            · rename_i hj
              have hne : c ≠ 0 := by
                intro e0
                have : k = 0 := by omega
                rw [this, Nat.zero_mul] at hj
                omega
              rw [List.getElem?_drop, Array.getElem?_toList] at hu
              rw [ho.resolve_right hne]
              exact hu
            · cases hu)
          rw [show ((C.toList.drop off).take (k * s')).length = k * s' by simp; omega] at hl
          exact hl
        refine ⟨⟨(C.toList.drop off).take (n * s'), ?_, key n (Nat.le_refl _), fun k hk => ?_⟩, fun w' => rfl, Step.touch h b⟩
        · have h2 := AV.are_take (n * s') (AV.are_drop off ha)
          rw [List.drop_take, List.take_take, Nat.min_eq_left (by omega)] at h2
          exact h2
        · rw [List.take_take, Nat.min_eq_left (Nat.mul_le_mul_right _ hk)]
          exact key k hk
      · cases he
    · cases he
  · rename_i str
    split at he
    · rename_i hs
      cases he
      obtain rfl : v = .string str := hx
      have key : ∀ k, k ≤ str.size → firstsTo P w s k (.string str) ((str.data.toList.map (fun c => Value.int .u8 c.toNat)).take (k * s)) := fun k hk => by
        rw [hs, Nat.mul_one]
        refine ⟨by simp; exact Nat.min_eq_left hk, fun w' _ => ?_⟩
        show (pure (((str.extract 0 k).data.map fun b => Value.int .u8 b.toNat)) : Sem (Array Value)).run P w' = _
        rw [Sem.run_pure]
        congr 1
        apply Array.ext'
        simp [ByteArray.extract, ByteArray.copySlice, List.map_take]
      refine ⟨⟨_, str_are str, ?_, key⟩, fun w' => rfl, Step.refl h⟩
      have := key str.size (Nat.le_refl _)
      rw [hs, Nat.mul_one, List.take_of_length_le (by simp)] at this
      rw [hs]
      exact this
    · cases he
  · rename_i a c
    split at he
    · rename_i ha
      subst ha
      cases he
      obtain rfl : v = .slice none 0 c := hx
      refine ⟨⟨[], rfl, ⟨by simp, fun w' _ => rfl⟩, fun k hk => ?_⟩, fun w' => rfl, Step.refl h⟩
      obtain rfl : k = 0 := by omega
      exact ⟨by simp, fun w' _ => by rw [List.take_nil]; rfl⟩
    · cases he
  · cases he
theorem src_fact {s n : Nat} {x : AV} {l : List AV} {m m' : Mem} (he : srcE s x m = some (n, l, m')) : Fact m m' := by
  unfold srcE at he
  split at he
  · rename_i b off len s' cap
    split at he
    · rename_i elem vs ex hb
      split at he
      · cases he; exact Fact.touch m _ (by rw [hb]; rfl)
      · cases he
    · cases he
  · split at he
    · cases he; exact Fact.refl m
    · cases he
  · split at he
    · cases he; exact Fact.refl m
    · cases he
  · cases he
def notInt : Option TypeDesc → Bool
  | some (.slice _) | some .string => true
  | _ => false
theorem run_askRoom (n : Nat) (w : World) : (askRoom n).run P w = .ok () w := by
  unfold askRoom
  split <;> rfl
theorem run_append_room2 (w : World) (t tx ty e : TypeId) (i : TypeInfo) (ht : P.underlying t = some (.slice e)) (hi : P.info? e = some i) (htx : notInt (P.underlying tx) = true) (a : Option Addr) (sLen sCap n : Nat) (x : Value) (us : List Value)
    (hn : ∀ w', (Builtin.lenOf x).run P w' = .ok n w') (hu : firstsTo P w i.size n x us) (hroom : sLen + n ≤ sCap) (w1 : World) (hst : (match a with | some a => storeCells (a.add (sLen * i.size)) us | none => pure ()).run P w = .ok () w1) :
    (Builtin.append_ #[t, tx] ty #[.slice a sLen sCap, x]).run P w = .ok (.slice a (sLen + n) sCap) w1 := by
  have hu2 := hu.2 w rfl
  cases hd : P.underlying tx with
  | none => rw [hd] at htx; cases htx
  | some d =>
    rw [hd] at htx
    cases d <;> first
      | (cases htx; done)
      | (cases a <;> simp only [] at hst <;> simp [Builtin.append_, run_underlying ht, run_underlying hd, sizeOf, typeInfo, hi, hn, hroom, hu2, hst] <;> (try (simp [Sem.run_pure] at hst; exact hst)))
theorem run_append_grow2 (w : World) (t tx ty e : TypeId) (i : TypeInfo) (z : Value) (ht : P.underlying t = some (.slice e)) (hi : P.info? e = some i) (hz : i.zero = some z) (htx : notInt (P.underlying tx) = true) (a : Option Addr) (sLen sCap n : Nat) (x : Value) (os us : List Value)
    (hn : ∀ w', (Builtin.lenOf x).run P w' = .ok n w') (hu : firstsTo P w i.size n x us) (ho : firstsTo P w i.size sLen (.slice a sLen sCap) os) (hroom : sCap < sLen + n) (h1 : sLen + n ≤ 1099511627776) (h2 : (sLen + n) * i.bytes ≤ 140737488355328) :
    (Builtin.append_ #[t, tx] ty #[.slice a sLen sCap, x]).run P w = .ok (.slice (some ⟨w.heap.size, 0, none⟩) (sLen + n) (grownCap w (sLen + n) sCap e)) (w.drew.alloc (.cells (os ++ us ++ (Builtin.zeroCells z.cells (grownCap w (sLen + n) sCap e - (sLen + n))).toList).toArray e)) := by
  have hu2 := hu.2 w.drew rfl
  have ho2 := ho.2 w.drew rfl
  have hfit := growslice_fits (need := sLen + n) (old := sCap) (bytes := i.bytes) (by omega) h2
  have hf2 : ¬ (281474976710656 < Builtin.nextslicecap (sLen + n) sCap * i.bytes) := by omega
  have hmax : ¬ ((9223372036854775807 : Int) < ((sLen : Int) + (n : Int))) := by omega
  have hfo : (Question.appendCap (sLen + n) sCap e).forced = false := rfl
  have hnr : ¬ (sLen + n ≤ sCap) := by omega
  cases hd : P.underlying tx with
  | none => rw [hd] at htx; cases htx
  | some d =>
    rw [hd] at htx
    cases d <;> first
      | (cases htx; done)
      | (simp [Builtin.append_, run_underlying ht, run_underlying hd, sizeOf, typeInfo, hi, hn, hnr, hmax, hf2, hu2, ho2, hfo, run_askRoom, zeroValue, hz, grownCap]; rw [run_newRow]; refine congrArg (Result.ok _) (congrArg (World.alloc w.drew) (congrArg (fun A => Obj.cells A e (0, 0)) ?_)); apply Array.ext'; simp)
/-- a block is given up, and a new number is its own -/
def Mem.move (m : Mem) (b : Nat) (k : AB) : Mem := (m.write b none).new k
theorem Step.move {S : Nat → Prop} {V : Vl} {m : Mem} {w w' : World} (h : Sat V S m w) (hf : V m.next = none) (b : Nat) (hb : S b) (k k' : AB) (hk : m.get b = some k) (p : Nat × Nat) (hp : V b = some p)
    (hos : w'.os = w.os) (htape : w'.tape = w.tape) (hout : w'.output = w.output) (hsz : w'.heap.size = w.heap.size) (hoth : ∀ i, i ≠ p.1 → w'.heap[i]? = w.heap[i]?) (hh : Holds (V.with m.next p) w' m.next k') :
    Step S V m w (V.with m.next p) (m.move b k') w' := by
  have hle := Vl.with_le hf p
  have hbn : b ≠ m.next := fun e => by rw [e, hf] at hp; cases hp
  have hget : ∀ c, (m.move b k').get c = if c = m.next then some k' else if c = b then none else m.get c := fun c => by
    unfold Mem.move
    rw [Mem.get_new, Mem.get_write]; rfl
  have hnn : (m.move b k').next = m.next + 1 := rfl
  have hin : ∀ c, plus S m (m.move b k') c → c ≠ m.next → S c := fun c hc hn => hc.resolve_right (fun x => by have := x.1; have := x.2; rw [hnn] at this; omega)
  have hpl : p.1 < w.heap.size := by
    obtain ⟨q, hq, hl⟩ := (h.holds b hb k hk).at
    rw [hp] at hq; cases hq; exact hl
  refine ⟨fun c hc => if_neg (fun e => hc ⟨by omega, by rw [hnn]; omega⟩), ⟨fun c hc l hl => ?_, fun c d hc hd hcd l l' q r hl hl' hq hr => ?_⟩, ⟨hos, htape, hout, by omega, fun i hi hs => hoth i (fun e => hs b p hb hp e.symm)⟩, fun c q hc hq => ?_⟩
  · rw [hget] at hl
    split at hl
    · rename_i e; subst e; cases hl; exact hh
    · rename_i e
      split at hl
      · cases hl
      · rename_i e2
        have hS := hin c hc e
        have h1 := h.holds c hS l hl
        refine (h1.mono hle).heap (fun q hq => ?_)
        have hq2 : V c = some q := by rw [← hq]; exact (if_neg e).symm
        exact hoth _ (h.apart c b hS hb e2 l k q p hl hk hq2 hp)
  · rw [hget] at hl hl'
    have aux : ∀ (c : Nat) (l : AB) (q : Nat × Nat), plus S m (m.move b k') c → c ≠ m.next → (if c = m.next then some k' else if c = b then none else m.get c) = some l → V.with m.next p c = some q → S c ∧ V c = some q ∧ m.get c = some l ∧ c ≠ b := fun c l q hc e hl hq => by
      rw [if_neg e] at hl
      split at hl
      · cases hl
      · rename_i e2
        exact ⟨hin c hc e, by rw [← hq]; exact (if_neg e).symm, hl, e2⟩
    by_cases e : c = m.next
    · by_cases e' : d = m.next
      · exact absurd (e.trans e'.symm) hcd
      · obtain ⟨hSd, hVd, hgd, hdb⟩ := aux d l' r hd e' hl' hr
        have hq2 : some p = some q := by rw [← hq, e]; exact (if_pos rfl).symm
        cases hq2
        exact (h.apart d b hSd hb hdb l' k r p hgd hk hVd hp).symm
    · obtain ⟨hSc, hVc, hgc, hcb⟩ := aux c l q hc e hl hq
      by_cases e' : d = m.next
      · have hr2 : some p = some r := by rw [← hr, e']; exact (if_pos rfl).symm
        cases hr2
        exact h.apart c b hSc hb hcb l k q p hgc hk hVc hp
      · obtain ⟨hSd, hVd, hgd, hdb⟩ := aux d l' r hd e' hl' hr
        exact h.apart c d hSc hSd hcd l l' q r hgc hgd hVc hVd
  · have e : c = m.next := by have h1 := hc.1; have h2 := hc.2; rw [hnn] at h2; omega
    have hq2 : some p = some q := by rw [← hq, e]; exact (if_pos rfl).symm
    cases hq2
    exact .inr ⟨b, p, hb, hp, rfl⟩
theorem Fact.move (m : Mem) (b : Nat) (k : AB) (h : (m.get b).isSome = true) : Fact m (m.move b k) := (Fact.write m b none h).trans (Fact.new _ k)
/-- append -/
def appendE (P : Program) (t tx : TypeId) (s x : AV) (m : Mem) : Option (AV × Mem) :=
  match P.underlying t with
  | some (.slice e) =>
    match P.info? e with
    | some i =>
      match i.zero with
      | some z =>
        if notInt (P.underlying tx) = true ∧ z.cells.size = i.size then
          match srcE i.size x m with
          | some (n, X, m1) =>
            if X.all AV.one = true then
              match s with
              | .lit (.slice none a c) =>
                if a = 0 ∧ c = 0 ∧ n ≤ 1099511627776 ∧ n * i.bytes ≤ 140737488355328 then
                  if n = 0 then some (s, m1) else some (.sl m1.next 0 n i.size none, m1.new (.cells e X false))
                else none
              | .sl b off len sz cap =>
                if sz = i.size ∧ len + n ≤ 1099511627776 ∧ (len + n) * i.bytes ≤ 140737488355328 then
                  if n = 0 then some (s, m1) else
                  match m1.get b with
                  | some (.cells e' vs ex) =>
                    if off + len * sz ≤ vs.length then
                      match cap with
                      | some k =>
                        if len + n ≤ k then some (.sl b off (len + n) sz cap, m1.write b (some (.cells e' (over vs (off + len * sz) X) ex)))
                        else some (.sl m1.next 0 (len + n) sz none, (m1.touch b).new (.cells e ((vs.drop off).take (len * sz) ++ X) false))
                      | none => if off = 0 ∧ e' = e then some (.sl m1.next 0 (len + n) sz none, m1.move b (.cells e (vs.take (len * sz) ++ X) false)) else none
                    else none
                  | _ => none
                else none
              | _ => none
            else none
          | none => none
        else none
      | none => none
    | none => none
  | _ => none
end
section
variable {P : Program}
theorem append_fact {t tx : TypeId} {s x y : AV} {m m' : Mem} (he : appendE P t tx s x m = some (y, m')) : Fact m m' := by
  unfold appendE at he
  split at he
  · split at he
    · split at he
      · split at he
        · split at he
          · rename_i n X m1 hsrc
            have h1 := src_fact hsrc
            split at he
            · split at he
              · split at he
                · split at he
                  · cases he; exact h1
                  · cases he; exact h1.trans (Fact.new _ _)
                · cases he
              · rename_i b off len sz cap
                split at he
                · split at he
                  · cases he; exact h1
                  · split at he
                    · rename_i e' vs ex hb
                      have hbs : (m1.get b).isSome = true := by rw [hb]; rfl
                      split at he
                      · split at he
                        · split at he
                          · cases he; exact h1.trans (Fact.write _ _ _ hbs)
                          · cases he; exact h1.trans ((Fact.touch _ _ hbs).trans (Fact.new _ _))
                        · split at he
                          · cases he; exact h1.trans (Fact.move _ _ _ hbs)
                          · cases he
                      · cases he
                    · cases he
                · cases he
              · cases he
            · cases he
          · cases he
        · cases he
      · cases he
    · cases he
  · cases he
theorem Ran.after {S : Nat → Prop} {V : Vl} {m m1 m2 : Mem} {w : World} {s : Sem Value} {x : AV} (h1 : Step S V m w V m1 w) (hn : m1.next = m.next) (hn2 : m1.next ≤ m2.next) (h : Ran P S V m1 w s x m2) : Ran P S V m w s x m2 := by
  obtain ⟨v, w', V', h2, h3, h4⟩ := h
  refine ⟨v, w', V', h2, h3, Step.trans (by omega) hn2 h1 ?_⟩
  have e : plus S m m1 = S := by
    funext b; unfold plus born; rw [eq_iff_iff]
    exact ⟨fun x => x.resolve_right (by omega), .inl⟩
  rw [e]; exact h4
theorem Step.plain {S : Nat → Prop} {V : Vl} {m m1 : Mem} {w : World} (h : Step S V m w V m1 w) : Sat V S m1 w := ⟨fun b hb => h.sat.holds b (.inl hb), fun b c hb hc => h.sat.apart b c (.inl hb) (.inl hc)⟩
theorem Step.drew {S : Nat → Prop} {V V' : Vl} {m m1 : Mem} {w w' : World} (h : Step S V m w.drew V' m1 w') : Step S V m w V' m1 w' := ⟨h.keeps, h.sat, ⟨h.fr.os, h.fr.tape, h.fr.output, h.fr.size, h.fr.block⟩, h.fresh⟩
theorem Sat.drew {V : Vl} {S : Nat → Prop} {m : Mem} {w : World} (h : Sat V S m w) : Sat V S m w.drew := ⟨fun b hb k hk => (h.holds b hb k hk).heap (fun _ _ => rfl), h.apart⟩
theorem Step.kill {S : Nat → Prop} {V : Vl} {m : Mem} {w : World} (h : Sat V S m w) (b : Nat) : Step S V m w V (m.write b none) w := by
  have hr := Step.refl h
  refine ⟨hr.keeps, ⟨fun c hc k hk => ?_, fun c d hc hd hcd k l p q hk hl => ?_⟩, hr.fr, hr.fresh⟩
  · rw [Mem.get_write] at hk
    split at hk
    · cases hk
    · exact hr.sat.holds c hc k hk
  · rw [Mem.get_write] at hk hl
    split at hk
    · cases hk
    · split at hl
      · cases hl
      · exact hr.sat.apart c d hc hd hcd k l p q hk hl
/-- the row that append makes -/
theorem grow_step {S : Nat → Prop} {V : Vl} {m : Mem} {w : World} (h : Sat V S m w) (hf : V m.next = none) (e : TypeId) (z : Value) (size need cap : Nat) (hz : z.cells.size = size) (l : List AV) (os us : List Value) (hl : AV.are V l (os ++ us)) (hlen : (os ++ us).length = need * size) (hcap : need ≤ cap) :
    ∃ V', Step S V m w V' (m.new (.cells e l false)) (w.drew.alloc (.cells (os ++ us ++ (Builtin.zeroCells z.cells (cap - need)).toList).toArray e)) ∧ (AV.sl m.next 0 need size none).is V' (.slice (some ⟨w.heap.size, 0, none⟩) need cap) := by
  have hstep := Step.row (w := w.drew) h.drew hf e l (os ++ us) (Builtin.zeroCells z.cells (cap - need)).toList false hl (fun hh => by cases hh)
  refine ⟨_, hstep.drew, (w.heap.size, (os ++ us ++ (Builtin.zeroCells z.cells (cap - need)).toList).length), 0, cap, if_pos rfl, rfl, ?_⟩
  refine ⟨fun k hk => (by cases hk), hcap, ?_, .inl rfl⟩
  rw [Nat.zero_add]
  show cap * size ≤ (os ++ us ++ (Builtin.zeroCells z.cells (cap - need)).toList).length
  rw [List.length_append, hlen, Array.length_toList, size_zeroCells, hz, ← Nat.add_mul]
  exact Nat.mul_le_mul_right _ (by omega)
theorem append_ran {S : Nat → Prop} {V : Vl} {m m' : Mem} {w : World} (h : Sat V S m w) {t tx ty : TypeId} {s x y : AV} {v u : Value} (hs : s.is V v) (hx : x.is V u) (hS : ∀ b, bit m'.T b → S b) (hf : Free V m m') (he : appendE P t tx s x m = some (y, m')) :
    Ran P S V m w (Builtin.append_ #[t, tx] ty #[v, u]) y m' := by
  have hfact := append_fact he
  unfold appendE at he
  split at he
  case h_2 => cases he
  rename_i e ht
  split at he
  case h_2 => cases he
  rename_i i hi
  split at he
  case h_2 => cases he
  rename_i z hz
  split at he
  case isFalse => cases he
  rename_i htx
  obtain ⟨htx, hzs⟩ := htx
  split at he
  case h_2 => cases he
  rename_i n X m1 hsrc
  split at he
  case isFalse => cases he
  rename_i hones
  have hn1 : m1.next = m.next := by
    unfold srcE at hsrc
    repeat' (split at hsrc)
    all_goals first | (cases hsrc; done) | (cases hsrc; rfl)
  split at he
  · rename_i a c
    obtain rfl : v = .slice none a c := hs
    split at he
    case isFalse => cases he
    rename_i hc
    obtain ⟨rfl, rfl, hb1, hb2⟩ := hc
    split at he
    · rename_i hn0
      subst hn0
      cases he
      obtain ⟨⟨us, hus, hfirst, _⟩, hlen, hst⟩ := src_ran h hx hS hsrc
      exact ⟨_, w, V, run_append_room2 (P := P) w t tx ty e i ht hi htx none 0 0 0 u us hlen hfirst (by omega) w rfl, rfl, hst⟩
    · rename_i hn0
      cases he
      obtain ⟨⟨us, hus, hfirst, _⟩, hlen, hst⟩ := src_ran (m' := m1) h hx hS hsrc
      refine Ran.after hst hn1 (Nat.le_succ _) ?_
      have hf1 : V m1.next = none := hf m1.next ⟨by omega, Nat.lt_succ_self _⟩
      have hr := run_append_grow2 (P := P) w t tx ty e i z ht hi hz htx none 0 0 n u [] us hlen hfirst ⟨by simp, fun w' _ => rfl⟩ (by omega) (by omega) (by rw [Nat.zero_add]; exact hb2)
      simp only [Nat.zero_add] at hr
      obtain ⟨V', hst', hy⟩ := grow_step (cap := grownCap w n 0 e) hst.plain hf1 e z i.size n hzs X [] us hus hfirst.1 (grownCap_ge w n 0 e)
      exact ⟨_, _, V', hr, hy, hst'⟩
  · rename_i b off len sz cap
    split at he
    case isFalse => cases he
    rename_i hc
    obtain ⟨rfl, hb1, hb2⟩ := hc
    have hs' := hs
    obtain ⟨p, o', c, hp, rfl, hck, hlc, hop, ho⟩ := hs'
    split at he
    · rename_i hn0
      subst hn0
      cases he
      obtain ⟨⟨us, hus, hfirst, _⟩, hlen, hst⟩ := src_ran h hx hS hsrc
      have hus0 : us = [] := List.eq_nil_of_length_eq_zero (by simpa using hfirst.1)
      subst hus0
      exact ⟨_, w, V, run_append_room2 (P := P) w t tx ty e i ht hi htx (some ⟨p.1, o', none⟩) len c 0 u [] hlen hfirst (by omega) w rfl, hs, hst⟩
    · rename_i hn0
      split at he
      case h_2 => cases he
      rename_i e' vs ex hb
      split at he
      case isFalse => cases he
      rename_i hk
      -- the old cells
      have old : ∀ {V : Vl} {w : World}, Sat V S m1 w → S b → V b = some p → ∃ C fr, w.heap[p.1]? = some (.cells C e' fr) ∧ C.size = p.2 ∧ vs.length ≤ p.2 ∧ AV.are V vs (C.toList.take vs.length) ∧ (ex = true → p.2 = vs.length) ∧ (fr.1 = fr.2 ∨ p.2 ≤ fr.1) := fun hsat hSb hpb => by
        obtain ⟨p2, C, fr, hp2, h1, h2, h3, h4, h5, h6⟩ := hsat.holds b hSb _ hb
        rw [hpb] at hp2; cases hp2
        exact ⟨C, fr, h1, h2, h3, h4, h5, h6⟩
      have olds : ∀ {C : Array Value} {fr : Nat × Nat}, w.heap[p.1]? = some (.cells C e' fr) → C.size = p.2 → vs.length ≤ p.2 → firstsTo P w i.size len (.slice (some ⟨p.1, o', none⟩) len c) ((C.toList.drop off).take (len * i.size)) := fun {C fr} hh hC hlp => by
        refine ⟨by simp; omega, fun w' hw' => ?_⟩
        show (loadCells ⟨p.1, o', none⟩ (len * i.size)).run P w' = _
        have hl := run_loadCells_list (P := P) w' ⟨p.1, o', none⟩ ((C.toList.drop off).take (len * i.size)) (fun j u hu => by
          rw [addr_add, cell_of_row w' p.1 _ C e' fr (by rw [hw']; exact hh)]
          rw [List.getElem?_take] at hu
          split at hu
          · rename_i hj
            have hne : c ≠ 0 := by
              intro e0
              have : len = 0 := by omega
              rw [this, Nat.zero_mul] at hj
              omega
            rw [List.getElem?_drop, Array.getElem?_toList] at hu
            rw [ho.resolve_right hne]
            exact hu
          · cases hu)
        rw [show ((C.toList.drop off).take (len * i.size)).length = len * i.size by simp; omega] at hl
        exact hl
      split at he
      · rename_i k
        obtain rfl : c = k := hck k rfl
        split at he
        · rename_i hroom
          cases he
          have hSb : S b := hS b ((bit_or _ _ _).2 (.inr rfl))
          obtain ⟨⟨us, hus, hfirst, _⟩, hlen, hst⟩ := src_ran (m' := m1) h hx (fun x hx => hS x ((bit_or _ _ _).2 (.inl hx))) hsrc
          refine Ran.after hst hn1 (Nat.le_refl _) ?_
          have ho' : o' = off := ho.resolve_right (by omega)
          subst ho'
          have hXl := AV.are_length hus
          have hmul : len * i.size + n * i.size ≤ c * i.size := by rw [← Nat.add_mul]; exact Nat.mul_le_mul_right _ hroom
          obtain ⟨p2, hp2, hstore⟩ := Step.cells (P := P) hst.plain hSb hb (o' + len * i.size) hus hk (fun q hq => by rw [hp] at hq; cases hq; rw [← hXl, hfirst.1]; omega) (AV.ones hones hus)
          rw [hp] at hp2
          cases hp2
          obtain ⟨w', hw', hst'⟩ := hstore 0 (o' + len * i.size) (by omega)
          refine ⟨_, w', V, run_append_room2 (P := P) w t tx ty e i ht hi htx (some ⟨p.1, o', none⟩) len c n u us hlen hfirst hroom w' (by simp only [addr_add]; exact hw'), ?_, hst'⟩
          exact ⟨p, o', c, hp, rfl, hck, hroom, hop, .inl rfl⟩
        · rename_i hroom
          cases he
          have hSb : S b := hS b ((bit_or _ _ _).2 (.inr rfl))
          obtain ⟨⟨us, hus, hfirst, _⟩, hlen, hst⟩ := src_ran (m' := m1) h hx (fun x hx => hS x ((bit_or _ _ _).2 (.inl hx))) hsrc
          refine Ran.after hst hn1 (Nat.le_succ _) ?_
          obtain ⟨C, fr, hh, hC, hlp, ha, _⟩ := old hst.plain hSb hp
          have hf1 : V m1.next = none := hf m1.next ⟨by omega, Nat.lt_succ_self _⟩
          have hr := run_append_grow2 (P := P) w t tx ty e i z ht hi hz htx (some ⟨p.1, o', none⟩) len c n u _ us hlen hfirst (olds hh hC hlp) (by omega) (by omega) hb2
          have hare : AV.are V ((vs.drop off).take (len * i.size) ++ X) ((C.toList.drop off).take (len * i.size) ++ us) := by
            refine AV.are_append ?_ hus
            have h2 := AV.are_take (len * i.size) (AV.are_drop off ha)
            rw [List.drop_take, List.take_take, Nat.min_eq_left (by omega)] at h2
            exact h2
          obtain ⟨V', hst', hy⟩ := grow_step (m := m1.touch b) (cap := grownCap w (len + n) c e) (hst.plain.touch b) hf1 e z i.size (len + n) hzs _ _ us hare (by rw [List.length_append, hfirst.1, (olds hh hC hlp).1, Nat.add_mul]) (grownCap_ge w (len + n) c e)
          exact ⟨_, _, V', hr, hy, Step.trans (b := m1.touch b) (Nat.le_refl _) (Nat.le_succ _) (Step.touch hst.plain b) (by
            have e2 : plus S m1 (m1.touch b) = S := by
              funext x; unfold plus born; rw [eq_iff_iff]
              exact ⟨fun x => x.resolve_right (by show ¬ (_ ∧ _ < m1.next); omega), .inl⟩
            rw [e2]; exact hst')⟩
      · split at he
        case isFalse => cases he
        rename_i hoe
        obtain ⟨rfl, rfl⟩ := hoe
        cases he
        have hSb : S b := hS b ((bit_or _ _ _).2 (.inr rfl))
        obtain ⟨⟨us, hus, hfirst, _⟩, hlen, hst⟩ := src_ran (m' := m1) h hx (fun x hx => hS x ((bit_or _ _ _).2 (.inl hx))) hsrc
        refine Ran.after hst hn1 (Nat.le_succ _) ?_
        obtain ⟨C, fr, hh, hC, hlp, ha, hex, hfr⟩ := old hst.plain hSb hp
        have hf1 : V m1.next = none := hf m1.next ⟨by omega, Nat.lt_succ_self _⟩
        have hXl := AV.are_length hus
        rw [Nat.zero_add] at hk
        have hfirst1 := hfirst.1
        by_cases hroom : len + n ≤ c
        · -- in place
          have ho' : o' = 0 := ho.resolve_right (by omega)
          subst ho'
          have hmul : len * i.size + n * i.size ≤ c * i.size := by rw [← Nat.add_mul]; exact Nat.mul_le_mul_right _ hroom
          have hrun := run_storeCells_fr (P := P) p.1 (len * i.size) e' fr us 0 C w hh (by omega) (fun j hj => thawed hfr j (by omega)) (AV.ones hones hus)
          rw [Nat.add_zero] at hrun
          refine ⟨_, _, V.with m1.next p, run_append_room2 (P := P) w t tx ty e' i ht hi htx (some ⟨p.1, 0, none⟩) len c n u us hlen hfirst hroom _ (by simp only [addr_add, Nat.zero_add]; exact hrun), ⟨p, 0, c, Vl.with_same _ _ _, rfl, fun k hk => (by cases hk), hroom, by omega, .inl rfl⟩, ?_⟩
          refine Step.move hst.plain hf1 b hSb _ _ hb p hp rfl rfl rfl (by simp [World.setRow]) (fun j hj => setRow_other w p.1 _ j hj) ?_
          refine ⟨p, _, fr, Vl.with_same _ _ _, setRow_heap w p.1 C _ e' fr hh, ?_, ?_, ?_, (by intro hh; cases hh), hfr⟩
          · have := over_length C.toList (len * i.size) us (by simp; omega)
            simp only [List.size_toArray]
            exact this.trans (by simp [hC])
          · rw [List.length_append, List.length_take]; omega
          · have e3 : (vs.take (len * i.size) ++ X).length = len * i.size + us.length := by rw [List.length_append, List.length_take]; omega
            rw [e3]
            show AV.are _ _ (((C.toList.take (len * i.size) ++ us) ++ C.toList.drop (len * i.size + us.length)).take (len * i.size + us.length))
            rw [List.take_left' (by rw [List.length_append, List.length_take, Array.length_toList]; omega)]
            refine AV.are.mono (Vl.with_le hf1 p) (AV.are_append ?_ hus)
            have h2 := AV.are_take (len * i.size) ha
            rw [List.take_take, Nat.min_eq_left (by omega)] at h2
            exact h2
        · -- a new row
          have hr := run_append_grow2 (P := P) w t tx ty e' i z ht hi hz htx (some ⟨p.1, o', none⟩) len c n u _ us hlen hfirst (olds hh hC hlp) (by omega) (by omega) hb2
          rw [List.drop_zero] at hr
          have hare : AV.are V (vs.take (len * i.size) ++ X) (C.toList.take (len * i.size) ++ us) := by
            refine AV.are_append ?_ hus
            have h2 := AV.are_take (len * i.size) ha
            rw [List.take_take, Nat.min_eq_left (by omega)] at h2
            exact h2
          have hlen2 : (C.toList.take (len * i.size) ++ us).length = (len + n) * i.size := by rw [List.length_append, List.length_take, Array.length_toList, hfirst1, Nat.add_mul]; omega
          obtain ⟨V', hst', hy⟩ := grow_step (m := m1.write b none) (cap := grownCap w (len + n) c e') (Step.kill hst.plain b).plain hf1 e' z i.size (len + n) hzs _ _ us hare hlen2 (grownCap_ge w (len + n) c e')
          exact ⟨_, _, V', hr, hy, Step.trans (b := m1.write b none) (Nat.le_refl _) (Nat.le_succ _) (Step.kill hst.plain b) (by
            have e2 : plus S m1 (m1.write b none) = S := by
              funext x; unfold plus born; rw [eq_iff_iff]
              exact ⟨fun x => x.resolve_right (by show ¬ (_ ∧ _ < m1.next); omega), .inl⟩
            rw [e2]; exact hst')⟩
  · cases he
/-- append(nil, make([]T, n)...): the number stands for the zeros -/
def appendZE (P : Program) (t tn : TypeId) (s x : AV) (m : Mem) : Option (AV × Mem) :=
  match P.underlying t, P.underlying tn with
  | some (.slice e), some (.int _) =>
    match P.info? e with
    | some i => match i.zero with
      | some z => match s, x with
        | .lit (.slice none 0 0), .lit (.int kq (.ofNat n)) =>
          if 0 < n ∧ 0 < i.size ∧ z.cells.size = i.size ∧ n ≤ 4611686018427387904 ∧ n * i.bytes ≤ 281474976710656 ∧ Builtin.nextslicecap n 0 * i.bytes ≤ 281474976710656 then
            some (.sl m.next 0 n i.size none, m.new (.cells e ((Builtin.zeroCells z.cells n).toList.map .lit) false))
          else none
        | _, _ => none
      | none => none
    | none => none
  | _, _ => none
theorem appendZ_fact {t tx : TypeId} {s x y : AV} {m m' : Mem} (he : appendZE P t tx s x m = some (y, m')) : Fact m m' := by
  unfold appendZE at he
  repeat' (split at he)
  all_goals first | (cases he; done) | (cases he; exact Fact.new _ _)
theorem appendZ_ran {S : Nat → Prop} {V : Vl} {m m' : Mem} {w : World} (h : Sat V S m w) {t tx ty : TypeId} {s x y : AV} {v u : Value} (hs : s.is V v) (hx : x.is V u) (hf : Free V m m') (he : appendZE P t tx s x m = some (y, m')) :
    Ran P S V m w (Builtin.append_ #[t, tx] ty #[v, u]) y m' := by
  unfold appendZE at he
  split at he
  case h_2 => cases he
  rename_i e kn ht htn
  split at he
  case h_2 => cases he
  rename_i i hi
  split at he
  case h_2 => cases he
  rename_i z hz
  split at he
  case h_2 => cases he
  rename_i kq n
  split at he
  case isFalse => cases he
  rename_i hc
  obtain ⟨h0, hsz, hzs, h63, h48, hfit⟩ := hc
  cases he
  obtain rfl : v = .slice none 0 0 := hs
  obtain rfl : u = .int kq (Int.ofNat n) := hx
  have hr := Lib.run_append_grow_zeros (P := P) w t tx ty e i z kq kn ht htn hi hz none 0 0 [] (run_firstCells_none w.drew i.size 0 0 0) n h0 hsz (by omega) (by omega) h48 (by rw [Nat.zero_add]; exact hfit)
  simp only [Nat.zero_add] at hr
  obtain ⟨V', hst', hy⟩ := grow_step (cap := grownCap w n 0 e) h (hf m.next ⟨Nat.le_refl _, Nat.lt_succ_self _⟩) e z i.size n hzs ((Builtin.zeroCells z.cells n).toList.map .lit) [] (Builtin.zeroCells z.cells n).toList (are_lits _) (by rw [List.nil_append, Array.length_toList, size_zeroCells, hzs]) (grownCap_ge w n 0 e)
  refine ⟨_, _, V', ?_, hy, hst'⟩
  rw [show (Int.ofNat n) = (n : Int) from rfl, hr]
  congr 3
  apply Array.ext'
  simp
/-- append, of whatever kind -/
def appendA (P : Program) (t tx : TypeId) (s x : AV) (m : Mem) : Option (AV × Mem) :=
  match appendE P t tx s x m with
  | some r => some r
  | none => appendZE P t tx s x m
theorem appendA_fact {t tx : TypeId} {s x y : AV} {m m' : Mem} (he : appendA P t tx s x m = some (y, m')) : Fact m m' := by
  unfold appendA at he
  split at he
  · rename_i r hr; cases he; exact append_fact hr
  · exact appendZ_fact he
theorem appendA_ran {S : Nat → Prop} {V : Vl} {m m' : Mem} {w : World} (h : Sat V S m w) {t tx ty : TypeId} {s x y : AV} {v u : Value} (hs : s.is V v) (hx : x.is V u) (hS : ∀ b, bit m'.T b → S b) (hf : Free V m m') (he : appendA P t tx s x m = some (y, m')) :
    Ran P S V m w (Builtin.append_ #[t, tx] ty #[v, u]) y m' := by
  unfold appendA at he
  split at he
  · rename_i r hr; cases he; exact append_ran h hs hx hS hf hr
  · exact appendZ_ran h hs hx hf he
end
end Go.Proofs.Ytmomdfmilelilaa.Ev
