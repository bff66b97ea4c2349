/-
  The document's disk on plain lists: files in the order of their names, changes; a view of files by blocks, and what takes a change back. A view of files by blocks, and what takes a change back; the chain of states that loose changes lead back to.
-/
import Derived.Orders
import Derived.Test.YtihbgigledmliaaDkab
namespace Go.Proofs.Ytihbgigledmliaa
set_option linter.unusedVariables false
/-- a change, as the document has it -/
structure DCh where
  kind : Nat
  a : ByteArray
  b : ByteArray
  p : List Nat
abbrev Fls := List (ByteArray × List Nat)
abbrev ltB (a b : ByteArray) : Prop := a.data.toList < b.data.toList
theorem ba_ext {a b : ByteArray} (h : a.data.toList = b.data.toList) : a = b := by
  cases a; cases b
  congr 1
  exact Array.toList_inj.1 h
theorem ltB_irrefl (a : ByteArray) : ¬ ltB a a := List.lt_irrefl _
theorem ltB_trans {a b c : ByteArray} (h : ltB a b) (k : ltB b c) : ltB a c := List.lt_trans h k
theorem ltB_of {a b : ByteArray} (h : ¬ ltB a b) (hn : a ≠ b) : ltB b a := by
  by_cases k : ltB b a
  · exact k
  · exact absurd (ba_ext (List.le_antisymm (List.not_lt.1 k) (List.not_lt.1 h))) hn
def lookF : Fls → ByteArray → Option (List Nat)
  | [], _ => none
  | x :: l, n => if x.1 = n then some x.2 else lookF l n
def withoutF : Fls → ByteArray → Fls
  | [], _ => []
  | x :: l, n => if x.1 = n then withoutF l n else x :: withoutF l n
def withF : Fls → ByteArray × List Nat → Fls
  | [], f => [f]
  | x :: l, f => if ltB f.1 x.1 then f :: x :: l else x :: withF l f
def doF (l : Fls) (c : DCh) : Fls :=
  if c.kind = 0 then withF l (c.a, [])
  else if c.kind = 1 then withF (withoutF l c.a) (c.a, (lookF l c.a).getD [] ++ c.p)
  else if c.kind = 2 then withoutF l c.a
  else withF (withoutF (withoutF l c.a) c.b) (c.b, (lookF l c.a).getD [])
theorem doF0 (l : Fls) (s b : ByteArray) (p : List Nat) : doF l ⟨0, s, b, p⟩ = withF l (s, []) := rfl
theorem doF1 (l : Fls) (s b : ByteArray) (p : List Nat) : doF l ⟨1, s, b, p⟩ = withF (withoutF l s) (s, (lookF l s).getD [] ++ p) := rfl
theorem doF2 (l : Fls) (s b : ByteArray) (p : List Nat) : doF l ⟨2, s, b, p⟩ = withoutF l s := rfl
theorem doF3 (l : Fls) (s b : ByteArray) (p : List Nat) : doF l ⟨3, s, b, p⟩ = withF (withoutF (withoutF l s) b) (b, (lookF l s).getD []) := rfl
def usedF : Fls → Nat
  | [] => 0
  | x :: l => x.2.length + usedF l
def Srt (l : Fls) : Prop := l.Pairwise fun x y => ltB x.1 y.1
theorem lookF_mem : ∀ {l : Fls} {n z}, lookF l n = some z → (n, z) ∈ l
  | [], n, z, h => by cases h
  | x :: l, n, z, h => by
    unfold lookF at h
    split at h
    · rename_i e
      cases h
      subst e
      exact List.mem_cons_self
    · exact List.mem_cons_of_mem _ (lookF_mem h)
theorem lookF_none : ∀ {l : Fls} {n}, lookF l n = none → ∀ x ∈ l, x.1 ≠ n
  | [], n, _, x, hx => by cases hx
  | y :: l, n, h, x, hx => by
    unfold lookF at h
    split at h
    · cases h
    · rename_i e
      rcases List.mem_cons.1 hx with rfl | hx
      · exact e
      · exact lookF_none h x hx
theorem lookF_none_of : ∀ {l : Fls} {n}, (∀ x ∈ l, x.1 ≠ n) → lookF l n = none
  | [], n, _ => rfl
  | y :: l, n, h => by
    unfold lookF
    rw [if_neg (h y List.mem_cons_self)]
    exact lookF_none_of fun x hx => h x (List.mem_cons_of_mem _ hx)
theorem lookF_of_mem : ∀ {l : Fls} {x}, Srt l → x ∈ l → lookF l x.1 = some x.2
  | [], x, _, h => by cases h
  | y :: l, x, hs, h => by
    unfold lookF
    rcases List.mem_cons.1 h with rfl | h
    · rw [if_pos rfl]
    · have hlt := (List.pairwise_cons.1 hs).1 x h
      rw [if_neg fun e => ltB_irrefl x.1 (by rw [e] at hlt; exact hlt)]
      exact lookF_of_mem (List.pairwise_cons.1 hs).2 h
theorem mem_withF {f : ByteArray × List Nat} : ∀ {l : Fls} {x}, x ∈ withF l f ↔ x = f ∨ x ∈ l
  | [], x => by simp [withF]
  | y :: l, x => by
    unfold withF
    split
    · simp
    · rw [List.mem_cons, mem_withF, List.mem_cons]
      constructor
      · rintro (h | h | h)
        · exact .inr (.inl h)
        · exact .inl h
        · exact .inr (.inr h)
      · rintro (h | h | h)
        · exact .inr (.inl h)
        · exact .inl h
        · exact .inr (.inr h)
theorem mem_withoutF {n : ByteArray} : ∀ {l : Fls} {x}, x ∈ withoutF l n ↔ x ∈ l ∧ x.1 ≠ n
  | [], x => by simp [withoutF]
  | y :: l, x => by
    unfold withoutF
    split
    · rename_i e
      rw [mem_withoutF, List.mem_cons]
      constructor
      · rintro ⟨h, k⟩
        exact ⟨.inr h, k⟩
      · rintro ⟨h | h, k⟩
        · subst h; exact absurd e k
        · exact ⟨h, k⟩
    · rename_i e
      rw [List.mem_cons, mem_withoutF, List.mem_cons]
      constructor
      · rintro (h | ⟨h, k⟩)
        · subst h; exact ⟨.inl rfl, e⟩
        · exact ⟨.inr h, k⟩
      · rintro ⟨h | h, k⟩
        · exact .inl h
        · exact .inr ⟨h, k⟩
theorem srt_with {f : ByteArray × List Nat} : ∀ {l : Fls}, Srt l → (∀ x ∈ l, x.1 ≠ f.1) → Srt (withF l f)
  | [], _, _ => by simp [withF, Srt]
  | y :: l, hs, hn => by
    obtain ⟨h1, h2⟩ := List.pairwise_cons.1 hs
    unfold withF
    split
    · rename_i hlt
      refine List.pairwise_cons.2 ⟨fun x hx => ?_, hs⟩
      rcases List.mem_cons.1 hx with rfl | hx
      · exact hlt
      · exact ltB_trans hlt (h1 x hx)
    · rename_i hlt
      refine List.pairwise_cons.2 ⟨fun x hx => ?_, srt_with h2 fun x hx => hn x (List.mem_cons_of_mem _ hx)⟩
      rcases mem_withF.1 hx with rfl | hx
      · exact ltB_of hlt (hn y List.mem_cons_self).symm
      · exact h1 x hx
theorem srt_without {n : ByteArray} : ∀ {l : Fls}, Srt l → Srt (withoutF l n)
  | [], _ => List.Pairwise.nil
  | y :: l, hs => by
    obtain ⟨h1, h2⟩ := List.pairwise_cons.1 hs
    unfold withoutF
    split
    · exact srt_without h2
    · exact List.pairwise_cons.2 ⟨fun x hx => h1 x (mem_withoutF.1 hx).1, srt_without h2⟩
theorem look_with {f : ByteArray × List Nat} (n : ByteArray) : ∀ {l : Fls}, lookF l f.1 = none → lookF (withF l f) n = if n = f.1 then some f.2 else lookF l n
  | [], _ => by
    simp only [withF, lookF]
    by_cases e : n = f.1
    · rw [if_pos e.symm, if_pos e]
    · rw [if_neg fun h => e h.symm, if_neg e]
  | y :: l, h => by
    have hy : y.1 ≠ f.1 := lookF_none h y List.mem_cons_self
    have hl : lookF l f.1 = none := by
      unfold lookF at h
      rwa [if_neg hy] at h
    unfold withF
    split
    · by_cases e : n = f.1
      · rw [if_pos e]
        show (if f.1 = n then _ else _) = _
        rw [if_pos e.symm]
      · rw [if_neg e]
        show (if f.1 = n then _ else _) = _
        rw [if_neg fun h => e h.symm]
    · show (if y.1 = n then _ else lookF (withF l f) n) = _
      rw [look_with n hl]
      show _ = if n = f.1 then some f.2 else (if y.1 = n then some y.2 else lookF l n)
      by_cases e : n = f.1
      · rw [if_pos e, if_pos e, if_neg (fun h => hy (h.trans e))]
      · rw [if_neg e, if_neg e]
theorem look_without (m n : ByteArray) : ∀ {l : Fls}, lookF (withoutF l m) n = if n = m then none else lookF l n
  | [] => by simp [withoutF, lookF]
  | y :: l => by
    unfold withoutF
    split
    · rename_i e
      rw [look_without m n]
      by_cases h : n = m
      · rw [if_pos h, if_pos h]
      · rw [if_neg h, if_neg h]
        show _ = if y.1 = n then _ else _
        rw [if_neg fun k => h (k.symm.trans e)]
    · rename_i e
      show (if y.1 = n then _ else lookF (withoutF l m) n) = _
      rw [look_without m n]
      show _ = if n = m then none else (if y.1 = n then some y.2 else lookF l n)
      by_cases h : n = m
      · rw [if_pos h, if_pos h, if_neg fun k => e (k.trans h)]
      · rw [if_neg h, if_neg h]
theorem used_with (f : ByteArray × List Nat) : ∀ l : Fls, usedF (withF l f) = usedF l + f.2.length
  | [] => by simp [withF, usedF]
  | y :: l => by
    unfold withF
    split
    · simp only [usedF]; omega
    · simp only [usedF, used_with f l]; omega
theorem without_none {n : ByteArray} : ∀ {l : Fls}, lookF l n = none → withoutF l n = l
  | [], _ => rfl
  | y :: l, h => by
    have hy : y.1 ≠ n := lookF_none h y List.mem_cons_self
    unfold lookF at h
    rw [if_neg hy] at h
    unfold withoutF
    rw [if_neg hy, without_none h]
theorem used_without {n : ByteArray} : ∀ {l : Fls}, Srt l → usedF (withoutF l n) + ((lookF l n).getD []).length = usedF l
  | [], _ => rfl
  | y :: l, hs => by
    obtain ⟨h1, h2⟩ := List.pairwise_cons.1 hs
    unfold withoutF lookF
    by_cases e : y.1 = n
    · rw [if_pos e, if_pos e, without_none]
      · simp only [usedF, Option.getD_some]; omega
      · exact lookF_none_of fun x hx k => ltB_irrefl y.1 (by have := h1 x hx; rwa [k, ← e] at this)
    · rw [if_neg e, if_neg e]
      have := used_without (n := n) h2
      simp only [usedF]; omega
theorem length_with (f : ByteArray × List Nat) : ∀ l : Fls, (withF l f).length = l.length + 1
  | [] => rfl
  | y :: l => by
    unfold withF
    split
    · rfl
    · simp [length_with f l]
theorem length_without {n : ByteArray} : ∀ {l : Fls}, Srt l → (withoutF l n).length + (if (lookF l n).isSome then 1 else 0) = l.length
  | [], _ => rfl
  | y :: l, hs => by
    obtain ⟨h1, h2⟩ := List.pairwise_cons.1 hs
    unfold withoutF lookF
    by_cases e : y.1 = n
    · rw [if_pos e, if_pos e, without_none]
      · simp
      · exact lookF_none_of fun x hx k => ltB_irrefl y.1 (by have := h1 x hx; rwa [k, ← e] at this)
    · rw [if_neg e, if_neg e]
      have := length_without (n := n) h2
      simp only [List.length_cons]; omega
/-- two lists in order that say the same of each name are one -/
theorem srt_ext : ∀ {l m : Fls}, Srt l → Srt m → (∀ n, lookF l n = lookF m n) → l = m
  | [], [], _, _, _ => rfl
  | [], y :: m, _, _, h => by
    have := h y.1
    simp [lookF] at this
  | x :: l, [], _, _, h => by
    have := h x.1
    simp [lookF] at this
  | x :: l, y :: m, hl, hm, h => by
    obtain ⟨h1, h2⟩ := List.pairwise_cons.1 hl
    obtain ⟨h3, h4⟩ := List.pairwise_cons.1 hm
    have hxy : x.1 = y.1 := by
      have a1 := lookF_mem ((h x.1).symm.trans (lookF_of_mem hl List.mem_cons_self))
      have a2 := lookF_mem ((h y.1).trans (lookF_of_mem hm List.mem_cons_self))
      rcases List.mem_cons.1 a1 with a1 | a1
      · exact congrArg Prod.fst a1
      · rcases List.mem_cons.1 a2 with a2 | a2
        · exact (congrArg Prod.fst a2).symm
        · exact absurd (ltB_trans (h1 _ a2) (h3 _ a1)) (ltB_irrefl _)
    have hx2 : x.2 = y.2 := by
      have := h x.1
      simp only [lookF, if_true, hxy] at this
      exact Option.some.inj this
    have e : x = y := Prod.ext hxy hx2
    subst e
    congr 1
    refine srt_ext h2 h4 fun n => ?_
    by_cases k : x.1 = n
    · rw [lookF_none_of (l := l) fun z hz e => ltB_irrefl z.1 (by have := h1 z hz; rwa [k, ← e] at this), lookF_none_of (l := m) fun z hz e => ltB_irrefl z.1 (by have := h3 z hz; rwa [k, ← e] at this)]
    · have := h n
      simp only [lookF, if_neg k] at this
      exact this
end Go.Proofs.Ytihbgigledmliaa
namespace Go.Proofs.Ytihbgigledmliaa
set_option linter.unusedVariables false
structure Vw where
  ix : ByteArray → Option Nat
  zs : Nat → List Nat
  nm : Nat → ByteArray
def Vw.set (V : Vw) (s : ByteArray) (x : Option Nat) : Vw := { V with ix := fun t => if t = s then x else V.ix t }
def Vw.bytes (V : Vw) (b : Nat) (z : List Nat) : Vw := { V with zs := fun c => if c = b then z else V.zs c }
def Vw.name (V : Vw) (b : Nat) (s : ByteArray) : Vw := { V with nm := fun c => if c = b then s else V.nm c }
def Vw.undo (V : Vw) (c : Chg) (stay : Nat) : Vw :=
  if c.kind = 0 then V.set (V.nm c.file) none
  else if c.kind = 1 then V.bytes c.file ((V.zs c.file).take (c.size.toNat + stay))
  else if c.kind = 2 then V.set (V.nm c.file) (some c.file)
  else match c.repl with
    | none => ((V.set (V.nm c.file) none).name c.file c.name).set c.name (some c.file)
    | some r => (((V.set (V.nm c.file) none).name c.file c.name).set c.name (some c.file)).set (V.nm r) (some r)
/-- files by blocks are files by names -/
structure Ab (V : Vw) (l : Fls) : Prop where
  look : ∀ s, (V.ix s).map V.zs = lookF l s
  nm : ∀ s b, V.ix s = some b → V.nm b = s
  srt : Srt l
theorem Ab.has {V : Vw} {l : Fls} (h : Ab V l) {s : ByteArray} {b : Nat} (hb : V.ix s = Option.some b) : lookF l s = Option.some (V.zs b) := by
  rw [← h.look, hb]; rfl
theorem Ab.lacks {V : Vw} {l : Fls} (h : Ab V l) {s : ByteArray} (hb : V.ix s = Option.none) : lookF l s = Option.none := by
  rw [← h.look, hb]; rfl
theorem Ab.inj {V : Vw} {l : Fls} (h : Ab V l) {s t : ByteArray} {b : Nat} (hs : V.ix s = some b) (ht : V.ix t = some b) : s = t := (h.nm s b hs).symm.trans (h.nm t b ht)
/-- what a loose change tells of the files behind it -/
structure Fit (V : Vw) (c : Chg) (o : DCh) : Prop where
  kind : c.kind = (o.kind : Int)
  k3 : o.kind ≤ 3
  k0 : o.kind = 0 → V.ix o.a = some c.file
  k1 : o.kind = 1 → V.ix o.a = some c.file ∧ 0 ≤ c.size ∧ c.size ≤ 1000000000 ∧ c.size.toNat ≤ (V.zs c.file).length ∧ (V.zs c.file).drop c.size.toNat = o.p ∧ o.p.length ≤ 1048576
  k2 : o.kind = 2 → V.nm c.file = o.a ∧ V.ix o.a = .none
  k3a : o.kind = 3 → V.ix o.b = some c.file ∧ c.name = o.a ∧ (o.a ≠ o.b → V.ix o.a = .none) ∧ (c.repl = .none ∨ ∃ r, c.repl = some r ∧ r ≠ c.file ∧ V.nm r = o.b ∧ o.a ≠ o.b)
/-- the states to which loose changes, the last one first, lead back -/
inductive Chn (R : Nat) : Vw → List Chg → Fls → List DCh → Fls → Prop
  | nil {V : Vw} {l : Fls} : Ab V l → usedF l ≤ R → Chn R V [] l [] l
  | cons {V : Vw} {c : Chg} {cs : List Chg} {l l' : Fls} {o : DCh} {os : List DCh} {sure : Fls} : Ab V l → usedF l ≤ R → l = doF l' o → Fit V c o → Chn R (V.undo c 0) cs l' os sure → Chn R V (c :: cs) l (o :: os) sure
theorem Chn.ab {R : Nat} {V : Vw} {cs : List Chg} {l : Fls} {os : List DCh} {sure : Fls} (h : Chn R V cs l os sure) : Ab V l := by cases h <;> assumption
theorem Chn.used {R : Nat} {V : Vw} {cs : List Chg} {l : Fls} {os : List DCh} {sure : Fls} (h : Chn R V cs l os sure) : usedF l ≤ R := by cases h <;> assumption
theorem Chn.len {R : Nat} {V : Vw} {cs : List Chg} {l : Fls} {os : List DCh} {sure : Fls} (h : Chn R V cs l os sure) : cs.length = os.length := by
  induction h with
  | nil => rfl
  | cons _ _ _ _ _ ih => simp [ih]
/-- the changes done again, from the files that last -/
theorem Chn.fold {R : Nat} {V : Vw} {cs : List Chg} {l : Fls} {os : List DCh} {sure : Fls} (h : Chn R V cs l os sure) : l = os.foldr (fun o l => doF l o) sure := by
  induction h with
  | nil => rfl
  | cons _ _ h1 _ _ ih => rw [List.foldr_cons, ← ih]; exact h1
theorem Vw.ext3 {V W : Vw} (h1 : V.ix = W.ix) (h2 : V.zs = W.zs) (h3 : V.nm = W.nm) : V = W := by cases V; cases W; cases h1; cases h2; cases h3; rfl
/-- two views that say the same of the blocks in X -/
structure Agr (X : Nat → Prop) (V W : Vw) : Prop where
  ix : V.ix = W.ix
  zs : ∀ b, X b → V.zs b = W.zs b
  nm : ∀ b, X b → V.nm b = W.nm b
  ran : ∀ s b, V.ix s = some b → X b
def inX (X : Nat → Prop) (c : Chg) : Prop := X c.file ∧ ∀ r, c.repl = some r → X r
theorem Agr.set {X : Nat → Prop} {V W : Vw} (h : Agr X V W) (s : ByteArray) (x : Option Nat) (hx : ∀ b, x = some b → X b) : Agr X (V.set s x) (W.set s x) :=
  ⟨by unfold Vw.set; simp only [h.ix], h.zs, h.nm, fun t b hb => by
    have hb' : (if t = s then x else V.ix t) = some b := hb
    split at hb'
    · exact hx b hb'
    · exact h.ran t b hb'⟩
theorem Agr.name {X : Nat → Prop} {V W : Vw} (h : Agr X V W) (c : Nat) (s : ByteArray) : Agr X (V.name c s) (W.name c s) :=
  ⟨h.ix, h.zs, fun b hb => by
    show (if b = c then s else V.nm b) = (if b = c then s else W.nm b)
    rw [h.nm b hb], h.ran⟩
theorem Agr.undo {X : Nat → Prop} {V W : Vw} (h : Agr X V W) {c : Chg} (hc : inX X c) (k : Nat) : Agr X (V.undo c k) (W.undo c k) := by
  unfold Vw.undo
  have hn := h.nm _ hc.1
  split
  · rw [hn]; exact h.set _ _ fun b e => by cases e
  · split
    · refine ⟨h.ix, fun b hb => ?_, h.nm, h.ran⟩
      show (if b = c.file then _ else V.zs b) = (if b = c.file then _ else W.zs b)
      rw [h.zs b hb, h.zs _ hc.1]
    · split
      · rw [hn]; exact h.set _ _ fun b e => by cases e; exact hc.1
      · split
        · rw [hn]; exact ((h.set _ _ fun b e => by cases e).name _ _).set _ _ fun b e => by cases e; exact hc.1
        · rename_i r hr
          rw [hn, h.nm r (hc.2 r hr)]
          exact (((h.set _ _ fun b e => by cases e).name _ _).set _ _ fun b e => by cases e; exact hc.1).set _ _ fun b e => by cases e; exact hc.2 r hr
theorem Agr.ab {X : Nat → Prop} {V W : Vw} (h : Agr X V W) {l : Fls} (ha : Ab V l) : Ab W l :=
  ⟨fun s => by
    rw [← ha.look, ← h.ix]
    cases e : V.ix s with
    | none => rfl
    | some b => simp only [Option.map_some]; rw [h.zs b (h.ran s b e)], fun s b hb => by
    rw [← h.ix] at hb
    rw [← h.nm b (h.ran s b hb)]
    exact ha.nm s b hb, ha.srt⟩
theorem Agr.fit {X : Nat → Prop} {V W : Vw} (h : Agr X V W) {c : Chg} (hc : inX X c) {o : DCh} (hf : Fit V c o) : Fit W c o := by
  have hz := h.zs _ hc.1
  have hn := h.nm _ hc.1
  refine ⟨hf.kind, hf.k3, fun e => by rw [← h.ix]; exact hf.k0 e, fun e => ?_, fun e => ?_, fun e => ?_⟩
  · rw [← h.ix, ← hz]; exact hf.k1 e
  · rw [← h.ix, ← hn]; exact hf.k2 e
  · obtain ⟨h1, h2, h3, h4⟩ := hf.k3a e
    rw [← h.ix]
    refine ⟨h1, h2, h3, ?_⟩
    rcases h4 with h4 | ⟨r, h4, h5, h6, h7⟩
    · exact .inl h4
    · exact .inr ⟨r, h4, h5, by rw [← h.nm r (hc.2 r h4)]; exact h6, h7⟩
theorem Chn.agr {R : Nat} {X : Nat → Prop} {V : Vw} {cs : List Chg} {l : Fls} {os : List DCh} {sure : Fls} (h : Chn R V cs l os sure) : ∀ {W : Vw}, Agr X V W → (∀ c ∈ cs, inX X c) → Chn R W cs l os sure := by
  induction h with
  | nil h1 h2 => intro W ha _; exact .nil (ha.ab h1) h2
  | cons h1 h2 h3 h4 _ ih =>
    intro W ha hc
    have hc0 := hc _ List.mem_cons_self
    exact .cons (ha.ab h1) h2 h3 (ha.fit hc0 h4) (ih (ha.undo hc0 0) fun c hm => hc c (List.mem_cons_of_mem _ hm))
/-- an Append that is taken back in part -/
theorem Ab.part {V : Vw} {c : Chg} {o : DCh} {l l' : Fls} (h : Ab V l) (hd : l = doF l' o) (hf : Fit V c o) (h' : Ab (V.undo c 0) l') (hk : o.kind = 1) (st : Nat) : Ab (V.undo c st) (doF l' { o with p := o.p.take st }) := by
  obtain ⟨h1, h2, h2', h3, h4, h5⟩ := hf.k1 hk
  have hck : c.kind = 1 := by rw [hf.kind, hk]; rfl
  have e0 : ∀ k, V.undo c k = V.bytes c.file ((V.zs c.file).take (c.size.toNat + k)) := fun k => by
    unfold Vw.undo
    rw [if_neg (by omega), if_pos hck]
  rw [e0] at h' ⊢
  have hl' : lookF l' o.a = some ((V.zs c.file).take c.size.toNat) := by
    rw [h'.has (s := o.a) (b := c.file) h1]
    show some (if c.file = c.file then _ else _) = _
    rw [if_pos rfl, Nat.add_zero]
  have hs : Srt (withoutF l' o.a) := srt_without h'.srt
  have hn : lookF (withoutF l' o.a) o.a = .none := by rw [look_without, if_pos rfl]
  have e1 : doF l' { o with p := o.p.take st } = withF (withoutF l' o.a) (o.a, (V.zs c.file).take c.size.toNat ++ o.p.take st) := by
    unfold doF
    rw [if_neg (by show ¬ o.kind = 0; omega), if_pos (by exact hk)]
    show withF (withoutF l' o.a) (o.a, (lookF l' o.a).getD [] ++ o.p.take st) = _
    rw [hl']
    rfl
  rw [e1]
  refine ⟨fun s => ?_, fun s b hb => h.nm s b hb, srt_with hs fun x hx => (mem_withoutF.1 hx).2⟩
  rw [look_with s hn, look_without]
  by_cases e : s = o.a
  · rw [if_pos e, e]
    show (V.ix o.a).map _ = _
    rw [h1]
    show some (if c.file = c.file then _ else _) = _
    rw [if_pos rfl, ← h4, ← List.take_add]
  · rw [if_neg e, if_neg e]
    have := h'.look s
    show (V.ix s).map _ = _
    rw [← this]
    show (V.ix s).map _ = (V.ix s).map _
    cases ev : V.ix s with
    | none => rfl
    | some b =>
      have hb : b ≠ c.file := fun k => e (h.inj ev (by rw [k]; exact h1))
      simp only [Option.map_some, Vw.bytes, if_neg hb]
/-- forward: Create -/
theorem Ab.create {V : Vw} {l : Fls} (h : Ab V l) (s : ByteArray) (b : Nat) (hs : V.ix s = .none) (hb : ∀ t c, V.ix t = some c → c ≠ b) : Ab (((V.bytes b []).name b s).set s (some b)) (doF l ⟨0, s, ⟨#[]⟩, []⟩) := by
  have hn := h.lacks hs
  refine ⟨fun t => ?_, fun t c hc => ?_, ?_⟩
  · show (if t = s then some b else V.ix t).map (fun c => if c = b then [] else V.zs c) = _
    rw [doF0, look_with t hn]
    by_cases e : t = s
    · rw [if_pos e, if_pos e]; simp
    · rw [if_neg e, if_neg e, ← h.look]
      cases ev : V.ix t with
      | none => rfl
      | some c =>
        simp only [Option.map_some]
        rw [if_neg (hb t c ev)]
  · have hc' : (if t = s then some b else V.ix t) = some c := hc
    show (if c = b then s else V.nm c) = t
    split at hc'
    · rename_i e; cases hc'; rw [if_pos rfl, e]
    · rw [if_neg (hb t c hc')]; exact h.nm t c hc'
  · exact srt_with h.srt (lookF_none hn)
theorem Ab.append {V : Vw} {l : Fls} (h : Ab V l) (s : ByteArray) (b : Nat) (p : List Nat) (hs : V.ix s = some b) : Ab (V.bytes b (V.zs b ++ p)) (doF l ⟨1, s, ⟨#[]⟩, p⟩) := by
  have hn : lookF (withoutF l s) s = .none := by rw [look_without, if_pos rfl]
  have hd : doF l ⟨1, s, ⟨#[]⟩, p⟩ = withF (withoutF l s) (s, V.zs b ++ p) := by
    rw [doF1, h.has hs]
    rfl
  rw [hd]
  refine ⟨fun t => ?_, fun t c hc => h.nm t c hc, srt_with (srt_without h.srt) fun x hx => (mem_withoutF.1 hx).2⟩
  rw [look_with t hn, look_without]
  show (V.ix t).map (fun c => if c = b then _ else V.zs c) = _
  by_cases e : t = s
  · rw [if_pos e, e, hs]; simp
  · rw [if_neg e, if_neg e, ← h.look]
    cases ev : V.ix t with
    | none => rfl
    | some c =>
      simp only [Option.map_some]
      rw [if_neg (fun k => e (h.inj ev (by rw [k]; exact hs)))]
theorem Ab.remove {V : Vw} {l : Fls} (h : Ab V l) (s : ByteArray) : Ab (V.set s .none) (withoutF l s) := by
  refine ⟨fun t => ?_, fun t c hc => ?_, srt_without h.srt⟩
  · rw [look_without]
    show (if t = s then .none else V.ix t).map V.zs = _
    by_cases e : t = s
    · rw [if_pos e, if_pos e]; rfl
    · rw [if_neg e, if_neg e, h.look]
  · have hc' : (if t = s then .none else V.ix t) = some c := hc
    split at hc'
    · cases hc'
    · exact h.nm t c hc'
theorem Ab.rename {V : Vw} {l : Fls} (h : Ab V l) (s t : ByteArray) (b : Nat) (hs : V.ix s = some b) : Ab (((V.set s .none).name b t).set t (some b)) (doF l ⟨3, s, t, []⟩) := by
  have hn : lookF (withoutF (withoutF l s) t) t = .none := by rw [look_without, if_pos rfl]
  have hd : doF l ⟨3, s, t, []⟩ = withF (withoutF (withoutF l s) t) (t, V.zs b) := by
    rw [doF3, h.has hs]
    rfl
  rw [hd]
  refine ⟨fun x => ?_, fun x c hc => ?_, srt_with (srt_without (srt_without h.srt)) fun x hx => (mem_withoutF.1 hx).2⟩
  · rw [look_with x hn, look_without, look_without]
    show (if x = t then some b else if x = s then .none else V.ix x).map V.zs = _
    by_cases e : x = t
    · rw [if_pos e, if_pos e]; rfl
    · rw [if_neg e, if_neg e, if_neg e]
      by_cases k : x = s
      · rw [if_pos k, if_pos k]; rfl
      · rw [if_neg k, if_neg k, h.look]
  · have hc' : (if x = t then some b else if x = s then .none else V.ix x) = some c := hc
    show (if c = b then t else V.nm c) = x
    split at hc'
    · rename_i e; cases hc'; rw [if_pos rfl, e]
    · split at hc'
      · cases hc'
      · rename_i e k
        rw [if_neg fun j => k (h.inj hc' (by rw [j]; exact hs))]
        exact h.nm x c hc'
/-- forward, with the change that takes it back -/
theorem Chn.create {R : Nat} {X : Nat → Prop} {V : Vw} {cs : List Chg} {l : Fls} {os : List DCh} {sure : Fls} (h : Chn R V cs l os sure) (hc : ∀ c ∈ cs, inX X c) (hr : ∀ s b, V.ix s = some b → X b) (s : ByteArray) (b : Nat) (hs : V.ix s = .none) (hb : ¬ X b) (z : Int) (n : ByteArray) (r : Option Nat) :
    Chn R (((V.bytes b []).name b s).set s (some b)) (⟨0, b, z, n, r⟩ :: cs) (doF l ⟨0, s, ⟨#[]⟩, []⟩) (⟨0, s, ⟨#[]⟩, []⟩ :: os) sure := by
  have hne : ∀ c, X c → c ≠ b := fun c hx e => hb (by rw [← e]; exact hx)
  refine .cons (h.ab.create s b hs fun t c k => hne c (hr t c k)) ?_ rfl ⟨rfl, Nat.zero_le _, fun _ => ?_, fun e => (by cases e), fun e => (by cases e), fun e => (by cases e)⟩ (h.agr (X := X) ⟨?_, fun c hx => ?_, fun c hx => ?_, hr⟩ hc)
  · rw [doF0, used_with]
    exact h.used
  · show (if s = s then some b else _) = _
    rw [if_pos rfl]
  · unfold Vw.undo
    rw [if_pos rfl]
    funext t
    show V.ix t = if t = (if b = b then s else V.nm b) then .none else if t = s then some b else V.ix t
    rw [if_pos rfl]
    by_cases e : t = s
    · rw [if_pos e, e]; exact hs
    · rw [if_neg e, if_neg e]
  · unfold Vw.undo
    rw [if_pos rfl]
    show V.zs c = if c = b then [] else V.zs c
    rw [if_neg (hne c hx)]
  · unfold Vw.undo
    rw [if_pos rfl]
    show V.nm c = if c = b then s else V.nm c
    rw [if_neg (hne c hx)]
theorem Chn.append {R : Nat} {V : Vw} {cs : List Chg} {l : Fls} {os : List DCh} {sure : Fls} (h : Chn R V cs l os sure) (s : ByteArray) (b : Nat) (p : List Nat) (hs : V.ix s = some b) (hR : usedF l + p.length ≤ R) (hR2 : R ≤ 1000000000) (hp : p.length ≤ 1048576) (n : ByteArray) (r : Option Nat) :
    Chn R (V.bytes b (V.zs b ++ p)) (⟨1, b, ((V.zs b).length : Int), n, r⟩ :: cs) (doF l ⟨1, s, ⟨#[]⟩, p⟩) (⟨1, s, ⟨#[]⟩, p⟩ :: os) sure := by
  have hu := used_without (n := s) h.ab.srt
  rw [h.ab.has hs] at hu
  simp only [Option.getD_some] at hu
  have hz : (V.bytes b (V.zs b ++ p)).zs b = V.zs b ++ p := by show (if b = b then _ else _) = _; rw [if_pos rfl]
  refine .cons (h.ab.append s b p hs) ?_ rfl ⟨rfl, by show 1 ≤ 3; omega, fun e => (by cases e), fun _ => ⟨hs, by show (0 : Int) ≤ ((V.zs b).length : Int); omega, by show ((V.zs b).length : Int) ≤ _; omega, ?_, ?_, hp⟩, fun e => (by cases e), fun e => (by cases e)⟩ ?_
  · have hd : doF l ⟨1, s, ⟨#[]⟩, p⟩ = withF (withoutF l s) (s, V.zs b ++ p) := by
      rw [doF1, h.ab.has hs]
      rfl
    rw [hd, used_with, List.length_append]
    omega
  · rw [hz]
    show ((V.zs b).length : Int).toNat ≤ _
    rw [List.length_append]; omega
  · rw [hz]
    show List.drop ((V.zs b).length : Int).toNat _ = _
    rw [Int.toNat_natCast, List.drop_left]
  · have e : (V.bytes b (V.zs b ++ p)).undo ⟨1, b, ((V.zs b).length : Int), n, r⟩ 0 = V := by
      unfold Vw.undo
      rw [if_neg (by show ¬ (1 : Int) = 0; decide), if_pos rfl]
      refine Vw.ext3 rfl ?_ rfl
      funext c
      show (if c = b then List.take (((V.zs b).length : Int).toNat + 0) (if b = b then V.zs b ++ p else V.zs b) else if c = b then _ else V.zs c) = _
      rw [if_pos rfl, Int.toNat_natCast, Nat.add_zero, List.take_left]
      by_cases e : c = b
      · rw [if_pos e, e]
      · rw [if_neg e, if_neg e]
    rw [e]
    exact h
theorem Chn.remove {R : Nat} {V : Vw} {cs : List Chg} {l : Fls} {os : List DCh} {sure : Fls} (h : Chn R V cs l os sure) (s : ByteArray) (b : Nat) (hs : V.ix s = some b) (z : Int) (n : ByteArray) (r : Option Nat) :
    Chn R (V.set s .none) (⟨2, b, z, n, r⟩ :: cs) (doF l ⟨2, s, ⟨#[]⟩, []⟩) (⟨2, s, ⟨#[]⟩, []⟩ :: os) sure := by
  have hnm := h.ab.nm s b hs
  have hu := used_without (n := s) h.ab.srt
  have h0 := h.used
  refine .cons (by rw [doF2]; exact h.ab.remove s) ?_ rfl ⟨rfl, by show 2 ≤ 3; omega, fun e => (by cases e), fun e => (by cases e), fun _ => ⟨hnm, ?_⟩, fun e => (by cases e)⟩ ?_
  · rw [doF2]
    omega
  · show (if s = s then _ else _) = _
    rw [if_pos rfl]
  · have e : (V.set s .none).undo ⟨2, b, z, n, r⟩ 0 = V := by
      unfold Vw.undo
      rw [if_neg (by show ¬ (2 : Int) = 0; decide), if_neg (by show ¬ (2 : Int) = 1; decide), if_pos rfl]
      refine Vw.ext3 ?_ rfl rfl
      funext t
      show (if t = V.nm b then some b else if t = s then .none else V.ix t) = _
      rw [hnm]
      by_cases e : t = s
      · rw [if_pos e, e, hs]
      · rw [if_neg e, if_neg e]
    rw [e]
    exact h
theorem Chn.rename {R : Nat} {V : Vw} {cs : List Chg} {l : Fls} {os : List DCh} {sure : Fls} (h : Chn R V cs l os sure) (s t : ByteArray) (b : Nat) (hs : V.ix s = some b) (z : Int) :
    Chn R (((V.set s .none).name b t).set t (some b)) (⟨3, b, z, s, (V.set s .none).ix t⟩ :: cs) (doF l ⟨3, s, t, []⟩) (⟨3, s, t, []⟩ :: os) sure := by
  have hnm := h.ab.nm s b hs
  have hd : doF l ⟨3, s, t, []⟩ = withF (withoutF (withoutF l s) t) (t, V.zs b) := by
    rw [doF3, h.ab.has hs]
    rfl
  have hu := used_without (n := s) h.ab.srt
  have hu2 := used_without (n := t) (srt_without (n := s) h.ab.srt)
  have h0 := h.used
  rw [h.ab.has hs] at hu
  simp only [Option.getD_some] at hu
  have at1 : (V.set s .none).ix t = if t = s then .none else V.ix t := rfl
  refine .cons (h.ab.rename s t b hs) ?_ rfl ⟨rfl, Nat.le_refl _, fun e => (by cases e), fun e => (by cases e), fun e => (by cases e), fun _ => ⟨?_, rfl, fun hne => ?_, ?_⟩⟩ ?_
  · rw [hd, used_with]
    show usedF (withoutF (withoutF l s) t) + (V.zs b).length ≤ R
    omega
  · show (if t = t then _ else _) = _
    rw [if_pos rfl]
  · show (if s = t then _ else if s = s then _ else _) = _
    rw [if_neg hne, if_pos rfl]
  · show (V.set s .none).ix t = .none ∨ _
    rw [at1]
    by_cases e : t = s
    · rw [if_pos e]; exact .inl rfl
    · rw [if_neg e]
      cases ev : V.ix t with
      | none => exact .inl rfl
      | some r =>
        have hrb : r ≠ b := fun k => e (h.ab.inj ev (by rw [k]; exact hs))
        refine .inr ⟨r, rfl, hrb, ?_, fun k => e k.symm⟩
        show (if r = b then t else V.nm r) = t
        rw [if_neg hrb]
        exact h.ab.nm t r ev
  · have e : (((V.set s .none).name b t).set t (some b)).undo ⟨3, b, z, s, (V.set s .none).ix t⟩ 0 = V := by
      unfold Vw.undo
      rw [if_neg (by show ¬ (3 : Int) = 0; decide), if_neg (by show ¬ (3 : Int) = 1; decide), if_neg (by show ¬ (3 : Int) = 2; decide)]
      have nb : (((V.set s .none).name b t).set t (some b)).nm b = t := by show (if b = b then t else V.nm b) = t; rw [if_pos rfl]
      have nms : (fun c => if c = b then s else if c = b then t else V.nm c) = V.nm := by
        funext c
        by_cases e : c = b
        · rw [if_pos e, e, hnm]
        · rw [if_neg e, if_neg e]
      simp only [nb]
      split
      · rename_i hr
        have hr' : (if t = s then .none else V.ix t) = .none := hr
        refine Vw.ext3 ?_ rfl nms
        funext x
        show (if x = s then some b else if x = t then .none else if x = t then some b else if x = s then .none else V.ix x) = _
        by_cases e : x = s
        · rw [if_pos e, e, hs]
        · rw [if_neg e, if_neg e]
          by_cases k : x = t
          · rw [if_pos k, k]
            rw [if_neg (by rw [← k]; exact e)] at hr'
            exact hr'.symm
          · rw [if_neg k, if_neg k]
      · rename_i r hr
        have hr' : (if t = s then .none else V.ix t) = some r := hr
        have hts : t ≠ s := fun k => by rw [if_pos k] at hr'; cases hr'
        rw [if_neg hts] at hr'
        have hrb : r ≠ b := fun k => hts (h.ab.inj hr' (by rw [k]; exact hs))
        have nr : (((V.set s .none).name b t).set t (some b)).nm r = t := by
          show (if r = b then t else V.nm r) = t
          rw [if_neg hrb]
          exact h.ab.nm t r hr'
        rw [nr]
        refine Vw.ext3 ?_ rfl nms
        funext x
        show (if x = t then some r else if x = s then some b else if x = t then .none else if x = t then some b else if x = s then .none else V.ix x) = _
        by_cases k : x = t
        · rw [if_pos k, k, hr']
        · rw [if_neg k]
          by_cases e : x = s
          · rw [if_pos e, e, hs]
          · rw [if_neg e, if_neg k, if_neg k, if_neg e]
    rw [e]
    exact h
end Go.Proofs.Ytihbgigledmliaa
