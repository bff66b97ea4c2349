/-
  A disk in memory is the document's: Names.
-/
import Derived.Test.YtihbgigledmliaaDks
import Derived.Sort.OwnSorted
import Derived.Maps.RangeWalk
namespace Go.Proofs.Ytihbgigledmliaa
open Go.RowKit Go.Maps Go.Sort
set_option linter.unusedVariables false
theorem info_str : (Try.prog.info? 9).map (fun i => (i.zero, i.size, i.bytes)) = some (some (.string ⟨#[]⟩), 1, 16) := by kernel_rfl
/-- a row of strings that the call owns -/
abbrev OwnS (w : World) (B : Nat) (v : Value) (cs : List ByteArray) : Prop := w.ownsRow B 9 1 v cs.length (cs.map Value.string)
theorem wpList_pushS {w : World} {ops : Array Oper} {rest : List Oper} {o : Oper} {a : Act} {Q : Exit → Act → World → Prop} (hgd : o.guard = none) (s x : Operand)
    (ho : o.op = .call { callee := .builtin .append, args := #[s, x], argTypes := #[38, 38] })
    (B : Nat) (v : Value) (cs : List ByteArray) (y : ByteArray) (hs : a.eval s = v) (hown : OwnS w B v cs) (hB : B ≤ w.heap.size) (hx : a.eval x = .slice (some ⟨w.heap.size, 0, none⟩) 1 1)
    (hlen : cs.length + 1 ≤ 1000000000)
    (h : ∀ v' w', OwnS w' B v' (cs ++ [y]) → (w.alloc (.cells #[.string y] 9)).grownBy w' v.ownBlock → wpList Try.prog ops Q rest (a.put o.dst v') w') :
    wpList Try.prog ops Q (o :: rest) a (w.alloc (.cells #[.string y] 9)) := by
  obtain ⟨i0, hi, hz0, hz1, hz2⟩ := info_parts info_str
  have hal : OwnS (w.alloc (.cells #[.string y] 9)) B v cs := World.ownsRow.alloc hown _
  refine wpList_append_own _ hgd s x 38 ho B 9 i0 (.string ⟨#[]⟩) 1 16 Try.underlying38 hi hz0 hz1 hz2 rfl (by decide) v cs.length (cs.map Value.string) hs hal ⟨w.heap.size, 0, none⟩ 1 1 [.string y] hx rfl ?_ ?_ (by unfold maxLen; omega) (by omega) (by simp; omega) ?_
  · intro j u hj
    rw [Addr.add_mid, Nat.zero_add, cell_of_row _ _ _ _ _ _ (heap_new _ _)]
    simpa using hj
  · intro u hu
    simp only [List.mem_singleton] at hu
    subst hu; rfl
  · intro v' w' h1 h2 _
    refine h v' w' ?_ h2
    have e : (cs ++ [y]).length = cs.length + 1 := by simp
    unfold OwnS
    rw [e, List.map_append]
    exact h1
def hasP (head s : ByteArray) : Bool := Lib.hasPrefix s.data.toList head.data.toList
/-- the names that begin so, in order -/
def namesF (l : Fls) (head : ByteArray) : List ByteArray := (l.map (·.1)).filter (hasP head)
theorem encS (s : ByteArray) : Go.Proofs.encStr s.data.toList = .string s := rfl
theorem srt_map : ∀ {l : Fls} (head : ByteArray), Srt l → (namesF l head).Pairwise (fun a b => a.data.toList < b.data.toList)
  | l, head, h => by
    unfold namesF
    exact (List.pairwise_map.2 h).filter _
theorem mem_namesF {l : Fls} {head s : ByteArray} : s ∈ namesF l head ↔ (lookF l s).isSome = true ∧ hasP head s = true := by
  unfold namesF
  rw [List.mem_filter, List.mem_map]
  constructor
  · rintro ⟨⟨x, hx, rfl⟩, hp⟩
    refine ⟨?_, hp⟩
    cases e : lookF l x.1 with
    | some z => rfl
    | none => exact absurd rfl (lookF_none e x hx)
  · rintro ⟨hl, hp⟩
    cases e : lookF l s with
    | none => rw [e] at hl; cases hl
    | some z => exact ⟨⟨(s, z), lookF_mem e, rfl⟩, hp⟩
theorem names_sorted {l : Fls} {head : ByteArray} {cs : List ByteArray} (hs : Srt l) (hn : cs.Nodup) (hm : ∀ s, s ∈ cs ↔ (lookF l s).isSome = true ∧ hasP head s = true) : (cs.map (·.data.toList)).mergeSort (fun x y => decide (x ≤ y)) = (namesF l head).map (·.data.toList) := by
  have inj : ∀ a b : ByteArray, a.data.toList = b.data.toList → a = b := fun a b => ba_ext
  have hp := srt_map head hs
  have hp2 : ((namesF l head).map (·.data.toList)).Pairwise (fun a b => a < b) := List.pairwise_map.2 hp
  have hnd : (namesF l head).Nodup := hp.imp fun {a b} h e => by rw [e] at h; exact List.lt_irrefl _ h
  have hperm : cs.Perm (namesF l head) := (List.perm_ext_iff_of_nodup hn hnd).2 fun s => (hm s).trans mem_namesF.symm
  refine List.Perm.eq_of_pairwise (le := fun a b => decide (a ≤ b) = true) (fun a b _ _ h1 h2 => ?_) (List.pairwise_mergeSort (fun a b c h1 h2 => ?_) (fun a b => ?_) _) (hp2.imp fun {a b} h => ?_) ((List.mergeSort_perm _ _).trans (hperm.map _))
  · simp only [decide_eq_true_eq] at h1 h2
    exact List.le_antisymm h1 h2
  · simp only [decide_eq_true_eq] at h1 h2 ⊢
    exact List.le_trans h1 h2
  · simp only [Bool.or_eq_true, decide_eq_true_eq]
    exact List.le_total a b
  · simp only [decide_eq_true_eq]
    exact List.le_of_lt h
/-- what Names answers -/
def NmT (l : Fls) (head : ByteArray) (w : World) (e : Ending) (w' : World) : Prop := ∃ a n c, e = .returned (.tuple #[.slice a n c, .int .i64 0]) ∧ OwnS w' w.heap.size (.slice a n c) (namesF l head) ∧ n = (namesF l head).length ∧ Below w.heap.size w w'
/-- so far as the map has told its names -/
structure NmR (S : Dsk) (head : ByteArray) (b : Nat) (w : World) (v : Value) (wr : World) : Prop where
  ex : ∃ left cnt cs, wr.ranges Try.prog 9 fileR b w.heap.size S.n S.D left cnt ∧ OwnS wr (w.heap.size + 1) v cs ∧ cs.Nodup ∧ (∀ s, s ∈ cs ↔ (S.at s).isSome = true ∧ left (keyS s) = false ∧ hasP head s = true) ∧ cs.length + cnt ≤ Maps.size S.D
  bel : Below w.heap.size w wr
  sz : w.heap.size + 1 ≤ wr.heap.size
theorem keyS_same (s x : ByteArray) : (keyS s).sameKey (keyS x) = decide (s = x) := by
  by_cases e : s = x
  · subst e
    rw [decide_eq_true rfl]
    exact WideAt.sameKey_self (a := keyS s) (by trivial)
  · rw [decide_eq_false e]
    cases h : (keyS s).sameKey (keyS x) with
    | false => rfl
    | true => exact absurd (keyS_inj (WideAt.sameKey_eq h)) e
theorem NmR.start {B d : Nat} {S : Dsk} {b : Nat} {w w0 : World} (head : ByteArray) (h : DK B d S w) (hrg : w0.ranges Try.prog 9 fileR b w.heap.size S.n S.D (Maps.has S.D) (Maps.size S.D)) (hg : w.grownBy w0 none) (hs : w0.heap.size = w.heap.size + 1) : NmR S head b w (.slice none 0 0) w0 :=
  ⟨⟨_, _, [], hrg, World.ownsRow_nil _ _ _ _, List.nodup_nil, fun s => ⟨fun h => (by cases h), fun ⟨h1, h2, _⟩ => (by rw [h.rest.has, h1] at h2; cases h2)⟩, by simp⟩, (Below.refl _ _).grown hg (Nat.le_refl _) (by simp), by omega⟩
theorem fileR_invP (v : Value) (y : DU × List MemPlace) (h : fileR v = some y) : ∃ c : Option Nat, v = ptrOf c := by
  rcases fileR_inv (d := y.1) (ps := y.2) h with ⟨rfl, _⟩ | ⟨b, rfl, _⟩
  · exact ⟨none, rfl⟩
  · exact ⟨some b, rfl⟩
/-- the iterator has told a name -/
theorem NmR.told {B d : Nat} {S : Dsk} {b : Nat} {w w1 : World} {head : ByteArray} {left : Lit → Bool} {cnt1 : Nat} {cs : List ByteArray} {x : ByteArray} {kl : Lit} (h : DK B d S w) (hkey : keyOf Try.prog 9 (.string x) = some kl) (hl : left kl = true) {y : DU × List MemPlace} (hat : ∀ zd, S.D.atKey kl zd = y.1)
    (hrg1 : w1.ranges Try.prog 9 fileR b w.heap.size S.n S.D (fun z => left z && !z.sameKey kl) cnt1) (hmem : ∀ s, s ∈ cs ↔ (S.at s).isSome = true ∧ left (keyS s) = false ∧ hasP head s = true) (p : Bool) (hp : hasP head x = p) :
    kl = keyS x ∧ (S.at x).isSome = true ∧ x ∉ cs ∧ (∀ s, s ∈ (if p then cs ++ [x] else cs) ↔ (S.at s).isSome = true ∧ (fun z : Lit => left z && !z.sameKey kl) (keyS s) = false ∧ hasP head s = true) := by
  obtain ⟨s, e1, e2, e3⟩ := WideMaps.string_of_keyOf Try.underlying9 hkey
  obtain rfl : x = s := by simpa using e1
  have ek : kl = keyS x := e2
  subst ek
  have hax : (S.at x).isSome = true := by
    rw [← h.rest.has]
    cases hh : Maps.has S.D (keyS x) with
    | true => rfl
    | false =>
      have a1 := hat .nil
      have a2 := hat (.lit (.bool true))
      rw [atKey_of_not_has hh] at a1 a2
      rw [← a1] at a2
      cases a2
  have hnx : x ∉ cs := fun hm => by
    have := ((hmem x).1 hm).2.1
    rw [hl] at this
    cases this
  refine ⟨rfl, hax, hnx, fun s => ?_⟩
  simp only [keyS_same]
  by_cases es : s = x
  · subst es
    cases p with
    | true => simp [hax, hp]
    | false => simp [hnx, hax, hp]
  · have h1 := hmem s
    cases p with
    | true => simp [es, h1]
    | false => simp [es, h1]
end Go.Proofs.Ytihbgigledmliaa
