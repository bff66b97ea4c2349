/-
  A table's values in memory: a map of slices of bytes, as a plain function of the keys.
-/
import Derived.Test.YtjjkfbebaoikbaaTbc
import Derived.Test.YtjjkfbebaoikbaaDkab
namespace Go.Proofs.Ytjjkfbebaoikbaa
open Go.RowKit Go.Maps
set_option linter.unusedVariables false
/-- how a slice of bytes reads: its place -/
def rowR : Value → Option (DU × List MemPlace)
  | .slice none 0 0 => some (.nil, [])
  | .slice (some ⟨b, 0, none⟩) n c => some (.agg [.lit (.int .u64 (b : Int)), .lit (.int .u64 (n : Int)), .lit (.int .u64 (c : Int))], [])
  | _ => none
theorem rowR_nil {v : Value} {ps : List MemPlace} (h : rowR v = some (.nil, ps)) : v = .slice none 0 0 := by
  unfold rowR at h
  split at h
  · rfl
  · cases h
  · cases h
theorem rowR_inj {v w : Value} {d : DU} {ps qs : List MemPlace} (h : rowR v = some (d, ps)) (h' : rowR w = some (d, qs)) : v = w := by
  unfold rowR at h h'
  split at h
  · cases h
    split at h'
    · rfl
    · cases h'
    · cases h'
  · cases h
    split at h'
    · cases h'
    · have e := (Prod.mk.inj (Option.some.inj h')).1
      simp only [DataW.agg.injEq, List.cons.injEq, DataW.lit.injEq, Lit.int.injEq, true_and, and_true] at e
      obtain ⟨e1, e2, e3⟩ := e
      have f1 := Int.ofNat.inj e1
      have f2 := Int.ofNat.inj e2
      have f3 := Int.ofNat.inj e3
      subst f1; subst f2; subst f3
      rfl
    · cases h'
  · cases h
theorem own_rowR {w : World} {B : Nat} {v : Value} {zs : List Nat} (h : Own w B v zs) : ∃ d, rowR v = some (d, []) := by
  rcases h.2 with ⟨rfl, _⟩ | ⟨g, cap, cur, rfl, _⟩
  · exact ⟨_, rfl⟩
  · exact ⟨_, rfl⟩
/-- values by keys, in the map of block m -/
structure TM (B : Nat) (V : Nat → Prop) (w : World) (m n : Nat) (D : DU) (f : ByteArray → Option (List Nat)) : Prop where
  bm : B ≤ m
  mp : w.ownsMap Try.prog 9 rowR m n D
  vs : ∀ s : ByteArray, (Maps.has D (keyS s) = false ∧ f s = none) ∨ ∃ v zs, f s = some zs ∧ Maps.has D (keyS s) = true ∧ rowR v = some (D.atKey (keyS s) .nil, []) ∧ Own w B v zs ∧ (∀ z ∈ zs, z < 256) ∧ ∀ k, v.ownBlock = some k → V k
  ks : ∃ l : List ByteArray, l.Nodup ∧ (∀ s, s ∈ l ↔ (f s).isSome = true) ∧ l.length = Maps.size D
theorem TM.made (w : World) (B : Nat) (V : Nat → Prop) (hB : B ≤ w.heap.size) : TM B V (w.alloc (.map #[] 0)) w.heap.size 0 (.map []) fun _ => none :=
  ⟨hB, World.ownsMap_made w Try.prog 9 rowR, fun s => .inl ⟨rfl, rfl⟩, [], List.nodup_nil, fun s => by simp, rfl⟩
theorem TM.hasF {B m n : Nat} {V : Nat → Prop} {w : World} {D : DU} {f : ByteArray → Option (List Nat)} (h : TM B V w m n D f) (s : ByteArray) : Maps.has D (keyS s) = (f s).isSome := by
  rcases h.vs s with ⟨h1, h2⟩ | ⟨v, zs, h1, h2, _⟩
  · rw [h1, h2]; rfl
  · rw [h2, h1]; rfl
theorem tmap_block {w : World} {b n : Nat} {D : DU} (h : w.ownsMap Try.prog 9 rowR b n D) : ∃ es clock, w.heap[b]? = some (.map es clock) := by
  obtain ⟨es, clock, hb, r⟩ := h
  exact ⟨es, clock, hb⟩
/-- bytes lie in no map's block -/
theorem own_notmap {w : World} {B b n : Nat} {D : DU} {v : Value} {zs : List Nat} (h : w.ownsMap Try.prog 9 rowR b n D) (ho : Own w B v zs) : v.ownBlock = none ∨ v.ownBlock ≠ some b := by
  right
  intro e
  obtain ⟨es, cl, hb⟩ := tmap_block h
  obtain ⟨_, cur, hc⟩ := row_block ho e
  rw [hb] at hc
  cases hc
theorem TM.below {B m n : Nat} {V : Nat → Prop} {w w' : World} {D : DU} {f : ByteArray → Option (List Nat)} (h : TM B V w m n D f) (hb : Below w.heap.size w w') : TM B V w' m n D f := by
  refine ⟨h.bm, ?_, fun s => (h.vs s).imp id fun ⟨v, zs, e1, e2, e3, e4, e5⟩ => ⟨v, zs, e1, e2, e3, e4.keep hb, e5⟩, h.ks⟩
  obtain ⟨es, clock, hh, r⟩ := h.mp
  exact ⟨es, clock, (hb.block m (Array.getElem?_eq_some_iff.1 hh).1).trans hh, r⟩
theorem zeroSl (w : World) : (zeroValue 41).run Try.prog w = .ok (.slice none 0 0) w := by kernel_rfl
/-- v, ok := m[s] -/
theorem TM.look {B m n : Nat} {V : Nat → Prop} {w : World} {D : DU} {f : ByteArray → Option (List Nat)} (h : TM B V w m n D f) {s : ByteArray} (hs : s.size ≤ maxLen) : ∃ v, (Instr.lookup 65 (.map (some m)) (.string s) true).run Try.prog w = .ok (.tuple #[v, .bool (f s).isSome]) w ∧ Own w B v ((f s).getD []) ∧ ∀ z ∈ (f s).getD [], z < 256 := by
  obtain ⟨v, ps, hrun, hv⟩ := h.mp.look_ok mapLaw Try.underlying65 (zeroSl w) (zd := .nil) (zp := []) rfl (keyOk hs)
  rcases h.vs s with ⟨h1, h2⟩ | ⟨v0, zs, h1, h2, h3, h4, h5⟩
  · refine ⟨v, by rw [hrun, h1, h2]; rfl, ?_, by rw [h2]; simp⟩
    rw [Maps.atKey_of_not_has h1] at hv
    rw [rowR_nil hv, h2]
    exact Own.nil _ _
  · refine ⟨v, by rw [hrun, h1, h2]; rfl, ?_, by rw [h1]; exact h5.1⟩
    rw [rowR_inj hv h3, h1]
    exact h4
/-- m[s] = v -/
theorem TM.put {B m n : Nat} {V : Nat → Prop} {w : World} {D : DU} {f : ByteArray → Option (List Nat)} (h : TM B V w m n D f) {s : ByteArray} (hs : s.size ≤ maxLen) (hn : n < maxLen) {v : Value} {zs : List Nat} (hv : Own w B v zs) (hz : ∀ z ∈ zs, z < 256) (hV : ∀ k, v.ownBlock = some k → V k) :
    ∃ w' D', (Instr.mapUpdate 65 (.map (some m)) (.string s) v).run Try.prog w = .ok () w' ∧ TM B V w' m (n + 1) D' (fun t => if t = s then some zs else f t) ∧ w.grownBy w' (some m) := by
  obtain ⟨d, hd⟩ := own_rowR hv
  obtain ⟨w', h5, h6, h7⟩ := h.mp.store mapLaw Try.underlying65 hn (keyOk hs) hd
  have hg := h7.grown
  have hks : ∃ l : List ByteArray, l.Nodup ∧ (∀ t, t ∈ l ↔ ((fun t => if t = s then some zs else f t) t).isSome = true) ∧ l.length = Maps.size (D.put (keyS s) d) := by
    obtain ⟨l, l1, l2, l3⟩ := h.ks
    have hsz := size_put (k := keyS s) (h.mp.tidy mapLaw) d
    rw [h.hasF s] at hsz
    cases hf : (f s).isSome with
    | true =>
      refine ⟨l, l1, fun t => ?_, by rw [hsz, hf, if_pos rfl]; exact l3⟩
      by_cases e : t = s
      · subst e; simp [l2, hf]
      · simp [l2, e]
    | false =>
      have hns : s ∉ l := fun hm => by rw [(l2 s).1 hm] at hf; cases hf
      refine ⟨s :: l, List.nodup_cons.2 ⟨hns, l1⟩, fun t => ?_, by rw [hsz, hf, if_neg (by decide), List.length_cons, l3]⟩
      by_cases e : t = s
      · subst e; simp
      · simp [l2, e]
  refine ⟨w', _, h5, ⟨h.bm, h6, fun t => ?_, hks⟩, hg⟩
  by_cases e : t = s
  · subst e
    refine .inr ⟨v, zs, by simp, has_put_same h.mp.isMap (by trivial) _, ?_, World.ownsRow.kept hv hg (own_notmap h.mp hv), hz, hV⟩
    rw [atKey_put_same h.mp.isMap (by trivial)]
    exact hd
  · simp only [if_neg e]
    rcases h.vs t with ⟨k1, k2⟩ | ⟨v0, ys, k1, k2, k3, k4, k5⟩
    · exact .inl ⟨(has_put_other (fun x => e (keyS_inj x)) _).trans k1, k2⟩
    · exact .inr ⟨v0, ys, k1, (has_put_other (fun x => e (keyS_inj x)) _).trans k2, by rw [atKey_put_other (fun x => e (keyS_inj x))]; exact k3, World.ownsRow.kept k4 hg (own_notmap h.mp k4), k5⟩
/-- delete(m, s) -/
theorem TM.del {B m n : Nat} {V : Nat → Prop} {w : World} {D : DU} {f : ByteArray → Option (List Nat)} (h : TM B V w m n D f) {s : ByteArray} (hs : s.size ≤ maxLen) (ty : TypeId) :
    ∃ w' D', (Builtin.delete_ #[65, 9] ty #[.map (some m), .string s]).run Try.prog w = .ok (.tuple #[]) w' ∧ TM B V w' m n D' (fun t => if t = s then none else f t) ∧ w.grownBy w' (some m) := by
  obtain ⟨w', h5, h6, h7⟩ := h.mp.drop mapLaw Try.underlying65 (keyOk hs) ty
  have hg := h7.grown
  have hks : ∃ l : List ByteArray, l.Nodup ∧ (∀ t, t ∈ l ↔ ((fun t => if t = s then none else f t) t).isSome = true) ∧ l.length = Maps.size (D.del (keyS s)) := by
    obtain ⟨l, l1, l2, l3⟩ := h.ks
    have hsz := size_del (k := keyS s) (h.mp.tidy mapLaw)
    rw [h.hasF s] at hsz
    cases hf : (f s).isSome with
    | true =>
      rw [hf, if_pos rfl] at hsz
      have hm := (l2 s).2 hf
      have hp : (s :: l.filter (fun t => decide (t ≠ s))).Perm l := (List.perm_ext_iff_of_nodup (List.nodup_cons.2 ⟨by simp, l1.filter _⟩) l1).2 fun t => by
        by_cases e : t = s
        · subst e; simp [hm]
        · simp [e]
      have hl := hp.length_eq
      rw [List.length_cons] at hl
      refine ⟨l.filter (fun t => decide (t ≠ s)), l1.filter _, fun t => ?_, by omega⟩
      by_cases e : t = s
      · subst e; simp
      · simp [l2, e]
    | false =>
      rw [hf, if_neg (by decide)] at hsz
      refine ⟨l, l1, fun t => ?_, by omega⟩
      by_cases e : t = s
      · subst e; simp [l2, hf]
      · simp [l2, e]
  refine ⟨w', _, h5, ⟨h.bm, h6, fun t => ?_, hks⟩, hg⟩
  by_cases e : t = s
  · subst e
    exact .inl ⟨has_del_same, by simp⟩
  · simp only [if_neg e]
    rcases h.vs t with ⟨k1, k2⟩ | ⟨v0, ys, k1, k2, k3, k4, k5⟩
    · exact .inl ⟨(has_del_other (fun x => e (keyS_inj x))).trans k1, k2⟩
    · exact .inr ⟨v0, ys, k1, (has_del_other (fun x => e (keyS_inj x))).trans k2, by rw [atKey_del_other (fun x => e (keyS_inj x))]; exact k3, World.ownsRow.kept k4 hg (own_notmap h.mp k4), k5⟩
theorem TM.moreV {B m n : Nat} {V V' : Nat → Prop} {w : World} {D : DU} {f : ByteArray → Option (List Nat)} (h : TM B V w m n D f) (hV : ∀ k, V k → V' k) : TM B V' w m n D f :=
  ⟨h.bm, h.mp, fun s => (h.vs s).imp id fun ⟨v, zs, e1, e2, e3, e4, e5, e6⟩ => ⟨v, zs, e1, e2, e3, e4, e5, fun k e => hV k (e6 k e)⟩, h.ks⟩
/-- len(m) -/
theorem TM.len {B m n : Nat} {V : Nat → Prop} {w : World} {D : DU} {f : ByteArray → Option (List Nat)} (h : TM B V w m n D f) (ty : TypeId) : ∃ l : List ByteArray, l.Nodup ∧ (∀ s, s ∈ l ↔ (f s).isSome = true) ∧ l.length = Maps.size D ∧ (Builtin.len_ #[65] ty #[.map (some m)]).run Try.prog w = .ok (.int .i64 (l.length : Nat)) w := by
  obtain ⟨l, l1, l2, l3⟩ := h.ks
  exact ⟨l, l1, l2, l3, by rw [l3]; exact h.mp.len Try.underlying65 ty⟩
end Go.Proofs.Ytjjkfbebaoikbaa
