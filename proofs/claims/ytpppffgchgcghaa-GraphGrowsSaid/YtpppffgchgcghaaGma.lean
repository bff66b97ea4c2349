/-
  Maps whose keys are sums: keys as plain data; a map of slices of sums, and a set, as plain functions of the keys.
-/
import Derived.Test.YtpppffgchgcghaaDgl
import Derived.Maps.OwnSet
import Derived.Maps.RangeWalk
import Derived.Maps.Views
import Derived.WideKeyArr
namespace Go.Proofs.Ytpppffgchgcghaa
open Go.RowKit Go.Maps
set_option linter.unusedVariables false
abbrev DV := DataW Unit
theorem gArr : WideMaps.ArrKey Try.prog 42 5 32 := ⟨Try.underlying42, by kernel_rfl, by kernel_rfl, by kernel_rfl⟩
theorem gLaw : Keyed Try.prog 42 := Keyed.of_law gArr.law
theorem g_types : ∃ m, Try.prog.types.size = m + 1 := ⟨Try.prog.types.size - 1, by
  have : 0 < Try.prog.types.size := of_decide_eq_true (by kernel_rfl)
  omega⟩
theorem mapM_all {α β : Type} (f : α → Option β) : ∀ L : List α, (∀ i ∈ L, ∃ y, f i = some y) → ∃ ys, L.mapM f = some ys
  | [], _ => ⟨[], rfl⟩
  | x :: r, h => by
    obtain ⟨y, hy⟩ := h x (List.mem_cons_self ..)
    obtain ⟨ys, hys⟩ := mapM_all f r fun i hi => h i (List.mem_cons_of_mem _ hi)
    exact ⟨y :: ys, by simp [List.mapM_cons, hy, hys]⟩
theorem mapM_each {α β : Type} (f : α → Option β) : ∀ (L : List α) (ys : List β), L.mapM f = some ys → ∀ i ∈ L, ∃ y, f i = some y
  | [], _, _, i, hi => by cases hi
  | x :: r, ys, h, i, hi => by
    rw [List.mapM_cons] at h
    cases hx : f x with
    | none => rw [hx] at h; cases h
    | some y =>
      rw [hx] at h
      cases hr : r.mapM f with
      | none =>
        have h2 : (do let rs ← r.mapM f; pure (y :: rs)) = some ys := h
        rw [hr] at h2
        cases h2
      | some zs =>
        rcases List.mem_cons.1 hi with rfl | hi
        · exact ⟨y, hx⟩
        · exact mapM_each f r zs hr i hi
theorem key_u8 (m : Nat) (c : Value) : Try.prog.keyLits (m + 1) 5 [c] = (match c with | .int .u8 n => if (Lit.int .u8 n).wf = true then some [.int .u8 n] else none | _ => none) := by
  unfold Program.keyLits
  simp only [Try.underlying5]
  cases c <;> try rfl
  rename_i q n
  cases q <;> simp
theorem gKeyType : Try.prog.keyType 42 = true := gArr.keyType g_types
set_option maxRecDepth 100000 in
theorem gLits (cs : List Value) : Try.prog.keyLits (Try.prog.types.size + 1) 42 cs = if cs.length = 32 then ((List.range 32).mapM fun i => Try.prog.keyLits Try.prog.types.size 5 ((cs.drop i).take 1)).map List.flatten else none := by
  have h1 : Try.prog.cellsOf 5 = 1 := gArr.one
  have h2 : Try.prog.cellsOf 42 = 32 := gArr.size
  conv => lhs; unfold Program.keyLits
  simp only [Try.underlying42, h1, h2, Nat.mul_one]
theorem take1 (cs : List Value) (i : Nat) (h : i < cs.length) : (cs.drop i).take 1 = [cs[i]] := by
  rw [List.drop_eq_getElem_cons h]
  rfl
theorem u8_wf (z : Nat) (h : z < 256) : (Lit.int .u8 (z : Int)).wf = true := by
  simp [Lit.wf, IntKind.min, IntKind.max, IntKind.bits, IntKind.signed]
  omega
theorem wf_u8 (n : Int) (h : (Lit.int .u8 n).wf = true) : 0 ≤ n ∧ n < 256 := by
  simp [Lit.wf, IntKind.min, IntKind.max, IntKind.bits, IntKind.signed] at h
  omega
set_option maxRecDepth 100000 in
theorem gKeyOf (v : Value) : keyOf Try.prog 42 v = if v.formed Try.prog 42 then (Try.prog.keyLits (Try.prog.types.size + 1) 42 v.cells.toList).map fun ls => Lit.string (keyBytes ls) else none := by
  unfold keyOf
  simp only [Try.underlying42, gKeyType, Bool.true_and]
set_option maxRecDepth 100000 in
theorem key_some {xs : List Nat} (h : D32 xs) : ∃ l, keyOf Try.prog 42 (.agg (cellsOf xs).toArray) = some l := by
  obtain ⟨m, hm⟩ := g_types
  have hf : (Value.agg (cellsOf xs).toArray).formed Try.prog 42 = true := by
    simp only [Value.formed, Try.underlying42, gArr.size, List.size_toArray, cellsOf_length, h.1, beq_self_eq_true]
  rw [gKeyOf, if_pos hf]
  have hc : (Value.agg (cellsOf xs).toArray).cells.toList = cellsOf xs := by simp [Value.cells]
  rw [hc, gLits, if_pos (by rw [cellsOf_length, h.1])]
  obtain ⟨ys, hys⟩ := mapM_all (fun i => Try.prog.keyLits Try.prog.types.size 5 (((cellsOf xs).drop i).take 1)) (List.range 32) fun i hi => by
    have hi32 : i < xs.length := by rw [h.1]; exact List.mem_range.1 hi
    have he : (cellsOf xs)[i]'(by rw [cellsOf_length]; exact hi32) = .int .u8 ((xs[i] : Nat) : Int) := by simp [cellsOf]
    refine ⟨[.int .u8 ((xs[i] : Nat) : Int)], ?_⟩
    simp only [hm]
    rw [take1 _ i (by rw [cellsOf_length]; exact hi32), he, key_u8]
    simp only [u8_wf _ (h.2 _ (List.getElem_mem hi32)), if_true]
  rw [hys]
  exact ⟨_, rfl⟩
set_option maxRecDepth 100000 in
theorem key_inv {v : Value} {l : Lit} (h : keyOf Try.prog 42 v = some l) : ∃ xs, D32 xs ∧ v = .agg (cellsOf xs).toArray := by
  obtain ⟨m, hm⟩ := g_types
  rw [gKeyOf] at h
  split at h
  · rename_i hf
    cases v with
    | agg cs =>
      have hs : cs.size = 32 := by
        unfold Value.formed at hf
        rw [Try.underlying42] at hf
        have h2 : (cs.size == Try.prog.cellsOf 42) = true := hf
        rw [gArr.size] at h2
        exact beq_iff_eq.1 h2
      have hc : (Value.agg cs).cells.toList = cs.toList := by simp [Value.cells]
      rw [hc, gLits, if_pos (by rw [Array.length_toList]; exact hs)] at h
      cases hys : (List.range 32).mapM (fun i => Try.prog.keyLits Try.prog.types.size 5 ((cs.toList.drop i).take 1)) with
      | none => rw [hys] at h; cases h
      | some ys =>
        have hall := mapM_each _ _ _ hys
        have hcell : ∀ i (hi : i < cs.toList.length), ∃ z : Nat, z < 256 ∧ cs.toList[i] = .int .u8 (z : Int) := fun i hi => by
          obtain ⟨y, hy⟩ := hall i (List.mem_range.2 (by have h3 := hi; rw [Array.length_toList, hs] at h3; exact h3))
          simp only [hm] at hy
          rw [take1 _ i hi, key_u8] at hy
          generalize cs.toList[i] = c at hy ⊢
          cases c with
          | int q n =>
            cases q <;> simp only [reduceCtorEq] at hy
            split at hy
            · rename_i hw
              obtain ⟨h0, h1⟩ := wf_u8 n hw
              exact ⟨n.toNat, by omega, by congr 1; omega⟩
            · cases hy
          | _ => simp only [reduceCtorEq] at hy
        refine ⟨cs.toList.map fun c => match c with | .int _ n => n.toNat | _ => 0, ⟨by rw [List.length_map, Array.length_toList]; exact hs, fun z hz => ?_⟩, ?_⟩
        · obtain ⟨c, hc1, rfl⟩ := List.mem_map.1 hz
          obtain ⟨i, hi, rfl⟩ := List.mem_iff_getElem.1 hc1
          obtain ⟨z, hz1, hz2⟩ := hcell i hi
          rw [hz2]
          simpa using hz1
        · congr 1
          apply Array.ext'
          rw [List.toList_toArray]
          apply List.ext_getElem
          · simp [cellsOf]
          · intro i h1 h2
            obtain ⟨z, hz1, hz2⟩ := hcell i h1
            simp [cellsOf]
            rw [Array.getElem_toList] at hz2
            rw [hz2]
            rfl
    | _ => first | (simp only [Value.formed, Try.underlying42, Bool.false_eq_true] at hf) | cases hf
  · cases h
set_option maxRecDepth 100000 in
/-- a sum as a key -/
noncomputable def keyD (xs : List Nat) : Lit := (keyOf Try.prog 42 (.agg (cellsOf xs).toArray)).getD (.bool true)
set_option maxRecDepth 100000 in
theorem keyOkD {xs : List Nat} (h : D32 xs) : keyOf Try.prog 42 (.agg (cellsOf xs).toArray) = some (keyD xs) := by
  obtain ⟨l, hl⟩ := key_some h
  unfold keyD
  rw [hl]
  rfl
theorem cellsOf_inj : ∀ {a b : List Nat}, cellsOf a = cellsOf b → a = b
  | [], [], _ => rfl
  | [], _ :: _, h => by simp [cellsOf] at h
  | _ :: _, [], h => by simp [cellsOf] at h
  | x :: a, y :: b, h => by
    simp only [cellsOf, List.map_cons, List.cons.injEq, Value.int.injEq, true_and] at h
    rw [cellsOf_inj (a := a) (b := b) h.2, show x = y by omega]
set_option maxRecDepth 100000 in
theorem keyD_inj {a b : List Nat} (ha : D32 a) (hb : D32 b) (h : keyD a = keyD b) : a = b := by
  have := gLaw.inj (keyOkD ha) (h ▸ keyOkD hb)
  have h2 := (Value.agg.inj this)
  exact cellsOf_inj (by simpa using congrArg Array.toList h2)
set_option maxRecDepth 100000 in
theorem keyD_key {a : List Nat} (ha : D32 a) : WideAt.IsKeyLit (keyD a) := gLaw.key (keyOkD ha)
set_option maxRecDepth 100000 in
theorem keyD_same {a b : List Nat} (ha : D32 a) (hb : D32 b) : (keyD a).sameKey (keyD b) = decide (a = b) := by
  by_cases e : a = b
  · subst e
    rw [decide_eq_true rfl]
    exact WideAt.sameKey_self (keyD_key ha)
  · rw [decide_eq_false e]
    cases h : (keyD a).sameKey (keyD b) with
    | false => rfl
    | true => exact absurd (keyD_inj ha hb (WideAt.sameKey_eq h)) e
/-- how a slice reads: its place -/
def rowG : Value → Option (DV × List MemPlace)
  | .slice none 0 0 => some (.nil, [])
  | .slice (some ⟨b, 0, none⟩) n c => some (.agg [.lit (.int .u64 (b : Int)), .lit (.int .u64 (n : Int)), .lit (.int .u64 (c : Int))], [])
  | _ => none
theorem rowG_nil {v : Value} {ps : List MemPlace} (h : rowG v = some (.nil, ps)) : v = .slice none 0 0 := by
  unfold rowG at h
  split at h
  · rfl
  · cases h
  · cases h
theorem rowG_inj {v w : Value} {d : DV} {ps qs : List MemPlace} (h : rowG v = some (d, ps)) (h' : rowG w = some (d, qs)) : v = w := by
  unfold rowG at h h'
  split at h
  · cases h
    split at h'
    · rfl
    · cases h'
    · cases h'
  · cases h
    split at h'
    · cases h'
    · have e := (Prod.mk.inj (Option.some.inj h')).1
      simp only [DataW.agg.injEq, List.cons.injEq, DataW.lit.injEq, Lit.int.injEq, true_and, and_true] at e
      obtain ⟨e1, e2, e3⟩ := e
      have f1 := Int.ofNat.inj e1
      have f2 := Int.ofNat.inj e2
      have f3 := Int.ofNat.inj e3
      subst f1; subst f2; subst f3
      rfl
    · cases h'
  · cases h
abbrev OwE (w : World) (B : Nat) (v : Value) (ds : Ds) : Prop := OwnD w B 42 v ds
theorem own_rowG {w : World} {B : Nat} {v : Value} {ds : Ds} (h : OwE w B v ds) : ∃ d, rowG v = some (d, []) := by
  rcases h.2 with ⟨rfl, _⟩ | ⟨g, cap, cur, rfl, _⟩
  · exact ⟨_, rfl⟩
  · exact ⟨_, rfl⟩
theorem rowG_inv (v : Value) (y : DV × List MemPlace) (h : rowG v = some y) : ∃ c : Option (Nat × Nat × Nat), v = (match c with | none => .slice none 0 0 | some (b, n, k) => .slice (some ⟨b, 0, none⟩) n k) := by
  unfold rowG at h
  split at h
  · exact ⟨none, rfl⟩
  · exact ⟨some (_, _, _), rfl⟩
  · cases h
/-- edges by nodes, in the map of block m -/
structure GM (B : Nat) (V : Nat → Prop) (w : World) (m n : Nat) (D : DV) (f : List Nat → Option Ds) : Prop where
  bm : B ≤ m
  vm : V m
  mp : w.ownsMap Try.prog 42 rowG m n D
  vs : ∀ s, D32 s → (Maps.has D (keyD s) = false ∧ f s = none) ∨ ∃ v ds, f s = some ds ∧ Maps.has D (keyD s) = true ∧ rowG v = some (D.atKey (keyD s) .nil, []) ∧ OwE w B v ds ∧ (∀ d ∈ ds, D32 d) ∧ ∀ k, v.ownBlock = some k → V k
  ks : ∃ l : List (List Nat), l.Nodup ∧ (∀ s, s ∈ l ↔ D32 s ∧ (f s).isSome = true) ∧ l.length = Maps.size D
theorem GM.made (w : World) (B : Nat) (V : Nat → Prop) (hB : B ≤ w.heap.size) (hV : V w.heap.size) : GM B V (w.alloc (.map #[] 0)) w.heap.size 0 (.map []) fun _ => none :=
  ⟨hB, hV, World.ownsMap_made w Try.prog 42 rowG, fun s _ => .inl ⟨rfl, rfl⟩, [], List.nodup_nil, fun s => by simp, rfl⟩
theorem GM.hasF {B m n : Nat} {V : Nat → Prop} {w : World} {D : DV} {f : List Nat → Option Ds} (h : GM B V w m n D f) {s : List Nat} (hs : D32 s) : Maps.has D (keyD s) = (f s).isSome := by
  rcases h.vs s hs with ⟨h1, h2⟩ | ⟨v, zs, h1, h2, _⟩
  · rw [h1, h2]; rfl
  · rw [h2, h1]; rfl
theorem gmap_block {w : World} {k : TypeId} {R : Value → Option (DV × List MemPlace)} {b n : Nat} {D : DV} (h : w.ownsMap Try.prog k R b n D) : ∃ es clock, w.heap[b]? = some (.map es clock) := by
  obtain ⟨es, clock, hb, r⟩ := h
  exact ⟨es, clock, hb⟩
theorem ownE_block {w : World} {B k : Nat} {v : Value} {ds : Ds} (ho : OwE w B v ds) (e : v.ownBlock = some k) : ∃ cap cur, v = .slice (some ⟨k, 0, none⟩) ds.length cap ∧ w.heap[k]? = some (.cells cur 42 (0, 0)) := by
  rcases ho.2 with ⟨rfl, _⟩ | ⟨g, cap, cur, rfl, _, hg, _⟩
  · cases e
  · cases e
    exact ⟨cap, cur, rfl, hg⟩
theorem ownE_notmap {w : World} {k : TypeId} {R : Value → Option (DV × List MemPlace)} {B b n : Nat} {D : DV} {v : Value} {ds : Ds} (h : w.ownsMap Try.prog k R b n D) (ho : OwE w B v ds) : v.ownBlock = none ∨ v.ownBlock ≠ some b := by
  right
  intro e
  obtain ⟨es, cl, hb⟩ := gmap_block h
  obtain ⟨_, cur, _, hc⟩ := ownE_block ho e
  rw [hb] at hc
  cases hc
theorem ownE_keep {w w' : World} {B : Nat} {v : Value} {ds : Ds} (h : OwE w B v ds) (hk : ∀ k, v.ownBlock = some k → w'.heap[k]? = w.heap[k]?) : OwE w' B v ds := by
  refine ⟨h.1, h.2.imp id fun ⟨g, cap, cur, e, hb, hg, r⟩ => ⟨g, cap, cur, e, hb, ?_, r⟩⟩
  exact (hk g (by rw [e]; rfl)).trans hg
theorem GM.keep {B m n : Nat} {V : Nat → Prop} {w w' : World} {D : DV} {f : List Nat → Option Ds} (h : GM B V w m n D f) (hk : ∀ k, k < w.heap.size → V k → w'.heap[k]? = w.heap[k]?) : GM B V w' m n D f := by
  refine ⟨h.bm, h.vm, ?_, fun s hs => (h.vs s hs).imp id fun ⟨v, ds, e1, e2, e3, e4, e5, e6⟩ => ⟨v, ds, e1, e2, e3, ownE_keep e4 fun k e => hk k (e4.block k e).2 (e6 k e), e5, e6⟩, h.ks⟩
  obtain ⟨es, clock, hh, r⟩ := h.mp
  exact ⟨es, clock, (hk m (Array.getElem?_eq_some_iff.1 hh).1 h.vm).trans hh, r⟩
theorem GM.moreV {B m n : Nat} {V V' : Nat → Prop} {w : World} {D : DV} {f : List Nat → Option Ds} (h : GM B V w m n D f) (hV : ∀ k, V k → V' k) : GM B V' w m n D f :=
  ⟨h.bm, hV m h.vm, h.mp, fun s hs => (h.vs s hs).imp id fun ⟨v, zs, e1, e2, e3, e4, e5, e6⟩ => ⟨v, zs, e1, e2, e3, e4, e5, fun k e => hV k (e6 k e)⟩, h.ks⟩
theorem zeroSlG (w : World) : (zeroValue 38).run Try.prog w = .ok (.slice none 0 0) w := by kernel_rfl
set_option maxRecDepth 100000 in
/-- v, ok := m[s] -/
theorem GM.look {B m n : Nat} {V : Nat → Prop} {w : World} {D : DV} {f : List Nat → Option Ds} (h : GM B V w m n D f) {s : List Nat} (hs : D32 s) : ∃ v, (Instr.lookup 70 (.map (some m)) (.agg (cellsOf s).toArray) true).run Try.prog w = .ok (.tuple #[v, .bool (f s).isSome]) w ∧ OwE w B v ((f s).getD []) ∧ (∀ d ∈ (f s).getD [], D32 d) ∧ (∀ k, v.ownBlock = some k → V k) := by
  obtain ⟨v, ps, hrun, hv⟩ := h.mp.look_ok gLaw Try.underlying70 (zeroSlG w) (zd := .nil) (zp := []) rfl (keyOkD hs)
  rcases h.vs s hs with ⟨h1, h2⟩ | ⟨v0, zs, h1, h2, h3, h4, h5, h6⟩
  · rw [Maps.atKey_of_not_has h1] at hv
    obtain rfl := rowG_nil hv
    exact ⟨_, by rw [hrun, h1, h2]; rfl, by rw [h2]; exact OwnD.nil _ _ _, by rw [h2]; simp, fun k e => by cases e⟩
  · obtain rfl := rowG_inj hv h3
    exact ⟨_, by rw [hrun, h1, h2]; rfl, by rw [h1]; exact h4, by rw [h1]; exact h5, h6⟩
set_option maxRecDepth 100000 in
/-- m[s] = v -/
theorem GM.put {B m n : Nat} {V : Nat → Prop} {w : World} {D : DV} {f : List Nat → Option Ds} (h : GM B V w m n D f) {s : List Nat} (hs : D32 s) (hn : n < maxLen) {v : Value} {ds : Ds} (hv : OwE w B v ds) (hz : ∀ d ∈ ds, D32 d) (hV : ∀ k, v.ownBlock = some k → V k) :
    ∃ w' D', (Instr.mapUpdate 70 (.map (some m)) (.agg (cellsOf s).toArray) v).run Try.prog w = .ok () w' ∧ GM B V w' m (n + 1) D' (fun t => if t = s then some ds else f t) ∧ w.grownBy w' (some m) := by
  obtain ⟨d, hd⟩ := own_rowG hv
  obtain ⟨w', h5, h6, h7⟩ := h.mp.store gLaw Try.underlying70 hn (keyOkD hs) hd
  have hg := h7.grown
  have hks : ∃ l : List (List Nat), l.Nodup ∧ (∀ t, t ∈ l ↔ D32 t ∧ ((fun t => if t = s then some ds else f t) t).isSome = true) ∧ l.length = Maps.size (D.put (keyD s) d) := by
    obtain ⟨l, l1, l2, l3⟩ := h.ks
    have hsz := size_put (k := keyD s) (h.mp.tidy gLaw) d
    rw [h.hasF hs] at hsz
    cases hf : (f s).isSome with
    | true =>
      refine ⟨l, l1, fun t => ?_, by rw [hsz, hf, if_pos rfl]; exact l3⟩
      by_cases e : t = s
      · subst e; simp [l2, hf, hs]
      · simp [l2, e]
    | false =>
      have hns : s ∉ l := fun hm => by rw [((l2 s).1 hm).2] at hf; cases hf
      refine ⟨s :: l, List.nodup_cons.2 ⟨hns, l1⟩, fun t => ?_, by rw [hsz, hf, if_neg (by decide), List.length_cons, l3]⟩
      by_cases e : t = s
      · subst e; simp [hs]
      · simp [l2, e]
  refine ⟨w', _, h5, ⟨h.bm, h.vm, h6, fun t ht => ?_, hks⟩, hg⟩
  by_cases e : t = s
  · subst e
    refine .inr ⟨v, ds, by simp, has_put_same h.mp.isMap (keyD_key hs) _, ?_, World.ownsRow.kept hv hg (ownE_notmap h.mp hv), hz, hV⟩
    rw [atKey_put_same h.mp.isMap (keyD_key hs)]
    exact hd
  · simp only [if_neg e]
    rcases h.vs t ht with ⟨k1, k2⟩ | ⟨v0, ys, k1, k2, k3, k4, k5⟩
    · exact .inl ⟨(has_put_other (fun x => e (keyD_inj ht hs x)) _).trans k1, k2⟩
    · exact .inr ⟨v0, ys, k1, (has_put_other (fun x => e (keyD_inj ht hs x)) _).trans k2, by rw [atKey_put_other (fun x => e (keyD_inj ht hs x))]; exact k3, World.ownsRow.kept k4 hg (ownE_notmap h.mp k4), k5⟩
set_option maxRecDepth 100000 in
/-- delete(m, s) -/
theorem GM.del {B m n : Nat} {V : Nat → Prop} {w : World} {D : DV} {f : List Nat → Option Ds} (h : GM B V w m n D f) {s : List Nat} (hs : D32 s) (ty : TypeId) :
    ∃ w' D', (Builtin.delete_ #[70, 42] ty #[.map (some m), .agg (cellsOf s).toArray]).run Try.prog w = .ok (.tuple #[]) w' ∧ GM B V w' m n D' (fun t => if t = s then none else f t) ∧ w.grownBy w' (some m) := by
  obtain ⟨w', h5, h6, h7⟩ := h.mp.drop gLaw Try.underlying70 (keyOkD hs) ty
  have hg := h7.grown
  have hks : ∃ l : List (List Nat), l.Nodup ∧ (∀ t, t ∈ l ↔ D32 t ∧ ((fun t => if t = s then none else f t) t).isSome = true) ∧ l.length = Maps.size (D.del (keyD s)) := by
    obtain ⟨l, l1, l2, l3⟩ := h.ks
    have hsz := size_del (k := keyD s) (h.mp.tidy gLaw)
    rw [h.hasF hs] at hsz
    refine ⟨l.filter (fun t => decide (t ≠ s)), l1.filter _, fun t => ?_, ?_⟩
    · by_cases e : t = s
      · subst e; simp
      · simp [l2, e]
    cases hf : (f s).isSome with
    | true =>
      rw [hf, if_pos rfl] at hsz
      have hm := (l2 s).2 ⟨hs, hf⟩
      have hp : (s :: l.filter (fun t => decide (t ≠ s))).Perm l := (List.perm_ext_iff_of_nodup (List.nodup_cons.2 ⟨by simp, l1.filter _⟩) l1).2 fun t => by
        by_cases e : t = s
        · subst e; simp [hm]
        · simp [e]
      have hl := hp.length_eq
      rw [List.length_cons] at hl
      omega
    | false =>
      rw [hf, if_neg (by decide)] at hsz
      have : l.filter (fun t => decide (t ≠ s)) = l := List.filter_eq_self.2 fun t ht => by
        have h2 := ((l2 t).1 ht).2
        simp only [ne_eq, decide_not, Bool.not_eq_eq_eq_not, Bool.not_true, decide_eq_false_iff_not]
        intro e
        subst e
        rw [hf] at h2
        cases h2
      rw [this]
      omega
  refine ⟨w', _, h5, ⟨h.bm, h.vm, h6, fun t ht => ?_, hks⟩, hg⟩
  by_cases e : t = s
  · subst e
    exact .inl ⟨has_del_same, by simp⟩
  · simp only [if_neg e]
    rcases h.vs t ht with ⟨k1, k2⟩ | ⟨v0, ys, k1, k2, k3, k4, k5⟩
    · exact .inl ⟨(has_del_other (fun x => e (keyD_inj ht hs x))).trans k1, k2⟩
    · exact .inr ⟨v0, ys, k1, (has_del_other (fun x => e (keyD_inj ht hs x))).trans k2, by rw [atKey_del_other (fun x => e (keyD_inj ht hs x))]; exact k3, World.ownsRow.kept k4 hg (ownE_notmap h.mp k4), k5⟩
/-- an entry of a set -/
def setG : Value → Option (DV × List MemPlace)
  | .agg cs => if cs.size = 0 then some (.lit (.bool true), []) else none
  | _ => none
theorem setG_inv (v : Value) (y : DV × List MemPlace) (h : setG v = some y) : v = .agg #[] := by
  unfold setG at h
  split at h
  · split at h
    · rename_i hs
      rw [Array.eq_empty_of_size_eq_zero hs]
    · cases h
  · cases h
/-- a set of sums in the map of block m -/
structure BM (w : World) (m n : Nat) (D : DV) (b : List Nat → Bool) : Prop where
  mp : w.ownsMap Try.prog 42 setG m n D
  vs : ∀ s, D32 s → Maps.has D (keyD s) = b s
  ks : ∃ l : List (List Nat), l.Nodup ∧ (∀ s, s ∈ l ↔ D32 s ∧ b s = true) ∧ l.length = Maps.size D
theorem BM.made (w : World) : BM (w.alloc (.map #[] 0)) w.heap.size 0 (.map []) fun _ => false :=
  ⟨World.ownsMap_made w Try.prog 42 setG, fun s _ => rfl, [], List.nodup_nil, fun s => by simp, rfl⟩
theorem BM.keep {m n : Nat} {w w' : World} {D : DV} {b : List Nat → Bool} (h : BM w m n D b) (hk : w'.heap[m]? = w.heap[m]?) : BM w' m n D b := by
  refine ⟨?_, h.vs, h.ks⟩
  obtain ⟨es, clock, hh, r⟩ := h.mp
  exact ⟨es, clock, hk.trans hh, r⟩
theorem zeroSt (w : World) : (zeroValue 84).run Try.prog w = .ok (.agg #[]) w := by kernel_rfl
set_option maxRecDepth 100000 in
theorem BM.look {m n : Nat} {w : World} {D : DV} {b : List Nat → Bool} (h : BM w m n D b) {s : List Nat} (hs : D32 s) : (Instr.lookup 74 (.map (some m)) (.agg (cellsOf s).toArray) true).run Try.prog w = .ok (.tuple #[.agg #[], .bool (b s)]) w := by
  obtain ⟨v, ps, hrun, hv⟩ := h.mp.look_ok gLaw Try.underlying74 (zeroSt w) (zd := .lit (.bool true)) (zp := []) rfl (keyOkD hs)
  obtain rfl := setG_inv _ _ hv
  rw [hrun, h.vs s hs]
set_option maxRecDepth 100000 in
theorem BM.put {m n : Nat} {w : World} {D : DV} {b : List Nat → Bool} (h : BM w m n D b) {s : List Nat} (hs : D32 s) (hn : n < maxLen) :
    ∃ w' D', (Instr.mapUpdate 74 (.map (some m)) (.agg (cellsOf s).toArray) (.agg #[])).run Try.prog w = .ok () w' ∧ BM w' m (n + 1) D' (fun t => if t = s then true else b t) ∧ w.grownBy w' (some m) := by
  obtain ⟨w', h5, h6, h7⟩ := h.mp.store gLaw Try.underlying74 hn (keyOkD hs) (d := .lit (.bool true)) (ps := []) (val := .agg #[]) rfl
  refine ⟨w', _, h5, ⟨h6, fun t ht => ?_, ?_⟩, h7.grown⟩
  · by_cases e : t = s
    · subst e
      simp only [if_true]
      exact has_put_same h.mp.isMap (keyD_key hs) _
    · simp only [if_neg e]
      exact (has_put_other (fun x => e (keyD_inj ht hs x)) _).trans (h.vs t ht)
  · obtain ⟨l, l1, l2, l3⟩ := h.ks
    have hsz := size_put (k := keyD s) (h.mp.tidy gLaw) (DataW.lit (.bool true))
    rw [h.vs s hs] at hsz
    cases hf : b s with
    | true =>
      refine ⟨l, l1, fun t => ?_, by rw [hsz, hf, if_pos rfl]; exact l3⟩
      by_cases e : t = s
      · subst e; simp [l2, hf, hs]
      · simp [l2, e]
    | false =>
      have hns : s ∉ l := fun hm => by rw [((l2 s).1 hm).2] at hf; cases hf
      refine ⟨s :: l, List.nodup_cons.2 ⟨hns, l1⟩, fun t => ?_, by rw [hsz, hf, if_neg (by decide), List.length_cons, l3]⟩
      by_cases e : t = s
      · subst e; simp [hs]
      · simp [l2, e]
set_option maxRecDepth 100000 in
theorem BM.del {m n : Nat} {w : World} {D : DV} {b : List Nat → Bool} (h : BM w m n D b) {s : List Nat} (hs : D32 s) (ty : TypeId) :
    ∃ w' D', (Builtin.delete_ #[74, 42] ty #[.map (some m), .agg (cellsOf s).toArray]).run Try.prog w = .ok (.tuple #[]) w' ∧ BM w' m n D' (fun t => if t = s then false else b t) ∧ w.grownBy w' (some m) := by
  obtain ⟨w', h5, h6, h7⟩ := h.mp.drop gLaw Try.underlying74 (keyOkD hs) ty
  refine ⟨w', _, h5, ⟨h6, fun t ht => ?_, ?_⟩, h7.grown⟩
  · by_cases e : t = s
    · subst e
      simp only [if_true]
      exact has_del_same
    · simp only [if_neg e]
      exact (has_del_other (fun x => e (keyD_inj ht hs x))).trans (h.vs t ht)
  · obtain ⟨l, l1, l2, l3⟩ := h.ks
    have hsz := size_del (k := keyD s) (h.mp.tidy gLaw)
    rw [h.vs s hs] at hsz
    refine ⟨l.filter (fun t => decide (t ≠ s)), l1.filter _, fun t => ?_, ?_⟩
    · by_cases e : t = s
      · subst e; simp
      · simp [l2, e]
    cases hf : b s with
    | true =>
      rw [hf, if_pos rfl] at hsz
      have hm := (l2 s).2 ⟨hs, hf⟩
      have hp : (s :: l.filter (fun t => decide (t ≠ s))).Perm l := (List.perm_ext_iff_of_nodup (List.nodup_cons.2 ⟨by simp, l1.filter _⟩) l1).2 fun t => by
        by_cases e : t = s
        · subst e; simp [hm]
        · simp [e]
      have hl := hp.length_eq
      rw [List.length_cons] at hl
      omega
    | false =>
      rw [hf, if_neg (by decide)] at hsz
      have : l.filter (fun t => decide (t ≠ s)) = l := List.filter_eq_self.2 fun t ht => by
        have h2 := ((l2 t).1 ht).2
        simp only [ne_eq, decide_not, Bool.not_eq_eq_eq_not, Bool.not_true, decide_eq_false_iff_not]
        intro e
        subst e
        rw [hf] at h2
        cases h2
      rw [this]
      omega
end Go.Proofs.Ytpppffgchgcghaa
