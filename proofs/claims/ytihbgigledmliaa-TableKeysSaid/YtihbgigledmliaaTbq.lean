/-
  A table's values in memory: a map of slices of bytes, as a plain function of the keys. The table's put: changes done in memory. The table's Get, ready, keep, noted.
-/
import Derived.Test.YtihbgigledmliaaTbc
import Derived.Test.YtihbgigledmliaaDkab
import Derived.Test.YtihbgigledmliaaJoad
import Derived.Test.YtihbgigledmliaaJof
namespace Go.Proofs.Ytihbgigledmliaa
open Go.RowKit Go.Maps
set_option linter.unusedVariables false
/-- how a slice of bytes reads: its place -/
def rowR : Value → Option (DU × List MemPlace)
  | .slice none 0 0 => some (.nil, [])
  | .slice (some ⟨b, 0, none⟩) n c => some (.agg [.lit (.int .u64 (b : Int)), .lit (.int .u64 (n : Int)), .lit (.int .u64 (c : Int))], [])
  | _ => none
theorem rowR_nil {v : Value} {ps : List MemPlace} (h : rowR v = some (.nil, ps)) : v = .slice none 0 0 := by
  unfold rowR at h
  split at h
  · rfl
  · cases h
  · cases h
theorem rowR_inj {v w : Value} {d : DU} {ps qs : List MemPlace} (h : rowR v = some (d, ps)) (h' : rowR w = some (d, qs)) : v = w := by
  unfold rowR at h h'
  split at h
  · cases h
    split at h'
    · rfl
    · cases h'
    · cases h'
  · cases h
    split at h'
    · cases h'
    · have e := (Prod.mk.inj (Option.some.inj h')).1
      simp only [DataW.agg.injEq, List.cons.injEq, DataW.lit.injEq, Lit.int.injEq, true_and, and_true] at e
      obtain ⟨e1, e2, e3⟩ := e
      have f1 := Int.ofNat.inj e1
      have f2 := Int.ofNat.inj e2
      have f3 := Int.ofNat.inj e3
      subst f1; subst f2; subst f3
      rfl
    · cases h'
  · cases h
theorem own_rowR {w : World} {B : Nat} {v : Value} {zs : List Nat} (h : Own w B v zs) : ∃ d, rowR v = some (d, []) := by
  rcases h.2 with ⟨rfl, _⟩ | ⟨g, cap, cur, rfl, _⟩
  · exact ⟨_, rfl⟩
  · exact ⟨_, rfl⟩
/-- values by keys, in the map of block m -/
structure TM (B : Nat) (V : Nat → Prop) (w : World) (m n : Nat) (D : DU) (f : ByteArray → Option (List Nat)) : Prop where
  bm : B ≤ m
  mp : w.ownsMap Try.prog 9 rowR m n D
  vs : ∀ s : ByteArray, (Maps.has D (keyS s) = false ∧ f s = none) ∨ ∃ v zs, f s = some zs ∧ Maps.has D (keyS s) = true ∧ rowR v = some (D.atKey (keyS s) .nil, []) ∧ Own w B v zs ∧ (∀ z ∈ zs, z < 256) ∧ ∀ k, v.ownBlock = some k → V k
  ks : ∃ l : List ByteArray, l.Nodup ∧ (∀ s, s ∈ l ↔ (f s).isSome = true) ∧ l.length = Maps.size D
theorem TM.made (w : World) (B : Nat) (V : Nat → Prop) (hB : B ≤ w.heap.size) : TM B V (w.alloc (.map #[] 0)) w.heap.size 0 (.map []) fun _ => none :=
  ⟨hB, World.ownsMap_made w Try.prog 9 rowR, fun s => .inl ⟨rfl, rfl⟩, [], List.nodup_nil, fun s => by simp, rfl⟩
theorem TM.hasF {B m n : Nat} {V : Nat → Prop} {w : World} {D : DU} {f : ByteArray → Option (List Nat)} (h : TM B V w m n D f) (s : ByteArray) : Maps.has D (keyS s) = (f s).isSome := by
  rcases h.vs s with ⟨h1, h2⟩ | ⟨v, zs, h1, h2, _⟩
  · rw [h1, h2]; rfl
  · rw [h2, h1]; rfl
theorem tmap_block {w : World} {b n : Nat} {D : DU} (h : w.ownsMap Try.prog 9 rowR b n D) : ∃ es clock, w.heap[b]? = some (.map es clock) := by
  obtain ⟨es, clock, hb, r⟩ := h
  exact ⟨es, clock, hb⟩
/-- bytes lie in no map's block -/
theorem own_notmap {w : World} {B b n : Nat} {D : DU} {v : Value} {zs : List Nat} (h : w.ownsMap Try.prog 9 rowR b n D) (ho : Own w B v zs) : v.ownBlock = none ∨ v.ownBlock ≠ some b := by
  right
  intro e
  obtain ⟨es, cl, hb⟩ := tmap_block h
  obtain ⟨_, cur, hc⟩ := row_block ho e
  rw [hb] at hc
  cases hc
theorem TM.below {B m n : Nat} {V : Nat → Prop} {w w' : World} {D : DU} {f : ByteArray → Option (List Nat)} (h : TM B V w m n D f) (hb : Below w.heap.size w w') : TM B V w' m n D f := by
  refine ⟨h.bm, ?_, fun s => (h.vs s).imp id fun ⟨v, zs, e1, e2, e3, e4, e5⟩ => ⟨v, zs, e1, e2, e3, e4.keep hb, e5⟩, h.ks⟩
  obtain ⟨es, clock, hh, r⟩ := h.mp
  exact ⟨es, clock, (hb.block m (Array.getElem?_eq_some_iff.1 hh).1).trans hh, r⟩
theorem zeroSl (w : World) : (zeroValue 41).run Try.prog w = .ok (.slice none 0 0) w := by kernel_rfl
/-- v, ok := m[s] -/
theorem TM.look {B m n : Nat} {V : Nat → Prop} {w : World} {D : DU} {f : ByteArray → Option (List Nat)} (h : TM B V w m n D f) {s : ByteArray} (hs : s.size ≤ maxLen) : ∃ v, (Instr.lookup 58 (.map (some m)) (.string s) true).run Try.prog w = .ok (.tuple #[v, .bool (f s).isSome]) w ∧ Own w B v ((f s).getD []) ∧ ∀ z ∈ (f s).getD [], z < 256 := by
  obtain ⟨v, ps, hrun, hv⟩ := h.mp.look_ok mapLaw Try.underlying58 (zeroSl w) (zd := .nil) (zp := []) rfl (keyOk hs)
  rcases h.vs s with ⟨h1, h2⟩ | ⟨v0, zs, h1, h2, h3, h4, h5⟩
  · refine ⟨v, by rw [hrun, h1, h2]; rfl, ?_, by rw [h2]; simp⟩
    rw [Maps.atKey_of_not_has h1] at hv
    rw [rowR_nil hv, h2]
    exact Own.nil _ _
  · refine ⟨v, by rw [hrun, h1, h2]; rfl, ?_, by rw [h1]; exact h5.1⟩
    rw [rowR_inj hv h3, h1]
    exact h4
/-- m[s] = v -/
theorem TM.put {B m n : Nat} {V : Nat → Prop} {w : World} {D : DU} {f : ByteArray → Option (List Nat)} (h : TM B V w m n D f) {s : ByteArray} (hs : s.size ≤ maxLen) (hn : n < maxLen) {v : Value} {zs : List Nat} (hv : Own w B v zs) (hz : ∀ z ∈ zs, z < 256) (hV : ∀ k, v.ownBlock = some k → V k) :
    ∃ w' D', (Instr.mapUpdate 58 (.map (some m)) (.string s) v).run Try.prog w = .ok () w' ∧ TM B V w' m (n + 1) D' (fun t => if t = s then some zs else f t) ∧ w.grownBy w' (some m) := by
  obtain ⟨d, hd⟩ := own_rowR hv
  obtain ⟨w', h5, h6, h7⟩ := h.mp.store mapLaw Try.underlying58 hn (keyOk hs) hd
  have hg := h7.grown
  have hks : ∃ l : List ByteArray, l.Nodup ∧ (∀ t, t ∈ l ↔ ((fun t => if t = s then some zs else f t) t).isSome = true) ∧ l.length = Maps.size (D.put (keyS s) d) := by
    obtain ⟨l, l1, l2, l3⟩ := h.ks
    have hsz := size_put (k := keyS s) (h.mp.tidy mapLaw) d
    rw [h.hasF s] at hsz
    cases hf : (f s).isSome with
    | true =>
      refine ⟨l, l1, fun t => ?_, by rw [hsz, hf, if_pos rfl]; exact l3⟩
      by_cases e : t = s
      · subst e; simp [l2, hf]
      · simp [l2, e]
    | false =>
      have hns : s ∉ l := fun hm => by rw [(l2 s).1 hm] at hf; cases hf
      refine ⟨s :: l, List.nodup_cons.2 ⟨hns, l1⟩, fun t => ?_, by rw [hsz, hf, if_neg (by decide), List.length_cons, l3]⟩
      by_cases e : t = s
      · subst e; simp
      · simp [l2, e]
  refine ⟨w', _, h5, ⟨h.bm, h6, fun t => ?_, hks⟩, hg⟩
  by_cases e : t = s
  · subst e
    refine .inr ⟨v, zs, by simp, has_put_same h.mp.isMap (by trivial) _, ?_, World.ownsRow.kept hv hg (own_notmap h.mp hv), hz, hV⟩
    rw [atKey_put_same h.mp.isMap (by trivial)]
    exact hd
  · simp only [if_neg e]
    rcases h.vs t with ⟨k1, k2⟩ | ⟨v0, ys, k1, k2, k3, k4, k5⟩
    · exact .inl ⟨(has_put_other (fun x => e (keyS_inj x)) _).trans k1, k2⟩
    · exact .inr ⟨v0, ys, k1, (has_put_other (fun x => e (keyS_inj x)) _).trans k2, by rw [atKey_put_other (fun x => e (keyS_inj x))]; exact k3, World.ownsRow.kept k4 hg (own_notmap h.mp k4), k5⟩
/-- delete(m, s) -/
theorem TM.del {B m n : Nat} {V : Nat → Prop} {w : World} {D : DU} {f : ByteArray → Option (List Nat)} (h : TM B V w m n D f) {s : ByteArray} (hs : s.size ≤ maxLen) (ty : TypeId) :
    ∃ w' D', (Builtin.delete_ #[58, 9] ty #[.map (some m), .string s]).run Try.prog w = .ok (.tuple #[]) w' ∧ TM B V w' m n D' (fun t => if t = s then none else f t) ∧ w.grownBy w' (some m) := by
  obtain ⟨w', h5, h6, h7⟩ := h.mp.drop mapLaw Try.underlying58 (keyOk hs) ty
  have hg := h7.grown
  have hks : ∃ l : List ByteArray, l.Nodup ∧ (∀ t, t ∈ l ↔ ((fun t => if t = s then none else f t) t).isSome = true) ∧ l.length = Maps.size (D.del (keyS s)) := by
    obtain ⟨l, l1, l2, l3⟩ := h.ks
    have hsz := size_del (k := keyS s) (h.mp.tidy mapLaw)
    rw [h.hasF s] at hsz
    cases hf : (f s).isSome with
    | true =>
      rw [hf, if_pos rfl] at hsz
      have hm := (l2 s).2 hf
      have hp : (s :: l.filter (fun t => decide (t ≠ s))).Perm l := (List.perm_ext_iff_of_nodup (List.nodup_cons.2 ⟨by simp, l1.filter _⟩) l1).2 fun t => by
        by_cases e : t = s
        · subst e; simp [hm]
        · simp [e]
      have hl := hp.length_eq
      rw [List.length_cons] at hl
      refine ⟨l.filter (fun t => decide (t ≠ s)), l1.filter _, fun t => ?_, by omega⟩
      by_cases e : t = s
      · subst e; simp
      · simp [l2, e]
    | false =>
      rw [hf, if_neg (by decide)] at hsz
      refine ⟨l, l1, fun t => ?_, by omega⟩
      by_cases e : t = s
      · subst e; simp [l2, hf]
      · simp [l2, e]
  refine ⟨w', _, h5, ⟨h.bm, h6, fun t => ?_, hks⟩, hg⟩
  by_cases e : t = s
  · subst e
    exact .inl ⟨has_del_same, by simp⟩
  · simp only [if_neg e]
    rcases h.vs t with ⟨k1, k2⟩ | ⟨v0, ys, k1, k2, k3, k4, k5⟩
    · exact .inl ⟨(has_del_other (fun x => e (keyS_inj x))).trans k1, k2⟩
    · exact .inr ⟨v0, ys, k1, (has_del_other (fun x => e (keyS_inj x))).trans k2, by rw [atKey_del_other (fun x => e (keyS_inj x))]; exact k3, World.ownsRow.kept k4 hg (own_notmap h.mp k4), k5⟩
theorem TM.moreV {B m n : Nat} {V V' : Nat → Prop} {w : World} {D : DU} {f : ByteArray → Option (List Nat)} (h : TM B V w m n D f) (hV : ∀ k, V k → V' k) : TM B V' w m n D f :=
  ⟨h.bm, h.mp, fun s => (h.vs s).imp id fun ⟨v, zs, e1, e2, e3, e4, e5, e6⟩ => ⟨v, zs, e1, e2, e3, e4, e5, fun k e => hV k (e6 k e)⟩, h.ks⟩
/-- len(m) -/
theorem TM.len {B m n : Nat} {V : Nat → Prop} {w : World} {D : DU} {f : ByteArray → Option (List Nat)} (h : TM B V w m n D f) (ty : TypeId) : ∃ l : List ByteArray, l.Nodup ∧ (∀ s, s ∈ l ↔ (f s).isSome = true) ∧ l.length = Maps.size D ∧ (Builtin.len_ #[58] ty #[.map (some m)]).run Try.prog w = .ok (.int .i64 (l.length : Nat)) w := by
  obtain ⟨l, l1, l2, l3⟩ := h.ks
  exact ⟨l, l1, l2, l3, by rw [l3]; exact h.mp.len Try.underlying58 ty⟩
end Go.Proofs.Ytihbgigledmliaa
namespace Go.Proofs.Ytihbgigledmliaa
open Go.RowKit Go.Maps
set_option linter.unusedVariables false
theorem tclone_c (s : ByteArray) (w : World) (hs : s.size ≤ 400) : Calls Try.prog 27 #[.string s] w fun e w' => e = .returned (.string s) ∧ Below w.heap.size w w' := by
  have H := Lib.hid (stringslite_Clone s w (by omega))
  go_enter Try.func27, Try.ntmps27
  go_wp2_with fail
  refine H.out.mono ?_
  rintro e1 w1 ⟨rfl, hb⟩
  have HB := Lib.hid hb
  clear hb H
  go_wp2_with fail
  go_ret
  exact ⟨rfl, HB.out⟩
theorem exec_delete {P : Program} {a : Act} {o : Oper} {w w' : World} {x y : Operand} {t s : TypeId} {v u r : Value} (ho : o.op = .call { callee := .builtin .delete, args := #[x, y], argTypes := #[t, s] }) (hx : a.eval x = v) (hy : a.eval y = u)
    (hr : (Builtin.delete_ #[t, s] o.type #[v, u]).run P w = .ok r w') : (execOp a.eval o).run P w = .ok (.value r) w' := by
  unfold execOp
  simp only [ho]
  rw [Sem.run_bind]
  unfold resolve
  simp only [Sem.run_pure, Result.andThen_ok, invoke, builtin, List.map_toArray, List.map_cons, List.map_nil, hx, hy]
  rw [Sem.run_bind, hr]
  rfl
theorem wp_mapUpdT {P : Program} {op : Oper} {a : Act} {w w' : World} {K : Act → World → Prop} {Q : Exit → Act → World → Prop} (t : TypeId) (m x v : Operand) (ho : op.op = .mapUpdate t m x v) (mv kv vv : Value) (hm : a.eval m = mv) (hx : a.eval x = kv) (hv : a.eval v = vv) (hrun : (Instr.mapUpdate t mv kv vv).run P w = .ok () w') (h : K (a.put op.dst undef) w') : op.wp P a w K Q := by
  unfold Oper.wp
  simp [execOp, ho, hm, hx, hv, hrun, Result.andThen]
  exact h
theorem run_cell_tm (W : World) (p : Addr) (m : Nat) (hc : W.cell? p = some (.map (some m))) : (Instr.loadAt 58 (.pointer (some p))).run Try.prog W = .ok (.map (some m)) W := by go_simp
/-- all old blocks but one stand -/
def Kb (w w' : World) (m : Nat) : Prop := w.heap.size ≤ w'.heap.size ∧ (∀ k, k < w.heap.size → k ≠ m → w'.heap[k]? = w.heap[k]?) ∧ ∀ B, B ≤ m → B ≤ w.heap.size → Below B w w'
theorem Kb.refl (w : World) (m : Nat) : Kb w w m := ⟨Nat.le_refl _, fun _ _ _ => rfl, fun B _ _ => Below.refl _ _⟩
theorem Kb.below {w w1 w2 : World} {m : Nat} (h : Kb w w1 m) (hb : Below w1.heap.size w1 w2) : Kb w w2 m := ⟨Nat.le_trans h.1 hb.size, fun k hk hn => (hb.block k (Nat.lt_of_lt_of_le hk h.1)).trans (h.2.1 k hk hn), fun B h1 h2 => (h.2.2 B h1 h2).trans (hb.mono (Nat.le_trans h2 h.1))⟩
theorem Kb.grown {w w1 w2 : World} {m : Nat} (h : Kb w w1 m) (hg : w1.grownBy w2 (some m)) : Kb w w2 m := ⟨Nat.le_trans h.1 hg.size, fun k hk hn => (hg.block k (Nat.lt_of_lt_of_le hk h.1) fun e => hn (by simpa using e)).trans (h.2.1 k hk hn), fun B h1 h2 => (h.2.2 B h1 h2).grown hg (Nat.le_trans h2 h.1) fun k hk => by cases hk; exact h1⟩
theorem Kb.cell {w w' : World} {m : Nat} (h : Kb w w' m) {p : Addr} (hp : p.block < w.heap.size) (hn : p.block ≠ m) : w'.cell? p = w.cell? p := World.cell?_of_block (h.2.1 p.block hp hn)
theorem cell_notmap {w : World} {m : Nat} {es : Array MapEntry} {cl : Nat} (hm : w.heap[m]? = some (.map es cl)) {p : Addr} {v : Value} (hc : w.cell? p = some v) : p.block ≠ m := by
  intro e
  subst e
  unfold World.cell? at hc
  simp [hm] at hc
theorem Kb.rd {w w' : World} {m : Nat} (h : Kb w w' m) {es : Array MapEntry} {cl : Nat} (hm : w.heap[m]? = some (.map es cl)) {a : Option Addr} {n : Nat} {zs : List Nat} (hr : Rd w a n zs) : Rd w' a n zs := by
  obtain ⟨h1, h2, h3⟩ := hr
  refine ⟨h1, h2, h3.imp id fun ⟨b, off, e, hb, hc⟩ => ⟨b, off, e, Nat.lt_of_lt_of_le hb h.1, fun i hi => ?_⟩⟩
  exact (h.cell (p := ⟨b, off + i, none⟩) hb (cell_notmap hm (hc i hi))).trans (hc i hi)
/-- changes done, plain -/
def applyC (f : ByteArray → Option (List Nat)) (c : Cg) : ByteArray → Option (List Nat) := if c.gone then fun t => if t = c.key then none else f t else fun t => if t = c.key then some c.val else f t
def applyL (f : ByteArray → Option (List Nat)) (L : List Cg) : ByteArray → Option (List Nat) := L.foldl applyC f
theorem applyL_snoc (f : ByteArray → Option (List Nat)) (L : List Cg) (k : Nat) (c : Cg) (hc : L[k]? = some c) : applyL f (L.take (k + 1)) = applyC (applyL f (L.take k)) c := by
  obtain ⟨h, rfl⟩ := List.getElem?_eq_some_iff.1 hc
  unfold applyL
  rw [List.take_succ_eq_append_getElem h, List.foldl_append]
  rfl
theorem TM.upto {B m n n' : Nat} {V : Nat → Prop} {w : World} {D : DU} {f : ByteArray → Option (List Nat)} (h : TM B V w m n D f) (hn : n ≤ n') : TM B V w m n' D f := ⟨h.bm, h.mp.mono hn, h.vs, h.ks⟩
/-- in the middle of put -/
def PutW (B : Nat) (V : Nat → Prop) (w : World) (m n0 : Nat) (f : ByteArray → Option (List Nat)) (L : List Cg) (k : Nat) (wr : World) : Prop := ∃ D, TM B (fun j => V j ∨ (w.heap.size ≤ j ∧ j < wr.heap.size)) wr m (n0 + k) D (applyL f (L.take k)) ∧ Kb w wr m
set_option maxRecDepth 100000 in
set_option maxHeartbeats 8000000 in
theorem put_c {B m n0 tb : Nat} {V : Nat → Prop} {D0 : DU} {f : ByteArray → Option (List Nat)} {jv : Value} {dn : Bool} {w : World} (h : TM B V w m n0 D0 f) (ht : w.heap[tb]? = some (.cells #[jv, .map (some m), .bool dn] 60 (0, 0))) (hB : B ≤ w.heap.size) (a : Option Addr) (len cap : Nat) (L : List Cg) (hl : CgIn w a len cap L) (hs : ∀ c ∈ L, soundC c.key c.vn = true) (hn : n0 + len < 1000000000) :
    Calls Try.prog 19 #[.pointer (some ⟨tb, 0, none⟩), .slice a len cap] w fun e w' => e = .returned (.tuple #[]) ∧ PutW B V w m n0 f L len w' := by
  obtain ⟨es0, cl0, hm0⟩ := tmap_block h.mp
  have HMB := Lib.hid hm0
  have htm : tb ≠ m := fun e => by rw [e, hm0] at ht; cases ht
  have htl : tb < w.heap.size := (Array.getElem?_eq_some_iff.1 ht).1
  have HT := Lib.hid (show w.cell? ⟨tb, 1, none⟩ = some (.map (some m)) from (cell_of_row w tb 1 _ _ _ ht).trans rfl)
  have HTM := Lib.hid (And.intro htm htl)
  have HP0 := Lib.hid (show PutW B V w m n0 f L 0 w from ⟨D0, by rw [List.take_zero]; exact h.moreV fun j hj => .inl hj, Kb.refl _ _⟩)
  obtain ⟨hll, hlc, hcm, hh, hcb⟩ := hl
  have HL := Lib.hid hll
  have HH := Lib.hid hh
  have HC := Lib.hid hcb
  have HSO := Lib.hid hs
  have HNN := Lib.hid hn
  have HBB := Lib.hid hB
  clear h ht hB hll hh hcb hs hn htm htl hm0
  go_enter Try.func19, Try.ntmps19
  go_wp2_with fail
  go_loopw [8] (fun i wr => ∃ k : Nat, k ≤ len ∧ i = .int .i64 k ∧ Hid (PutW B V w m n0 f L k wr)) (fun i _ => len - (intOf i).toNat)
  case atStart => exact ⟨0, Nat.zero_le _, rfl, HP0⟩
  case round =>
    clear HP0
    obtain ⟨k, hk, rfl, HP⟩ := hrel
    by_cases hkl : k < len
    · obtain ⟨c, hc⟩ : ∃ c, L[k]? = some c := ⟨_, List.getElem?_eq_getElem (by rw [HL.out]; exact hkl)⟩
      obtain ⟨b, off, rfl, hblt, hcells⟩ := HH.out.resolve_left (by omega)
      obtain ⟨d0, d1, d2⟩ := hcells k c hc
      have HLC := Lib.hid hc
      have HCB := Lib.hid (HC.out c (List.mem_of_getElem? hc))
      obtain ⟨hk1, hk2, hv1⟩ := sound_bounds (HSO.out c (List.mem_of_getElem? hc))
      obtain ⟨key, gone, va, vn, vc, val⟩ := c
      simp only at d0 d1 d2 hk1 hk2 hv1
      obtain ⟨D, hD, hkb⟩ := HP.out
      have c0 := (hkb.cell (p := ⟨b, off + k * 3, none⟩) hblt (cell_notmap HMB.out d0)).trans d0
      have c1 := (hkb.cell (p := ⟨b, off + k * 3 + 1, none⟩) hblt (cell_notmap HMB.out d1)).trans d1
      have c2 := (hkb.cell (p := ⟨b, off + k * 3 + 2, none⟩) hblt (cell_notmap HMB.out d2)).trans d2
      have hix := fun W => run_tchg_idx W b off len cap k hkl
      obtain ⟨w5, hw5⟩ : ∃ w5, w5 = wr.alloc (.cells #[.string key, .bool gone, .slice va vn vc] 65) := ⟨_, rfl⟩
      have hb5 : Below wr.heap.size wr w5 := by rw [hw5]; exact (Below.refl _ _).alloc (Nat.le_refl _) _
      obtain ⟨X, hX⟩ : ∃ X, X = wr.heap.size := ⟨_, rfl⟩
      have hbx : w5.heap[X]? = some (.cells #[.string key, .bool gone, .slice va vn vc] 65 (0, 0)) := by rw [hw5, hX]; exact heap_alloc_new wr _
      have hxl : X < w5.heap.size := (Array.getElem?_eq_some_iff.1 hbx).1
      have y0 : w5.cell? ⟨X, 0, none⟩ = some (.string key) := (cell_of_row w5 X 0 _ _ _ hbx).trans rfl
      have y1 : w5.cell? ⟨X, 1, none⟩ = some (.bool gone) := (cell_of_row w5 X 1 _ _ _ hbx).trans rfl
      have y2 : w5.cell? ⟨X, 2, none⟩ = some (.slice va vn vc) := (cell_of_row w5 X 2 _ _ _ hbx).trans rfl
      have HM5 := Lib.hid (hD.below hb5)
      have HW5 := Lib.hid hb5.size
      have HK5 := Lib.hid (hkb.below hb5)
      have hty : w5.cell? ⟨tb, 1, none⟩ = some (.map (some m)) := (HK5.out.cell (p := ⟨tb, 1, none⟩) HTM.out.2 HTM.out.1).trans HT.out
      have hmw : m < wr.heap.size := hD.mp.lt
      have HS5 := Lib.hid (show HasC [(⟨tb, 1, none⟩, .map (some m)), (⟨X, 0, none⟩, .string key), (⟨X, 2, none⟩, .slice va vn vc)] w5 from by
        intro p hp
        simp only [List.mem_cons, List.not_mem_nil, or_false] at hp
        rcases hp with rfl | rfl | rfl
        · exact hty
        · exact y0
        · exact y2)
      have HBL5 := Lib.hid (show ∀ p ∈ ([(⟨tb, 1, none⟩, .map (some m)), (⟨X, 0, none⟩, .string key), (⟨X, 2, none⟩, .slice va vn vc)] : List (Addr × Value)), p.1.block < w5.heap.size from by
        intro p hp
        simp only [List.mem_cons, List.not_mem_nil, or_false] at hp
        rcases hp with rfl | rfl | rfl
        · exact Nat.lt_of_lt_of_le HTM.out.2 HK5.out.1
        · exact hxl
        · exact hxl)
      have HNM := Lib.hid (show ∀ p ∈ ([(⟨tb, 1, none⟩, .map (some m)), (⟨X, 0, none⟩, .string key), (⟨X, 2, none⟩, .slice va vn vc)] : List (Addr × Value)), some p.1.block ≠ some m from by
        intro p hp
        simp only [List.mem_cons, List.not_mem_nil, or_false] at hp
        rcases hp with rfl | rfl | rfl
        · exact fun e => HTM.out.1 (by simpa using e)
        · exact fun e => by have e2 : X = m := by simpa using e
                            omega
        · exact fun e => by have e2 : X = m := by simpa using e
                            omega)
      have HKS := Lib.hid (show key.size ≤ maxLen from HCB.out.2.2)
      have HKL := Lib.hid (show key.size ≤ 400 from by omega)
      have HVN := Lib.hid (show vn ≤ 300000 from by omega)
      have HVR := Lib.hid (HK5.out.rd HMB.out HCB.out.1)
      have HVB := Lib.hid HCB.out.1.2.1
      clear hbx hxl hkb hD hb5 d0 d1 d2 hcells hc hk1 hk2 hv1 hty hmw
      cases gone with
      | true =>
        go_upto_region 3 with fail
        rw [← hX]
        rw [← hw5]
        clear hX hw5 c0 c1 c2 hix hblt
        go_upto_region 4 with fail
        clear y0 y1 y2
        · obtain ⟨W0, hW0⟩ : ∃ W0, W0 = World.drew w5 := ⟨_, rfl⟩
          have hb90 : Below w5.heap.size w5 W0 := by rw [hW0]; exact below_drewN' _ w5 1
          have HM0 := Lib.hid (HM5.out.below hb90)
          have HWR := Lib.hid (show wr.heap.size ≤ W0.heap.size from Nat.le_trans HW5.out hb90.size)
          have HK0 := Lib.hid (show Kb w W0 m from HK5.out.below hb90)
          have HS := Lib.hid (show HasC [(⟨tb, 1, none⟩, .map (some m)), (⟨X, 0, none⟩, .string key), (⟨X, 2, none⟩, .slice va vn vc)] W0 from HS5.out.below hb90 HBL5.out)
          have HBL := Lib.hid (show ∀ p ∈ ([(⟨tb, 1, none⟩, .map (some m)), (⟨X, 0, none⟩, .string key), (⟨X, 2, none⟩, .slice va vn vc)] : List (Addr × Value)), p.1.block < W0.heap.size from fun p hp => Nat.lt_of_lt_of_le (HBL5.out p hp) hb90.size)
          have HBW := Lib.hid (show B ≤ W0.heap.size from Nat.le_trans HBB.out (Nat.le_trans HK5.out.1 hb90.size))
          have HCK := Lib.hid (fun W (hW : Below W0.heap.size W0 W) => tclone_c key W HKL.out)
          have HCV := Lib.hid (fun W (hW : Below W0.heap.size W0 W) => bclone_c va vn vc val W ((HVR.out.below hb90).below hW) HCB.out.2.1 (by have := HVN.out; omega))
          have HL1 := Lib.hid (fun W (hW : HasC [(⟨tb, 1, none⟩, .map (some m)), (⟨X, 0, none⟩, .string key), (⟨X, 2, none⟩, .slice va vn vc)] W) => run_cell_tm W ⟨tb, 1, none⟩ m (hW (⟨tb, 1, none⟩, .map (some m)) (by simp)))
          have HL2 := Lib.hid (fun W (hW : HasC [(⟨tb, 1, none⟩, .map (some m)), (⟨X, 0, none⟩, .string key), (⟨X, 2, none⟩, .slice va vn vc)] W) => run_cell_s W ⟨X, 0, none⟩ key (hW (⟨X, 0, none⟩, .string key) (by simp)))
          have HL3 := Lib.hid (fun W (hW : HasC [(⟨tb, 1, none⟩, .map (some m)), (⟨X, 0, none⟩, .string key), (⟨X, 2, none⟩, .slice va vn vc)] W) => run_cell_sl W X 2 va vn vc (hW (⟨X, 2, none⟩, .slice va vn vc) (by simp)))
          clear hb90
          refine anyH_begin (S := HasC [(⟨tb, 1, none⟩, .map (some m)), (⟨X, 0, none⟩, .string key), (⟨X, 2, none⟩, .slice va vn vc)]) (by kernel_rfl) ?_
          rw [← hW0]
          clear hW0
          refine anyH_pureG 0 (d := 14) (op := .move (.tmp 0)) (gd := none) (.pointer (some ⟨tb, 0, none⟩)) (by rfl) (fun o ho => wanted_plain ho _) (by kernel_rfl) (by kernel_rfl) (by kernel_rfl) (fun _ _ _ h => h) (fun o ho W hW => by unfold execOp; simp only [ho]; go_simp) HS.out ?_
          simp only [Act.put, List.setIfInBounds_toArray, List.set_cons_zero, List.set_cons_succ]
          refine anyH_pureG 1 (d := 15) (op := .nilCheck (.tmp 14)) (gd := none) (.pointer (some ⟨tb, 0, none⟩)) (by rfl) (fun o ho => wanted_plain ho _) (by kernel_rfl) (by kernel_rfl) (by kernel_rfl) (fun _ _ _ h => h) (fun o ho W hW => by unfold execOp; simp only [ho]; go_simp) HS.out ?_
          simp only [Act.put, List.setIfInBounds_toArray, List.set_cons_zero, List.set_cons_succ]
          refine anyH_pureG 2 (d := 16) (op := .fieldAddr 60 (.tmp 15) 1) (gd := none) (.pointer (some ⟨tb, 1, none⟩)) (by rfl) (fun o ho => wanted_plain ho _) (by kernel_rfl) (by kernel_rfl) (by kernel_rfl) (fun _ _ _ h => h) (fun o ho W hW => by unfold execOp; simp only [ho]; go_simp) HS.out ?_
          simp only [Act.put, List.setIfInBounds_toArray, List.set_cons_zero, List.set_cons_succ]
          refine anyH_loadG 3 (d := 17) (ty := 58) (x := (.tmp 16)) (gd := none) (p := .pointer (some ⟨tb, 1, none⟩)) (.map (some m)) (by rfl) (fun o ho => wanted_plain ho _) (by kernel_rfl) (by kernel_rfl) (by kernel_rfl) (fun _ _ _ h => h) (by rfl) HL1.out HS.out ?_
          simp only [Act.put, List.setIfInBounds_toArray, List.set_cons_zero, List.set_cons_succ]
          refine anyH_pureG 4 (d := 18) (op := .fieldAddr 65 (.tmp 5) 0) (gd := none) (.pointer (some ⟨X, 0, none⟩)) (by rfl) (fun o ho => wanted_plain ho _) (by kernel_rfl) (by kernel_rfl) (by kernel_rfl) (fun _ _ _ h => h) (fun o ho W hW => by unfold execOp; simp only [ho]; go_simp) HS.out ?_
          simp only [Act.put, List.setIfInBounds_toArray, List.set_cons_zero, List.set_cons_succ]
          refine anyH_loadG 5 (d := 19) (ty := 9) (x := (.tmp 18)) (gd := none) (p := .pointer (some ⟨X, 0, none⟩)) (.string key) (by rfl) (fun o ho => wanted_plain ho _) (by kernel_rfl) (by kernel_rfl) (by kernel_rfl) (fun _ _ _ h => h) (by rfl) HL2.out HS.out ?_
          simp only [Act.put, List.setIfInBounds_toArray, List.set_cons_zero, List.set_cons_succ]
          have HSZ := Lib.hid (show wr.heap.size ≤ W0.heap.size from HWR.out)
          obtain ⟨w7, D7, hrun, hm7, hg7⟩ := HM0.out.del (s := key) HKS.out 0
          have HRUN := Lib.hid hrun
          have HM7 := Lib.hid hm7
          have HG7 := Lib.hid hg7
          have HS7 := Lib.hid (show HasC [(⟨tb, 1, none⟩, .map (some m)), (⟨X, 0, none⟩, .string key), (⟨X, 2, none⟩, .slice va vn vc)] w7 from fun p hp => (World.cell?_of_block (HG7.out.block p.1.block (HBL.out p hp) (HNM.out p hp))).trans (HS.out p hp))
          clear hrun hm7 hg7
          refine anyH_runG 6 (d := none) (op := .call { callee := .builtin .delete, args := #[(.tmp 17), (.tmp 19)], argTypes := #[58, 9] }) (v := .tuple #[]) (w' := w7) (by kernel_rfl) (by rfl) (fun o ho => exec_delete ho (by rfl) (by rfl) (show (Builtin.delete_ #[58, 9] o.type #[.map (some m), .string key]).run Try.prog W0 = .ok (.tuple #[]) w7 from HRUN.out)) HS7.out ?_
          simp only [Act.put, List.setIfInBounds_toArray, List.set_cons_zero, List.set_cons_succ]
          refine wpAnyH_done (by kernel_rfl) ?_ _
          have HPN := Lib.hid (show PutW B V w m n0 f L (k + 1) w7 from ⟨D7, by
            have := HM7.out
            rw [applyL_snoc f L k _ HLC.out]
            exact (this.upto (by omega)).moreV fun j hj => by
              rcases hj with hj | hj
              · exact .inl hj
              · exact .inr ⟨hj.1, by have h1 := hj.2; have h2 := HG7.out.size; have h3 := HSZ.out; omega⟩, HK0.out.grown HG7.out⟩)
          clear HL1 HL2 HL3 HS HCK HCV HRUN HS7
          go_wp2_with fail
          go_roundw
          case rel => exact ⟨k + 1, by omega, by go_num, HPN⟩
          case measure => simp [intOf]; omega
      | false =>
        go_upto_region 3 with fail
        rw [← hX]
        rw [← hw5]
        clear hX hw5 c0 c1 c2 hix hblt
        go_upto_region 5 with fail
        clear y0 y1 y2
        · obtain ⟨W0, hW0⟩ : ∃ W0, W0 = World.drew w5 := ⟨_, rfl⟩
          have hb90 : Below w5.heap.size w5 W0 := by rw [hW0]; exact below_drewN' _ w5 1
          have HM0 := Lib.hid (HM5.out.below hb90)
          have HWR := Lib.hid (show wr.heap.size ≤ W0.heap.size from Nat.le_trans HW5.out hb90.size)
          have HK0 := Lib.hid (show Kb w W0 m from HK5.out.below hb90)
          have HS := Lib.hid (show HasC [(⟨tb, 1, none⟩, .map (some m)), (⟨X, 0, none⟩, .string key), (⟨X, 2, none⟩, .slice va vn vc)] W0 from HS5.out.below hb90 HBL5.out)
          have HBL := Lib.hid (show ∀ p ∈ ([(⟨tb, 1, none⟩, .map (some m)), (⟨X, 0, none⟩, .string key), (⟨X, 2, none⟩, .slice va vn vc)] : List (Addr × Value)), p.1.block < W0.heap.size from fun p hp => Nat.lt_of_lt_of_le (HBL5.out p hp) hb90.size)
          have HBW := Lib.hid (show B ≤ W0.heap.size from Nat.le_trans HBB.out (Nat.le_trans HK5.out.1 hb90.size))
          have HCK := Lib.hid (fun W (hW : Below W0.heap.size W0 W) => tclone_c key W HKL.out)
          have HCV := Lib.hid (fun W (hW : Below W0.heap.size W0 W) => bclone_c va vn vc val W ((HVR.out.below hb90).below hW) HCB.out.2.1 (by have := HVN.out; omega))
          have HL1 := Lib.hid (fun W (hW : HasC [(⟨tb, 1, none⟩, .map (some m)), (⟨X, 0, none⟩, .string key), (⟨X, 2, none⟩, .slice va vn vc)] W) => run_cell_tm W ⟨tb, 1, none⟩ m (hW (⟨tb, 1, none⟩, .map (some m)) (by simp)))
          have HL2 := Lib.hid (fun W (hW : HasC [(⟨tb, 1, none⟩, .map (some m)), (⟨X, 0, none⟩, .string key), (⟨X, 2, none⟩, .slice va vn vc)] W) => run_cell_s W ⟨X, 0, none⟩ key (hW (⟨X, 0, none⟩, .string key) (by simp)))
          have HL3 := Lib.hid (fun W (hW : HasC [(⟨tb, 1, none⟩, .map (some m)), (⟨X, 0, none⟩, .string key), (⟨X, 2, none⟩, .slice va vn vc)] W) => run_cell_sl W X 2 va vn vc (hW (⟨X, 2, none⟩, .slice va vn vc) (by simp)))
          clear hb90
          refine anyH_begin (S := HasC [(⟨tb, 1, none⟩, .map (some m)), (⟨X, 0, none⟩, .string key), (⟨X, 2, none⟩, .slice va vn vc)]) (by kernel_rfl) ?_
          rw [← hW0]
          clear hW0
          refine anyH_pureG 0 (d := 20) (op := .move (.tmp 0)) (gd := none) (.pointer (some ⟨tb, 0, none⟩)) (by rfl) (fun o ho => wanted_plain ho _) (by kernel_rfl) (by kernel_rfl) (by kernel_rfl) (fun _ _ _ h => h) (fun o ho W hW => by unfold execOp; simp only [ho]; go_simp) HS.out ?_
          simp only [Act.put, List.setIfInBounds_toArray, List.set_cons_zero, List.set_cons_succ]
          refine anyH_pureG 1 (d := 21) (op := .nilCheck (.tmp 20)) (gd := none) (.pointer (some ⟨tb, 0, none⟩)) (by rfl) (fun o ho => wanted_plain ho _) (by kernel_rfl) (by kernel_rfl) (by kernel_rfl) (fun _ _ _ h => h) (fun o ho W hW => by unfold execOp; simp only [ho]; go_simp) HS.out ?_
          simp only [Act.put, List.setIfInBounds_toArray, List.set_cons_zero, List.set_cons_succ]
          refine anyH_pureG 2 (d := 22) (op := .fieldAddr 60 (.tmp 21) 1) (gd := none) (.pointer (some ⟨tb, 1, none⟩)) (by rfl) (fun o ho => wanted_plain ho _) (by kernel_rfl) (by kernel_rfl) (by kernel_rfl) (fun _ _ _ h => h) (fun o ho W hW => by unfold execOp; simp only [ho]; go_simp) HS.out ?_
          simp only [Act.put, List.setIfInBounds_toArray, List.set_cons_zero, List.set_cons_succ]
          refine anyH_loadG 3 (d := 23) (ty := 58) (x := (.tmp 22)) (gd := none) (p := .pointer (some ⟨tb, 1, none⟩)) (.map (some m)) (by rfl) (fun o ho => wanted_plain ho _) (by kernel_rfl) (by kernel_rfl) (by kernel_rfl) (fun _ _ _ h => h) (by rfl) HL1.out HS.out ?_
          simp only [Act.put, List.setIfInBounds_toArray, List.set_cons_zero, List.set_cons_succ]
          refine anyH_pureG 4 (d := 24) (op := .fieldAddr 65 (.tmp 5) 0) (gd := none) (.pointer (some ⟨X, 0, none⟩)) (by rfl) (fun o ho => wanted_plain ho _) (by kernel_rfl) (by kernel_rfl) (by kernel_rfl) (fun _ _ _ h => h) (fun o ho W hW => by unfold execOp; simp only [ho]; go_simp) HS.out ?_
          simp only [Act.put, List.setIfInBounds_toArray, List.set_cons_zero, List.set_cons_succ]
          refine anyH_loadG 5 (d := 25) (ty := 9) (x := (.tmp 24)) (gd := none) (p := .pointer (some ⟨X, 0, none⟩)) (.string key) (by rfl) (fun o ho => wanted_plain ho _) (by kernel_rfl) (by kernel_rfl) (by kernel_rfl) (fun _ _ _ h => h) (by rfl) HL2.out HS.out ?_
          simp only [Act.put, List.setIfInBounds_toArray, List.set_cons_zero, List.set_cons_succ]
          refine anyH_pureG 7 (d := 27) (op := .fieldAddr 65 (.tmp 5) 2) (gd := none) (.pointer (some ⟨X, 2, none⟩)) (by rfl) (fun o ho => wanted_plain ho _) (by kernel_rfl) (by kernel_rfl) (by kernel_rfl) (fun _ _ _ h => h) (fun o ho W hW => by unfold execOp; simp only [ho]; go_simp) HS.out ?_
          simp only [Act.put, List.setIfInBounds_toArray, List.set_cons_zero, List.set_cons_succ]
          refine anyH_loadG 8 (d := 28) (ty := 41) (x := (.tmp 27)) (gd := none) (p := .pointer (some ⟨X, 2, none⟩)) (.slice va vn vc) (by rfl) (fun o ho => wanted_plain ho _) (by kernel_rfl) (by kernel_rfl) (by kernel_rfl) (fun _ _ _ h => h) (by rfl) HL3.out HS.out ?_
          simp only [Act.put, List.setIfInBounds_toArray, List.set_cons_zero, List.set_cons_succ]
          refine anyH_callG 6 (d := some 26) (f := 27) (xs := #[(.tmp 25)]) (ts := #[9]) (gd := none) (vs := #[.string key]) (by kernel_rfl) (by rfl) (fun o ho => wanted_plain ho _) (by go_simp) (by go_simp) (HCK.out W0 (Below.refl _ _)) ?_
          rintro e8 w8 ⟨rfl, hb8⟩
          have HS8 := Lib.hid (show HasC [(⟨tb, 1, none⟩, .map (some m)), (⟨X, 0, none⟩, .string key), (⟨X, 2, none⟩, .slice va vn vc)] w8 from HS.out.below hb8 HBL.out)
          have HB8 := Lib.hid hb8
          clear hb8
          refine ⟨_, rfl, HS8.out, fun hS => ?_⟩
          clear hS
          simp only [Act.put, List.setIfInBounds_toArray, List.set_cons_zero, List.set_cons_succ]
          refine anyH_callG 9 (d := some 29) (f := 30) (xs := #[(.tmp 28)]) (ts := #[41]) (gd := none) (vs := #[.slice va vn vc]) (by kernel_rfl) (by rfl) (fun o ho => wanted_plain ho _) (by go_simp) (by go_simp) (HCV.out w8 HB8.out) ?_
          rintro e9 w9 ⟨v9, rfl, ho9, hb9⟩
          have HS9 := Lib.hid (show HasC [(⟨tb, 1, none⟩, .map (some m)), (⟨X, 0, none⟩, .string key), (⟨X, 2, none⟩, .slice va vn vc)] w9 from HS8.out.below hb9 fun p hp => Nat.lt_of_lt_of_le (HBL.out p hp) HB8.out.size)
          have HB9 := Lib.hid (HB8.out.trans (hb9.mono HB8.out.size))
          have HN9 := Lib.hid (show ∀ j, v9.ownBlock = some j → W0.heap.size ≤ j ∧ j < w9.heap.size from fun j e => ⟨Nat.le_trans HB8.out.size (World.ownsRow.lt ho9 j e).1, (World.ownsRow.lt ho9 j e).2⟩)
          have HO9 := Lib.hid (own_mono ho9 (Nat.le_trans HBW.out HB8.out.size))
          clear hb9 ho9
          refine ⟨_, rfl, HS9.out, fun hS => ?_⟩
          clear hS
          simp only [Act.put, List.setIfInBounds_toArray, List.set_cons_zero, List.set_cons_succ]
          have HSZ := Lib.hid (show w9.heap.size ≤ w9.heap.size from Nat.le_refl _)
          obtain ⟨w7, D7, hrun, hm7, hg7⟩ := ((HM0.out.below HB9.out).moreV (V' := fun j => V j ∨ (w.heap.size ≤ j ∧ j < w9.heap.size)) fun j hj => hj.imp id fun e => ⟨e.1, by have h1 := e.2; have h2 := HWR.out; have h3 := HB9.out.size; omega⟩).put (s := key) HKS.out (by have := HNN.out; unfold maxLen; omega) HO9.out HVB.out (fun j e => .inr ⟨by have h1 := (HN9.out j e).1; have h2 := HK0.out.1; omega, (HN9.out j e).2⟩)
          have HRUN := Lib.hid hrun
          have HM7 := Lib.hid hm7
          have HG7 := Lib.hid hg7
          have HS7 := Lib.hid (show HasC [(⟨tb, 1, none⟩, .map (some m)), (⟨X, 0, none⟩, .string key), (⟨X, 2, none⟩, .slice va vn vc)] w7 from fun p hp => (World.cell?_of_block (HG7.out.block p.1.block (Nat.lt_of_lt_of_le (HBL.out p hp) HB9.out.size) (HNM.out p hp))).trans (HS9.out p hp))
          clear hrun hm7 hg7
          refine anyH_oneT 10 (d1 := none) (op1 := .mapUpdate 58 (.tmp 23) (.tmp 26) (.tmp 29)) (by kernel_rfl) (by rfl) ?_
          intro o hod hoo
          refine wp_mapUpdT 58 (.tmp 23) (.tmp 26) (.tmp 29) hoo (.map (some m)) (.string key) v9 (by rfl) (by rfl) (by rfl) HRUN.out ?_
          rw [hod]
          simp only [Act.put, List.setIfInBounds_toArray, List.set_cons_zero, List.set_cons_succ]
          refine ⟨HS7.out, ?_⟩
          --nosimp
          refine wpAnyH_done (by kernel_rfl) ?_ _
          have HPN := Lib.hid (show PutW B V w m n0 f L (k + 1) w7 from ⟨D7, by
            have := HM7.out
            rw [applyL_snoc f L k _ HLC.out]
            exact (this.upto (by omega)).moreV fun j hj => by
              rcases hj with hj | hj
              · exact .inl hj
              · exact .inr ⟨hj.1, by have h1 := hj.2; have h2 := HG7.out.size; have h3 := HSZ.out; omega⟩, (HK0.out.below HB9.out).grown HG7.out⟩)
          clear HL1 HL2 HL3 HS HCK HCV HRUN HS7
          go_wp2_with fail
          go_roundw
          case rel => exact ⟨k + 1, by omega, by go_num, HPN⟩
          case measure => simp [intOf]; omega
    · have hkr : k = len := by omega
      subst hkr
      go_wp2_with fail
      go_end0
      exact ⟨rfl, HP.out⟩
end Go.Proofs.Ytihbgigledmliaa
namespace Go.Proofs.Ytihbgigledmliaa
open Go.RowKit Go.Maps
set_option linter.unusedVariables false
/-- a table's struct -/
def TRow (w : World) (tb : Nat) (jv : Value) (m : Nat) (dn : Bool) : Prop := w.heap[tb]? = some (.cells #[jv, .map (some m), .bool dn] 60 (0, 0))
theorem TRow.cells {w : World} {tb m : Nat} {jv : Value} {dn : Bool} (h : TRow w tb jv m dn) : w.cell? ⟨tb, 0, none⟩ = some jv ∧ w.cell? ⟨tb, 1, none⟩ = some (.map (some m)) ∧ w.cell? ⟨tb, 2, none⟩ = some (.bool dn) := ⟨(cell_of_row w tb 0 _ _ _ h).trans rfl, (cell_of_row w tb 1 _ _ _ h).trans rfl, (cell_of_row w tb 2 _ _ _ h).trans rfl⟩
set_option maxRecDepth 100000 in
set_option maxHeartbeats 2000000 in
theorem tget_c {B m n tb : Nat} {V : Nat → Prop} {D : DU} {f : ByteArray → Option (List Nat)} {jv : Value} {dn : Bool} {w : World} (h : TM B V w m n D f) (ht : TRow w tb jv m dn) (s : ByteArray) (hs : s.size ≤ maxLen) (hv : ((f s).getD []).length ≤ 140737488351232) :
    Calls Try.prog 13 #[.pointer (some ⟨tb, 0, none⟩), .string s] w fun e w' => ∃ v, e = .returned (.tuple #[v, .bool (f s).isSome]) ∧ Own w' w.heap.size v ((f s).getD []) ∧ Below w.heap.size w w' := by
  obtain ⟨v0, hlk, ho, hz⟩ := h.look hs
  obtain ⟨a, L, c, rfl, hl, hlc, hcm, hnil, hr, -⟩ := ho.form hz
  have y1 := ht.cells.2.1
  have HC := Lib.hid (bclone_c a L c _ w hr hnil (by omega))
  obtain ⟨ok, hok⟩ : ∃ ok, (f s).isSome = ok := ⟨_, rfl⟩
  obtain ⟨zs, hzs⟩ : ∃ zs, (f s).getD [] = zs := ⟨_, rfl⟩
  rw [hok] at hlk ⊢
  rw [hzs] at HC ⊢
  clear h ht ho hz hl hlc hcm hnil hr hok hzs hv
  go_enter Try.func13, Try.ntmps13
  go_wp2_with fail
  refine HC.out.mono ?_
  rintro e1 w1 ⟨v1, rfl, ho1, hb1⟩
  have HE := Lib.hid (And.intro ho1 hb1)
  clear ho1 hb1 HC hlk
  go_wp2_with fail
  go_ret2
  exact ⟨_, rfl, HE.out⟩
set_option maxRecDepth 100000 in
set_option maxHeartbeats 2000000 in
theorem tready_c {tb m : Nat} {jv : Value} {dn : Bool} {w : World} (ht : TRow w tb jv m dn) :
    Calls Try.prog 21 #[.pointer (some ⟨tb, 0, none⟩)] w fun e w' => e = .returned (.int .i64 (if dn then 5 else 0)) ∧ w' = w := by
  have y2 := ht.cells.2.2
  clear ht
  cases dn with
  | true =>
    go_enter Try.func21, Try.ntmps21
    go_wp2_with fail
    go_ret
    exact ⟨rfl, rfl⟩
  | false =>
    go_enter Try.func21, Try.ntmps21
    go_wp2_with fail
    go_ret
    exact ⟨rfl, rfl⟩
/-- a record is kept: what Append and Sync make of the disk -/
def Ad.keep (A : Ad) (nm : ByteArray) (p : List Nat) : Ad × Int := if (A.step ⟨1, nm, ⟨#[]⟩, Frm.frameL p⟩).2 = 0 then (A.step ⟨1, nm, ⟨#[]⟩, Frm.frameL p⟩).1.sync else A.step ⟨1, nm, ⟨#[]⟩, Frm.frameL p⟩
/-- what keep leaves -/
def KeepR (X : Nat → Prop) (B d jb N : Nat) (nm : ByteArray) (w : World) (sz len : Nat) (A : Ad) (p : List Nat) (e : Ending) (w' : World) : Prop :=
  e = .returned (.int .i64 (A.keep nm p).2) ∧ Jn X B d jb nm ((if (A.step ⟨1, nm, ⟨#[]⟩, Frm.frameL p⟩).2 = 0 then sz + (8 + len) else sz : Nat) : Int) N (A.keep nm p).1 w' ∧ Below B w w' ∧ ∀ j, X j → j ≠ jb → w'.heap[j]? = w.heap[j]?
set_option maxRecDepth 100000 in
set_option maxHeartbeats 4000000 in
theorem tkeep_c {X : Nat → Prop} {B d jb N sz tb m : Nat} {nm : ByteArray} {A : Ad} {w : World} {dn : Bool} (h : Jn X B d jb nm (sz : Int) N A w) (ht : TRow w tb (.pointer (some ⟨jb, 0, none⟩)) m dn) (hx : X tb) (hj : tb ≠ jb) (hN : N < 100000000) (hn : nm.size ≤ 1000) (hsz : sz ≤ 1000000000000) (pa : Option Addr) (pn pc : Nat) (p : List Nat) (hr : Rd w pa pn p) (hnil : pa = none → pc = 0) (hpn : pn ≤ 1048568) :
    Calls Try.prog 24 #[.pointer (some ⟨tb, 0, none⟩), .slice pa pn pc] w (KeepR X B d jb (N + 6) nm w sz pn A p) := by
  obtain ⟨y0, y1, y2⟩ := ht.cells
  have hap := jappend_c h hN hn hsz pa pn pc p hr hnil hpn
  unfold KeepR Ad.keep
  obtain ⟨r, hrr⟩ : ∃ r, A.step ⟨1, nm, ⟨#[]⟩, Frm.frameL p⟩ = r := ⟨_, rfl⟩
  rw [hrr] at hap ⊢
  obtain ⟨A', x⟩ := r
  have HAP := Lib.hid hap
  have HT := Lib.hid ht
  have HX := Lib.hid (And.intro hx hj)
  have HB0 := Lib.hid (show B ≤ w.heap.size from Nat.le_of_lt (Nat.lt_of_le_of_lt h.dx.base.1 h.dx.base.2))
  clear hap hrr h ht hx hj hr hnil
  go_enter Try.func24, Try.ntmps24
  go_wp2_with fail
  refine HAP.out.mono ?_
  rintro e1 w1 ⟨rfl, hj1, hb1, hk1⟩
  have HJ1 := Lib.hid hj1
  have HB1 := Lib.hid hb1
  have HK1 := Lib.hid hk1
  obtain ⟨z0, z1, z2⟩ := (show TRow w1 tb (.pointer (some ⟨jb, 0, none⟩)) m dn from (hk1 tb HX.out.1 HX.out.2).trans HT.out).cells
  clear hj1 hb1 hk1 HAP y0 y1 y2
  by_cases h0 : x = 0
  · subst h0
    have HS := Lib.hid (jsync_c (show Jn X B d jb nm ((sz + (8 + pn) : Nat) : Int) (N + 3) A' w1 from HJ1.out))
    go_wp2_with fail
    refine HS.out.mono ?_
    rintro e2 w2 ⟨rfl, hj2, hb2, hk2⟩
    have HE := Lib.hid (show Jn X B d jb nm ((sz + (8 + pn) : Nat) : Int) (N + 6) A'.sync.1 w2 ∧ Below B w w2 ∧ ∀ j, X j → j ≠ jb → w2.heap[j]? = w.heap[j]? from ⟨hj2, HB1.out.trans hb2, fun j a b => (hk2 j a).trans (HK1.out j a b)⟩)
    clear hj2 hb2 hk2 HS z0 z1 z2
    go_wp2_with fail
    go_ret
    exact ⟨rfl, HE.out⟩
  · have hx0 : (x != 0) = true := by simp [h0]
    have HE := Lib.hid (show Jn X B d jb nm ((if x = 0 then sz + (8 + pn) else sz : Nat) : Int) (N + 6) A' w1 from ⟨HJ1.out.dx.mono (by omega), HJ1.out.xj, HJ1.out.bj, HJ1.out.row⟩)
    go_wp2_with fail
    go_ret
    simp only [h0, if_false]
    refine ⟨rfl, ?_, HB1.out, HK1.out⟩
    have := HE.out
    simpa only [h0, if_false] using this
end Go.Proofs.Ytihbgigledmliaa
