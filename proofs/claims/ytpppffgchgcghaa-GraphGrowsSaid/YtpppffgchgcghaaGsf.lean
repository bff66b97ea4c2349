/-
  The law's graphs, plain; a graph and a marker in the law's hands.
-/
import Derived.Test.YtpppffgchgcghaaGse
import Derived.Test.YtpppffgchgcghaaGbs
import Derived.Test.YtpppffgchgcghaaIin
namespace Go.Proofs.Ytpppffgchgcghaa
open Go.RowKit Go.Maps
set_option linter.unusedVariables false
/-- the edges that the law has put so far -/
def fE (L : List (List Nat)) : Nat → (List Nat → Option Ds)
  | 0 => fun _ => none
  | j + 1 => fun t => if t = nd j then some (ndsP (L.getD j [])) else fE L j t
def SmallF (f : List Nat → Option Ds) : Prop := ∀ s ts, f s = some ts → ts.length ≤ 12 ∧ ∀ x ∈ ts, D32 x
theorem SmallF.len {f : List Nat → Option Ds} (h : SmallF f) : ∀ s ts, f s = some ts → ts.length ≤ 1000000 := fun s ts e => by have := (h s ts e).1; omega
theorem SmallF.put {f : List Nat → Option Ds} (h : SmallF f) (d : List Nat) (z : List Nat) : SmallF (fun t => if t = d then some (ndsP z) else f t) := fun s ts e => by
  by_cases hs : s = d
  · simp only [hs, if_true, Option.some.injEq] at e
    subst e
    exact ⟨ndsP_len z, ndsP_d32 z⟩
  · simp only [if_neg hs] at e
    exact h s ts e
theorem fE_small (L : List (List Nat)) : ∀ j, SmallF (fE L j)
  | 0 => fun s ts e => by cases e
  | j + 1 => (fE_small L j).put (nd j) _
theorem fE_dom (L : List (List Nat)) : ∀ j, j ≤ 9 → ∀ s, (fE L j s).isSome = true → s ∈ (List.range 9).map nd
  | 0, _, s, h => by cases h
  | j + 1, hj, s, h => by
    simp only [fE] at h
    by_cases hs : s = nd j
    · rw [hs]
      exact List.mem_map.2 ⟨j, List.mem_range.2 (by omega), rfl⟩
    · rw [if_neg hs] at h
      exact fE_dom L j (by omega) s h
theorem sum_le12 (g : List Nat → Nat) (hg : ∀ v, g v ≤ 12) : ∀ l : List (List Nat), (l.map g).sum ≤ 12 * l.length
  | [] => by simp
  | x :: r => by
    have h1 := hg x
    have h2 := sum_le12 g hg r
    simp only [List.map_cons, List.sum_cons, List.length_cons]
    omega
theorem small_get {f : List Nat → Option Ds} (h : SmallF f) (v : List Nat) : ((f v).getD []).length ≤ 12 := by
  cases e : f v with
  | none => simp
  | some ts => exact (h v ts e).1
theorem bd_of {f : List Nat → Option Ds} (h : SmallF f) {dom : List (List Nat)} (hn : dom.Nodup) (hd : ∀ s, (f s).isSome = true → s ∈ dom) (ds : Ds) (b : List Nat → Bool) : Bd f ds b (ds.length + 12 * dom.length) := by
  refine ⟨dom, hn, fun v _ hv => hd v hv, ?_⟩
  have h1 := sum_le12 (fun v => ((f v).getD []).length) (small_get h) (dom.filter (fun v => !b v))
  have h2 : (dom.filter (fun v => !b v)).length ≤ dom.length := List.length_filter_le _ _
  omega
theorem range9 : ((List.range 9).map nd).Nodup := by decide
theorem fE_bd (L : List (List Nat)) (j : Nat) (hj : j ≤ 9) (ds : Ds) (hds : ds.length ≤ 12) : Bd (fE L j) ds (fun _ => false) 120 := by
  obtain ⟨D, h1, h2, h3⟩ := bd_of (fE_small L j) range9 (fE_dom L j hj) ds (fun _ => false)
  rw [List.length_map, List.length_range] at h3
  exact ⟨D, h1, h2, by omega⟩
theorem look_d32 {f : List Nat → Option Ds} (hf : SmallF f) {d : List Nat} {r : Ds} {b : List Nat → Bool} (h : ∀ x ∈ d :: r, D32 x) : ∀ x ∈ (lookP f (d :: r) b).1, D32 x := by
  have hr : ∀ x ∈ r, D32 x := fun x hx => h x (List.mem_cons_of_mem _ hx)
  simp only [lookP]
  cases e : f d with
  | none => exact hr
  | some ts =>
    simp only
    cases hb : b d with
    | true => simpa using hr
    | false =>
      simp only [Bool.false_eq_true, if_false]
      intro x hx
      rcases List.mem_append.1 hx with hx | hx
      · exact hr x hx
      · exact (hf d ts e).2 x ((List.mem_filter.1 hx).1)
/-- so many looks are enough -/
theorem bd_done {f : List Nat → Option Ds} (hf : SmallF f) : ∀ (M : Nat) (gray : Ds) (b : List Nat → Bool), (∀ d ∈ gray, D32 d) → Bd f gray b M → (itP f M (gray, b)).1 = []
  | M, [], b, _, _ => by rw [itP_nil]
  | 0, d :: r, b, h, hb => by
    obtain ⟨L, -, -, h3⟩ := hb
    simp at h3
  | M + 1, d :: r, b, h, hb => by
    obtain ⟨h1, h2⟩ := hb.look (h d (List.mem_cons_self ..))
    show (itP f M (lookP f (d :: r) b)).1 = []
    exact bd_done hf M _ _ (look_d32 hf h) h2
/-- a graph in the law's hands -/
structure PG (B g N : Nat) (w : World) (f : List Nat → Option Ds) (W : World) : Prop where
  gr : ∃ V, GR B N V W g f
  bel : Below B w W
  hB : B ≤ W.heap.size
theorem PG.below {B g N : Nat} {w : World} {f : List Nat → Option Ds} {W W' : World} (h : PG B g N w f W) (hb : Below W.heap.size W W') : PG B g N w f W' := by
  obtain ⟨V, h1⟩ := h.gr
  exact ⟨⟨V, h1.below hb⟩, h.bel.trans (hb.mono h.hB), Nat.le_trans h.hB hb.size⟩
/-- a node is put, its edges in memory that is newer than W0 -/
theorem PG.put {B g N : Nat} {w : World} {f : List Nat → Option Ds} {W W1 : World} (h : PG B g N w f W) (hN : N ≤ 1000000) (hb : Below W.heap.size W W1) {s : List Nat} (hs : D32 s) {a : Option Addr} {n c : Nat} {z : List Nat} (ho : OwE W1 W.heap.size (.slice a n c) (ndsP z)) :
    Calls Try.prog 23 #[.pointer (some ⟨g, 0, none⟩), .agg (cellsOf s).toArray, .slice a n c] W1 fun e w' => e = .returned (.int .i64 0) ∧ PG B g (N + 1) w (fun t => if t = s then some (ndsP z) else f t) w' := by
  obtain ⟨V, h1⟩ := h.gr
  obtain ⟨a', c', ev, hlc, hcm, hac, hdr⟩ := ho.dr (ndsP_d32 z)
  obtain ⟨e1, e2, e3⟩ := Value.slice.inj ev
  subst e1
  subst e3
  rw [← e2] at hlc hdr
  have hnl := ndsP_len z
  refine (put_c (h1.below hb) (Nat.le_trans h.hB hb.size) (by omega) hs a n c (ndsP z) hdr hlc (by omega) (fun b o e hv => ?_)).mono ?_
  · have h2 := (h1.vb b hv).2
    have h3 := (ho.block b (by rw [e]; rfl)).1
    omega
  · rintro e w' ⟨rfl, hg, hf⟩
    have hbB := hf.below (Nat.le_trans h.hB hb.size) (fun k hk => (h1.vb k hk).1)
    exact ⟨rfl, ⟨_, hg⟩, (h.bel.trans (hb.mono h.hB)).trans hbB, Nat.le_trans (Nat.le_trans h.hB hb.size) hf.size⟩
/-- a graph and a marker in the law's hands -/
structure SG (B g k T : Nat) (w : World) (f : List Nat → Option Ds) (s : Ms) (W : World) : Prop where
  ex : ∃ V O N, N ≤ 1000000 ∧ GR B N V W g f ∧ MK B T O W k g f s ∧ ∀ j, V j → ¬ O j
  bel : Below B w W
  hB : B ≤ W.heap.size
theorem SG.below {B g k T : Nat} {w : World} {f : List Nat → Option Ds} {s : Ms} {W W' : World} (h : SG B g k T w f s W) (hb : Below W.heap.size W W') : SG B g k T w f s W' := by
  obtain ⟨V, O, N, hN, h1, h2, h3⟩ := h.ex
  exact ⟨⟨V, O, N, hN, h1.below hb, h2.below hb, h3⟩, h.bel.trans (hb.mono h.hB), Nat.le_trans h.hB hb.size⟩
/-- the marker is made -/
theorem PG.mark {B g N M : Nat} {w : World} {f : List Nat → Option Ds} {W W1 : World} (h : PG B g N w f W) (hN : N ≤ 1000000) (hb : Below W.heap.size W W1) {a : Option Addr} {n c : Nat} {z : List Nat} (ho : OwE W1 W.heap.size (.slice a n c) (ndsP z)) (hbd : Bd f (ndsP z) (fun _ => false) M) :
    Calls Try.prog 9 #[.pointer (some ⟨g, 0, none⟩), .slice a n c] W1 fun e w' => ∃ k, e = .returned (.pointer (some ⟨k, 0, none⟩)) ∧ SG B g k M w f (ndsP z, fun _ => false) w' := by
  obtain ⟨V, h1⟩ := h.gr
  obtain ⟨a', c', ev, hlc, hcm, hac, hdr⟩ := ho.dr (ndsP_d32 z)
  obtain ⟨e1, e2, e3⟩ := Value.slice.inj ev
  subst e1
  subst e3
  rw [← e2] at hlc hdr
  have hnl := ndsP_len z
  refine (mark_c g a n c (ndsP z) hdr hlc (by omega)).mono ?_
  rintro e w' ⟨k, rfl, hm, hb2⟩
  have hbb : Below W.heap.size W w' := hb.trans (hb2.mono hb.size)
  refine ⟨k, rfl, ⟨V, _, N, hN, h1.below hbb, ⟨0, M, by omega, hm.base (Nat.le_trans h.hB hb.size), hbd⟩, fun j hv ho => ?_⟩, h.bel.trans (hbb.mono h.hB), Nat.le_trans h.hB hbb.size⟩
  have h2 := (h1.vb j hv).2
  have h3 := hb.size
  rcases ho with ho | ho
  · exact ho
  · omega
theorem SG.step {B g k T : Nat} {w : World} {f : List Nat → Option Ds} {s : Ms} {W : World} (h : SG B g k T w f s W) (hT : T ≤ 100000000) (hf : SmallF f) (n : Int) (hn : -9223372036854775808 ≤ n ∧ n ≤ 9223372036854775807) : Calls Try.prog 29 #[.pointer (some ⟨k, 0, none⟩), .int .i64 n] W fun e w' => e = .returned (.bool (decide ((itP f n.toNat s).1.length = 0))) ∧ SG B g k T w f (itP f n.toNat s) w' := by
  obtain ⟨V, O, N, hN, h1, h2, h3⟩ := h.ex
  have hob : ∀ j, O j → B ≤ j := fun j hj => by obtain ⟨N, M, -, q, -⟩ := h2; exact (q.ob j hj).1
  refine (step_c h2 h1 h3 h.hB hT hf.len n hn).mono ?_
  rintro e w' ⟨rfl, hm, hfr⟩
  exact ⟨rfl, ⟨V, _, N, hN, h1.fr hfr h3, hm, fun j hv ho => h3 j hv (ext_old j (h1.vb j hv).2 ho)⟩, h.bel.trans (hfr.below h.hB hob), Nat.le_trans h.hB hfr.size⟩
theorem SG.left {B g k T : Nat} {w : World} {f : List Nat → Option Ds} {s : Ms} {W : World} (h : SG B g k T w f s W) : Calls Try.prog 13 #[.pointer (some ⟨k, 0, none⟩)] W fun e w' => e = .returned (.int .i64 (s.1.length : Nat)) ∧ w' = W := by
  obtain ⟨V, O, N, hN, h1, ⟨N2, M, -, h2, -⟩, -⟩ := h.ex
  exact left_c h2
theorem SG.len {B g k T : Nat} {w : World} {f : List Nat → Option Ds} {s : Ms} {W : World} (h : SG B g k T w f s W) : s.1.length ≤ T := by
  obtain ⟨V, O, N, hN, h1, ⟨N2, M, h4, h2, h3⟩, -⟩ := h.ex
  have := h3.len
  omega
theorem SG.marked {B g k T : Nat} {w : World} {f : List Nat → Option Ds} {s : Ms} {W : World} (h : SG B g k T w f s W) {d : List Nat} (hd : D32 d) : Calls Try.prog 21 #[.pointer (some ⟨k, 0, none⟩), .agg (cellsOf d).toArray] W fun e w' => e = .returned (.bool (s.2 d)) ∧ Below W.heap.size W w' := by
  obtain ⟨V, O, N, hN, h1, ⟨N2, M, -, h2, -⟩, -⟩ := h.ex
  exact marked_c h2 hd
theorem SG.reach {B g k T M : Nat} {w : World} {f : List Nat → Option Ds} {s : Ms} {W W1 : World} (h : SG B g k T w f s W) (hf : SmallF f) (hb : Below W.heap.size W W1) {a : Option Addr} {n c : Nat} {z : List Nat} (ho : OwE W1 W.heap.size (.slice a n c) (ndsP z)) (hbd : Bd f (ndsP z) (fun _ => false) M) (hM : M ≤ 100000000) :
    Calls Try.prog 27 #[.pointer (some ⟨g, 0, none⟩), .slice a n c] W1 (ReachR f (ndsP z) W1) := by
  obtain ⟨V, O, N, hN, h1, h2, h3⟩ := h.ex
  obtain ⟨a', c', ev, hlc, hcm, hac, hdr⟩ := ho.dr (ndsP_d32 z)
  obtain ⟨e1, e2, e3⟩ := Value.slice.inj ev
  subst e1
  subst e3
  rw [← e2] at hlc hdr
  have hnl := ndsP_len z
  exact reach_c (h1.below hb) a n c (ndsP z) hdr hlc (by omega) hbd hM hf.len
end Go.Proofs.Ytpppffgchgcghaa
