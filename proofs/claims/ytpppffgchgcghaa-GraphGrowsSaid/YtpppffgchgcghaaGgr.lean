/-
  A graph that grows while it is marked: plain, and in the law's hands.
-/
import Derived.Test.YtpppffgchgcghaaGsf
import Derived.Test.YtpppffgchgcghaaGst
namespace Go.Proofs.Ytpppffgchgcghaa
open Go.RowKit Go.Maps
set_option linter.unusedVariables false
/-- black, or gray, or no node -/
def okN (f : List Nat → Option Ds) (s : Ms) (t : List Nat) : Prop := s.2 t = true ∨ t ∈ s.1 ∨ f t = none
/-- each root and all to which what is black leads -/
def InvG (f : List Nat → Option Ds) (R : Ds) (s : Ms) : Prop := (∀ r ∈ R, okN f s r) ∧ ∀ v ts, s.2 v = true → f v = some ts → ∀ t ∈ ts, okN f s t
theorem inv_start (f : List Nat → Option Ds) (R : Ds) : InvG f R (R, fun _ => false) := ⟨fun r hr => .inr (.inl hr), fun v ts h => by cases h⟩
theorem okN_look {f : List Nat → Option Ds} {d : List Nat} {r : Ds} {b : List Nat → Bool} {t : List Nat} (h : okN f (d :: r, b) t) : okN f (lookP f (d :: r) b) t := by
  simp only [lookP]
  cases hf : f d with
  | none =>
    simp only
    rcases h with h | h | h
    · exact .inl h
    · rcases List.mem_cons.1 h with e | h
      · subst e; exact .inr (.inr hf)
      · exact .inr (.inl h)
    · exact .inr (.inr h)
  | some ts =>
    simp only
    cases hb : b d with
    | true =>
      simp only [if_true]
      rcases h with h | h | h
      · exact .inl h
      · rcases List.mem_cons.1 h with e | h
        · subst e; exact .inl hb
        · exact .inr (.inl h)
      · exact .inr (.inr h)
    | false =>
      simp only [Bool.false_eq_true, if_false]
      by_cases e : t = d
      · exact .inl (by simp [bk, e])
      · rcases h with h | h | h
        · exact .inl (by simp only [bk, if_neg e]; exact h)
        · exact .inr (.inl (List.mem_append_left _ ((List.mem_cons.1 h).resolve_left e)))
        · exact .inr (.inr h)
theorem inv_look {f : List Nat → Option Ds} {R : Ds} {d : List Nat} {r : Ds} {b : List Nat → Bool} (h : InvG f R (d :: r, b)) : InvG f R (lookP f (d :: r) b) := by
  refine ⟨fun x hx => okN_look (h.1 x hx), fun v ts hv hf t ht => ?_⟩
  by_cases hbv : b v = true
  · exact okN_look (h.2 v ts hbv hf t ht)
  · simp only [lookP] at hv ⊢
    cases hfd : f d with
    | none =>
      rw [hfd] at hv
      exact absurd hv hbv
    | some tt =>
      rw [hfd] at hv
      simp only at hv ⊢
      cases hb : b d with
      | true =>
        rw [hb] at hv
        simp only [if_true] at hv
        exact absurd hv hbv
      | false =>
        rw [hb] at hv
        simp only [Bool.false_eq_true, if_false] at hv ⊢
        have hvd : v = d := by
          by_cases e : v = d
          · exact e
          · simp only [bk, if_neg e] at hv
            exact absurd hv hbv
        subst hvd
        rw [hfd] at hf
        cases hf
        by_cases hbk : bk b v t = true
        · exact .inl hbk
        · exact .inr (.inl (List.mem_append_right _ (List.mem_filter.2 ⟨ht, by simp [hbk]⟩)))
theorem inv_it {f : List Nat → Option Ds} {R : Ds} : ∀ (n : Nat) (s : Ms), InvG f R s → InvG f R (itP f n s)
  | 0, _, h => h
  | n + 1, ([], b), h => by rw [itP_nil]; exact h
  | n + 1, (d :: r, b), h => inv_it n _ (inv_look h)
theorem inv_put {f : List Nat → Option Ds} {R : Ds} {s : Ms} (h : InvG f R s) (d : List Nat) (ts : Ds) : InvG (fun t => if t = d then some ts else f t) R (s.1 ++ [d], fun t => if t = d then false else s.2 t) := by
  have ho : ∀ t, okN f s t → okN (fun t => if t = d then some ts else f t) (s.1 ++ [d], fun t => if t = d then false else s.2 t) t := fun t ht => by
    by_cases e : t = d
    · exact .inr (.inl (List.mem_append_right _ (by rw [e]; exact List.mem_singleton.2 rfl)))
    · rcases ht with ht | ht | ht
      · exact .inl (by simp only [if_neg e]; exact ht)
      · exact .inr (.inl (List.mem_append_left _ ht))
      · exact .inr (.inr (by simp only [if_neg e]; exact ht))
  refine ⟨fun r hr => ho r (h.1 r hr), fun v tt hv hf t ht => ?_⟩
  by_cases e : v = d
  · simp only [e, if_true] at hv
    cases hv
  · simp only [if_neg e] at hv hf
    exact ho t (h.2 v tt hv hf t ht)
theorem inv_end {f : List Nat → Option Ds} {R : Ds} {b : List Nat → Bool} (h : InvG f R ([], b)) : ∀ (n : Nat) (s : Ms), (∀ v, s.2 v = true → b v = true) → (∀ t ∈ s.1, b t = true ∨ f t = none) → ∀ v, (itP f n s).2 v = true → b v = true
  | 0, _, h1, _, v, hv => h1 v hv
  | n + 1, ([], c), h1, _, v, hv => by rw [itP_nil] at hv; exact h1 v hv
  | n + 1, (d :: r, c), h1, h2, v, hv => by
    have hr : ∀ t ∈ r, b t = true ∨ f t = none := fun t ht => h2 t (List.mem_cons_of_mem _ ht)
    have hd := h2 d (List.mem_cons_self ..)
    refine inv_end h n (lookP f (d :: r) c) ?_ ?_ v hv
    · intro x hx
      simp only [lookP] at hx
      cases hfd : f d with
      | none => rw [hfd] at hx; exact h1 x hx
      | some tt =>
        rw [hfd] at hx
        simp only at hx
        cases hb : c d with
        | true => rw [hb] at hx; exact h1 x hx
        | false =>
          rw [hb] at hx
          simp only [Bool.false_eq_true, if_false, bk] at hx
          by_cases e : x = d
          · subst e
            exact hd.resolve_right (by rw [hfd]; simp)
          · rw [if_neg e] at hx
            exact h1 x hx
    · intro t ht
      simp only [lookP] at ht
      cases hfd : f d with
      | none => rw [hfd] at ht; exact hr t ht
      | some tt =>
        rw [hfd] at ht
        simp only at ht
        cases hb : c d with
        | true => rw [hb] at ht; exact hr t ht
        | false =>
          rw [hb] at ht
          simp only [Bool.false_eq_true, if_false] at ht
          rcases List.mem_append.1 ht with ht | ht
          · exact hr t ht
          · have hbd : b d = true := hd.resolve_right (by rw [hfd]; simp)
            rcases h.2 d tt hbd hfd t (List.mem_filter.1 ht).1 with e | e | e
            · exact .inl e
            · cases e
            · exact .inr e
theorem inv_reach {f : List Nat → Option Ds} {R : Ds} {b : List Nat → Bool} (h : InvG f R ([], b)) (n : Nat) : ∀ v, (itP f n (R, fun _ => false)).2 v = true → b v = true :=
  inv_end h n _ (fun v hv => by cases hv) (fun t ht => (h.1 t ht).imp id fun e => e.resolve_left fun e2 => by cases e2)
/-- all the law's nodes -/
def dom18 : List (List Nat) := (List.range 18).map nd
theorem dom18_nodup : dom18.Nodup := by decide
theorem dom18_len : dom18.length = 18 := by decide
theorem nd_dom (n : Nat) : nd n ∈ dom18 := by
  have hb : n % 18 < 18 := by omega
  have e : nd n = nd (n % 18) := by
    unfold nd
    rw [show n % 18 % 9 = n % 9 by omega, show n % 18 % 2 = n % 2 by omega]
  rw [e]
  exact List.mem_map.2 ⟨n % 18, List.mem_range.2 hb, rfl⟩
theorem fE_dom18 (L : List (List Nat)) (j : Nat) (hj : j ≤ 9) (s : List Nat) (h : (fE L j s).isSome = true) : s ∈ dom18 := by
  obtain ⟨n, -, rfl⟩ := List.mem_map.1 (fE_dom L j hj s h)
  exact nd_dom n
/-- a graph and a marker that grow, in the law's hands -/
structure GG (B g k N0 T : Nat) (w : World) (f : List Nat → Option Ds) (s : Ms) (W : World) : Prop where
  ex : ∃ V O N, N ≤ N0 ∧ GR B N V W g f ∧ MK B T O W k g f s ∧ ∀ j, V j → ¬ O j
  bel : Below B w W
  hB : B ≤ W.heap.size
  sm : SmallF f
  dom : ∀ s, (f s).isSome = true → s ∈ dom18
/-- between a Put and its Gray -/
structure GH (B g k N0 T : Nat) (w : World) (f : List Nat → Option Ds) (s : Ms) (W : World) : Prop where
  ex : ∃ V O N N2, N ≤ N0 ∧ N2 + s.1.length ≤ T ∧ GR B N V W g f ∧ MR B N2 O W k g s.1 s.2 ∧ ∀ j, V j → ¬ O j
  bel : Below B w W
  hB : B ≤ W.heap.size
  sm : SmallF f
  dom : ∀ s, (f s).isSome = true → s ∈ dom18
theorem GG.below {B g k N0 T : Nat} {w : World} {f : List Nat → Option Ds} {s : Ms} {W W' : World} (h : GG B g k N0 T w f s W) (hb : Below W.heap.size W W') : GG B g k N0 T w f s W' := by
  obtain ⟨V, O, N, hN, h1, h2, h3⟩ := h.ex
  exact ⟨⟨V, O, N, hN, h1.below hb, h2.below hb, h3⟩, h.bel.trans (hb.mono h.hB), Nat.le_trans h.hB hb.size, h.sm, h.dom⟩
theorem GH.below {B g k N0 T : Nat} {w : World} {f : List Nat → Option Ds} {s : Ms} {W W' : World} (h : GH B g k N0 T w f s W) (hb : Below W.heap.size W W') : GH B g k N0 T w f s W' := by
  obtain ⟨V, O, N, N2, hN, h4, h1, h2, h3⟩ := h.ex
  exact ⟨⟨V, O, N, N2, hN, h4, h1.below hb, h2.below hb, h3⟩, h.bel.trans (hb.mono h.hB), Nat.le_trans h.hB hb.size, h.sm, h.dom⟩
theorem GG.sg {B g k N0 T : Nat} {w : World} {f : List Nat → Option Ds} {s : Ms} {W : World} (h : GG B g k N0 T w f s W) (hN : N0 ≤ 1000000) : SG B g k T w f s W := by
  obtain ⟨V, O, N, h0, h1, h2, h3⟩ := h.ex
  exact ⟨⟨V, O, N, by omega, h1, h2, h3⟩, h.bel, h.hB⟩
/-- the marker is made -/
theorem PG.gmark {B g N M : Nat} {w : World} {f : List Nat → Option Ds} {W W1 : World} (h : PG B g N w f W) (hf : SmallF f) (hdm : ∀ s, (f s).isSome = true → s ∈ dom18) (hb : Below W.heap.size W W1) {a : Option Addr} {n c : Nat} {z : List Nat} (ho : OwE W1 W.heap.size (.slice a n c) (ndsP z)) (hbd : Bd f (ndsP z) (fun _ => false) M) :
    Calls Try.prog 9 #[.pointer (some ⟨g, 0, none⟩), .slice a n c] W1 fun e w' => ∃ k, e = .returned (.pointer (some ⟨k, 0, none⟩)) ∧ GG B g k N M w f (ndsP z, fun _ => false) w' := by
  obtain ⟨V, h1⟩ := h.gr
  obtain ⟨a', c', ev, hlc, hcm, hac, hdr⟩ := ho.dr (ndsP_d32 z)
  obtain ⟨e1, e2, e3⟩ := Value.slice.inj ev
  subst e1
  subst e3
  rw [← e2] at hlc hdr
  have hnl := ndsP_len z
  refine (mark_c g a n c (ndsP z) hdr hlc (by omega)).mono ?_
  rintro e w' ⟨k, rfl, hm, hb2⟩
  have hbb : Below W.heap.size W w' := hb.trans (hb2.mono hb.size)
  refine ⟨k, rfl, ⟨V, _, N, Nat.le_refl _, h1.below hbb, ⟨0, M, by omega, hm.base (Nat.le_trans h.hB hb.size), hbd⟩, fun j hv ho => ?_⟩, h.bel.trans (hbb.mono h.hB), Nat.le_trans h.hB hbb.size, hf, hdm⟩
  have h2 := (h1.vb j hv).2
  have h3 := hb.size
  rcases ho with ho | ho
  · exact ho
  · omega
theorem GG.step {B g k N0 T : Nat} {w : World} {f : List Nat → Option Ds} {s : Ms} {W : World} (h : GG B g k N0 T w f s W) (hT : T ≤ 100000000) (n : Int) (hn : -9223372036854775808 ≤ n ∧ n ≤ 9223372036854775807) : Calls Try.prog 29 #[.pointer (some ⟨k, 0, none⟩), .int .i64 n] W fun e w' => e = .returned (.bool (decide ((itP f n.toNat s).1.length = 0))) ∧ GG B g k N0 T w f (itP f n.toNat s) w' := by
  obtain ⟨V, O, N, hN, h1, h2, h3⟩ := h.ex
  have hob : ∀ j, O j → B ≤ j := fun j hj => by obtain ⟨N, M, -, q, -⟩ := h2; exact (q.ob j hj).1
  refine (step_c h2 h1 h3 h.hB hT h.sm.len n hn).mono ?_
  rintro e w' ⟨rfl, hm, hfr⟩
  exact ⟨rfl, ⟨V, _, N, hN, h1.fr hfr h3, hm, fun j hv ho => h3 j hv (ext_old j (h1.vb j hv).2 ho)⟩, h.bel.trans (hfr.below h.hB hob), Nat.le_trans h.hB hfr.size, h.sm, h.dom⟩
/-- a node is put, its edges in memory that is newer than W -/
theorem GG.put {B g k N0 T : Nat} {w : World} {f : List Nat → Option Ds} {s : Ms} {W W1 : World} (h : GG B g k N0 T w f s W) (hN : N0 ≤ 1000000) (hb : Below W.heap.size W W1) {d : List Nat} (hd : D32 d) (hdd : d ∈ dom18) {a : Option Addr} {n c : Nat} {z : List Nat} (ho : OwE W1 W.heap.size (.slice a n c) (ndsP z)) :
    Calls Try.prog 23 #[.pointer (some ⟨g, 0, none⟩), .agg (cellsOf d).toArray, .slice a n c] W1 fun e w' => e = .returned (.int .i64 0) ∧ GH B g k (N0 + 1) T w (fun t => if t = d then some (ndsP z) else f t) s w' ∧ (∀ i, W.heap.size ≤ i → i < W1.heap.size → w'.heap[i]? = W1.heap[i]?) := by
  obtain ⟨V, O, N, h0, h1, ⟨N2, M, h4, h2, h5⟩, h3⟩ := h.ex
  obtain ⟨a', c', ev, hlc, hcm, hac, hdr⟩ := ho.dr (ndsP_d32 z)
  obtain ⟨e1, e2, e3⟩ := Value.slice.inj ev
  subst e1
  subst e3
  rw [← e2] at hlc hdr
  have hnl := ndsP_len z
  have hl := h5.len
  refine (put_c (h1.below hb) (Nat.le_trans h.hB hb.size) (by omega) hd a n c (ndsP z) hdr hlc (by omega) (fun b o e hv => ?_)).mono ?_
  · have h2 := (h1.vb b hv).2
    have h3 := (ho.block b (by rw [e]; rfl)).1
    omega
  · rintro e w' ⟨rfl, hg, hf⟩
    have hbB := hf.below (Nat.le_trans h.hB hb.size) (fun k hk => (h1.vb k hk).1)
    refine ⟨rfl, ⟨⟨_, O, N + 1, N2, by omega, by omega, hg, (h2.below hb).fr hf fun j ho hv => h3 j hv ho, fun j hv ho => ?_⟩, (h.bel.trans (hb.mono h.hB)).trans hbB, Nat.le_trans (Nat.le_trans h.hB hb.size) hf.size, h.sm.put d z, fun t ht => ?_⟩, fun i hi hi2 => hf.block i hi2 fun hv => ?_⟩
    · have h7 := (h2.ob j ho).2
      have h8 := hb.size
      rcases hv with hv | hv
      · exact h3 j hv ho
      · omega
    · by_cases e : t = d
      · rw [e]; exact hdd
      · simp only [if_neg e] at ht
        exact h.dom t ht
    · have := (h1.vb i hv).2
      omega
theorem GH.gray {B g k N0 T : Nat} {w : World} {f : List Nat → Option Ds} {s : Ms} {W : World} (h : GH B g k N0 T w f s W) (hT : T ≤ 100000000) {d : List Nat} (hd : D32 d) :
    Calls Try.prog 30 #[.pointer (some ⟨k, 0, none⟩), .agg (cellsOf d).toArray] W fun e w' => e = .returned (.int .i64 0) ∧ GG B g k N0 (T + 217) w f (s.1 ++ [d], fun t => if t = d then false else s.2 t) w' := by
  obtain ⟨V, O, N, N2, h0, h4, h1, h2, h3⟩ := h.ex
  refine (gray_c h2 h.hB (by omega) hd).mono ?_
  rintro e w' ⟨rfl, hm, hf⟩
  have hbd := bd_of h.sm dom18_nodup h.dom (s.1 ++ [d]) (fun t => if t = d then false else s.2 t)
  rw [dom18_len, List.length_append] at hbd
  simp only [List.length_singleton] at hbd
  exact ⟨rfl, ⟨V, _, N, h0, h1.fr hf h3, ⟨N2, _, by omega, hm, hbd⟩, fun j hv ho => h3 j hv (ext_old j (h1.vb j hv).2 ho)⟩, h.bel.trans (hf.below h.hB fun j hj => (h2.ob j hj).1), Nat.le_trans h.hB hf.size, h.sm, h.dom⟩
theorem GG.done {B g k N0 T : Nat} {w : World} {f : List Nat → Option Ds} {s : Ms} {W : World} (h : GG B g k N0 T w f s W) {n : Nat} (hn : T ≤ n) : (itP f n s).1 = [] := by
  obtain ⟨V, O, N, h0, h1, ⟨N2, M, h4, h2, h5⟩, h3⟩ := h.ex
  have e := bd_done h.sm M s.1 s.2 h2.d32 h5
  rw [itP_done (n := n) e (by omega)]
  exact e
/-- a step of a script as it came in -/
structure OpG (W : World) (b o : Nat) (kd : Int) (x : Nat) (z : Sl) (n : Int) : Prop where
  c0 : W.cell? ⟨b, o, none⟩ = some (.int .i64 kd)
  c1 : W.cell? ⟨b, o + 1, none⟩ = some (.int .u8 (x : Int))
  c2 : W.cell? ⟨b, o + 2, none⟩ = some (.slice z.1 z.2.1 z.2.2.1)
  c3 : W.cell? ⟨b, o + 3, none⟩ = some (.int .i64 n)
  s0 : -9223372036854775808 ≤ kd ∧ kd ≤ 9223372036854775807
  s1 : x < 256
  s2 : SlB W z
  s3 : -9223372036854775808 ≤ n ∧ n ≤ 9223372036854775807
theorem wf64 {n : Int} (h : (Lit.int .i64 n).wf = true) : -9223372036854775808 ≤ n ∧ n ≤ 9223372036854775807 := by
  rw [show (Lit.int .i64 n).wf = (decide ((-9223372036854775808 : Int) ≤ n) && decide (n ≤ (9223372036854775807 : Int))) from rfl, Bool.and_eq_true] at h
  exact ⟨of_decide_eq_true h.1, of_decide_eq_true h.2⟩
theorem wf8 {n : Int} (h : (Lit.int .u8 n).wf = true) : ∃ x : Nat, n = (x : Int) ∧ x < 256 := by
  rw [show (Lit.int .u8 n).wf = (decide ((0 : Int) ≤ n) && decide (n ≤ (255 : Int))) from rfl, Bool.and_eq_true] at h
  have h1 := of_decide_eq_true h.1
  have h2 := of_decide_eq_true h.2
  exact ⟨n.toNat, by omega, by omega⟩
theorem StsIn.opg {W : World} {a : Option Addr} {len cap : Nat} {L : List (List FV)} (h : StsIn W [.i, .u, .b, .i] a len cap L) {i : Nat} (hi : i < len) : ∃ b off kd x z n, a = some ⟨b, off, none⟩ ∧ b < W.heap.size ∧ OpG W b (off + i * 4) kd x z n := by
  obtain ⟨h1, h2, h3, h4, h5, h6⟩ := h
  obtain ⟨b, off, ha, hb, hc⟩ := h5.resolve_left (by omega)
  obtain ⟨r, hr⟩ : ∃ r, L[i]? = some r := ⟨_, List.getElem?_eq_getElem (by omega)⟩
  obtain ⟨h7, h8⟩ := h6 r (List.mem_of_getElem? hr)
  have hcc := hc i r hr
  simp only [List.length_cons, List.length_nil] at h7 hcc
  match r, h7, h8, hcc with
  | [f0, f1, f2, f3], _, h8, hcc =>
    have e0 := h8 0 _ _ rfl rfl
    have e1 := h8 1 _ _ rfl rfl
    have e2 := h8 2 _ _ rfl rfl
    have e3 := h8 3 _ _ rfl rfl
    cases f0 <;> first | exact e0.elim | skip
    cases f1 <;> first | exact e1.elim | skip
    cases f2 <;> first | exact e2.elim | skip
    cases f3 <;> first | exact e3.elim | skip
    obtain ⟨x, hx, hxl⟩ := wf8 e1
    refine ⟨b, off, _, x, _, _, ha, hb, hcc 0 _ rfl, ?_, hcc 2 _ rfl, hcc 3 _ rfl, wf64 e0, hxl, e2, wf64 e3⟩
    rw [← hx]
    exact hcc 1 _ rfl
theorem run_opg_idx (W : World) (b o len cap i : Nat) (hi : i < len) : (Instr.indexAt 22 (.slice (some ⟨b, o, none⟩) len cap) (.int .i64 (i : Int))).run Try.prog W = .ok (.pointer (some ⟨b, o + i * 4, none⟩)) W := by
  rw [run_indexAt_slice W 22 ⟨b, o, none⟩ len cap .i64 (i : Int) (by kernel_rfl)]
  have h1 : (0 : Int) ≤ (i : Int) ∧ (i : Int) < (len : Int) := by omega
  rw [if_pos h1, show (Go.sizeOf (Try.prog.elem 22)).run Try.prog W = .ok 4 W from by kernel_rfl]
  simp [Result.andThen, Addr.add]
def OgB (W : World) (X : Nat) (kd : Int) (x : Nat) (p : Value) (n : Int) : Prop := W.heap[X]? = some (.cells #[.int .i64 kd, .int .u8 (x : Int), p, .int .i64 n] 35 (0, 0))
end Go.Proofs.Ytpppffgchgcghaa
