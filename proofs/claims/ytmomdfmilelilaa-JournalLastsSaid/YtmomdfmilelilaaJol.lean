/-
  The steps of a journal's script: how they came in, what stands between them.
-/
import Derived.Test.YtmomdfmilelilaaJoi
import Derived.Test.YtmomdfmilelilaaJok
import Derived.Test.YtmomdfmilelilaaStv
import Derived.Maps.AppendAt
import Derived.Deep.Upon
namespace Go.Proofs.Ytmomdfmilelilaa
open Go.RowKit
set_option linter.unusedVariables false
theorem run_opj_idx (W : World) (b o len cap i : Nat) (hi : i < len) : (Instr.indexAt 22 (.slice (some ⟨b, o, none⟩) len cap) (.int .i64 (i : Int))).run Try.prog W = .ok (.pointer (some ⟨b, o + i * 5, none⟩)) W := by
  rw [run_indexAt_slice W 22 ⟨b, o, none⟩ len cap .i64 (i : Int) (by kernel_rfl)]
  have h1 : (0 : Int) ≤ (i : Int) ∧ (i : Int) < (len : Int) := by omega
  rw [if_pos h1, show (Go.sizeOf (Try.prog.elem 22)).run Try.prog W = .ok 5 W from by kernel_rfl]
  simp [Result.andThen, Addr.add]
/-- a step of a script as it came in -/
structure OpJ (W : World) (b o : Nat) (kd : Int) (z : Sl) (ra : Option Addr) (rn rc : Nat) (L : List Sl) (n q : Int) : Prop where
  c0 : W.cell? ⟨b, o, none⟩ = some (.int .i64 kd)
  c1 : W.cell? ⟨b, o + 1, none⟩ = some (.slice z.1 z.2.1 z.2.2.1)
  c2 : W.cell? ⟨b, o + 2, none⟩ = some (.slice ra rn rc)
  c3 : W.cell? ⟨b, o + 3, none⟩ = some (.int .i64 n)
  c4 : W.cell? ⟨b, o + 4, none⟩ = some (.int .i64 q)
  s1 : SlB W z
  s2 : BssIn W ra rn rc L
  s4 : n ≤ 9223372036854775807
theorem StsIn.opj {W : World} {a : Option Addr} {len cap : Nat} {L : List (List FV)} (h : StsIn W [.i, .b, .bb, .i, .i] a len cap L) {i : Nat} (hi : i < len) : ∃ b off kd z ra rn rc M n q, a = some ⟨b, off, none⟩ ∧ b < W.heap.size ∧ OpJ W b (off + i * 5) kd z ra rn rc M n q := by
  obtain ⟨h1, h2, h3, h4, h5, h6⟩ := h
  obtain ⟨b, off, ha, hb, hc⟩ := h5.resolve_left (by omega)
  obtain ⟨r, hr⟩ : ∃ r, L[i]? = some r := ⟨_, List.getElem?_eq_getElem (by omega)⟩
  obtain ⟨h7, h8⟩ := h6 r (List.mem_of_getElem? hr)
  have hcc := hc i r hr
  simp only [List.length_cons, List.length_nil] at h7 hcc
  match r, h7, h8, hcc with
  | [f0, f1, f2, f3, f4], _, h8, hcc =>
    have e0 := h8 0 _ _ rfl rfl
    have e1 := h8 1 _ _ rfl rfl
    have e2 := h8 2 _ _ rfl rfl
    have e3 := h8 3 _ _ rfl rfl
    have e4 := h8 4 _ _ rfl rfl
    cases f0 <;> first | exact e0.elim | skip
    cases f1 <;> first | exact e1.elim | skip
    cases f2 <;> first | exact e2.elim | skip
    cases f3 <;> first | exact e3.elim | skip
    cases f4 <;> first | exact e4.elim | skip
    refine ⟨b, off, _, _, _, _, _, _, _, _, ha, hb, hcc 0 _ rfl, hcc 1 _ rfl, hcc 2 _ rfl, hcc 3 _ rfl, hcc 4 _ rfl, e1, e2, ?_⟩
    have e6 : (Lit.int .i64 _).wf = true := e3
    rw [show (Lit.int .i64 _).wf = (decide (_ ≤ _) && decide (_ ≤ (9223372036854775807 : Int))) from rfl, Bool.and_eq_true] at e6
    exact of_decide_eq_true e6.2
def OpK (W : World) (X : Nat) (kd : Int) (p r : Value) (n q : Int) : Prop := W.heap[X]? = some (.cells #[.int .i64 kd, p, r, .int .i64 n, .int .i64 q] 34 (0, 0))
theorem OpK.cells {W : World} {X : Nat} {kd : Int} {p r : Value} {n q : Int} (h : OpK W X kd p r n q) : W.cell? ⟨X, 0, none⟩ = some (.int .i64 kd) ∧ W.cell? ⟨X, 1, none⟩ = some p ∧ W.cell? ⟨X, 2, none⟩ = some r ∧ W.cell? ⟨X, 3, none⟩ = some (.int .i64 n) ∧ W.cell? ⟨X, 4, none⟩ = some (.int .i64 q) :=
  ⟨(cell_of_row W X 0 _ _ _ h).trans rfl, (cell_of_row W X 1 _ _ _ h).trans rfl, (cell_of_row W X 2 _ _ _ h).trans rfl, (cell_of_row W X 3 _ _ _ h).trans rfl, (cell_of_row W X 4 _ _ _ h).trans rfl⟩
theorem OpK.lt {W : World} {X : Nat} {kd : Int} {p r : Value} {n q : Int} (h : OpK W X kd p r n q) : X < W.heap.size := (Array.getElem?_eq_some_iff.1 h).1
theorem OpK.at {W W' : World} {X : Nat} {kd : Int} {p r : Value} {n q : Int} (h : OpK W X kd p r n q) (hk : W'.heap[X]? = W.heap[X]?) : OpK W' X kd p r n q := hk.trans h
theorem OpK.below {W W' : World} {X : Nat} {kd : Int} {p r : Value} {n q : Int} (h : OpK W X kd p r n q) (hb : Below W.heap.size W W') : OpK W' X kd p r n q := h.at (hb.block X h.lt)
theorem Dx.fuse {X : Nat → Prop} {B d N : Nat} {A : Ad} {w : World} (h : Dx X B d N A w) (n : Int) (hn : n ≤ 9223372036854775807) : Calls Try.prog 15 #[.pointer (some ⟨d, 0, none⟩), .int .i64 n] w (DxR X B d N w (A.fused n)) := h.call fun S h1 h2 _ => afuse h1 h2 n hn
theorem Dx.crash {X : Nat → Prop} {B d N : Nat} {A : Ad} {w : World} (h : Dx X B d N A w) (keep part : Int) (hN : N < 1000000000) : Calls Try.prog 16 #[.pointer (some ⟨d, 0, none⟩), .int .i64 keep, .int .i64 part] w (DxR X B d N w (A.crash keep part, 0)) := h.call (r := (A.crash keep part, 0)) fun S h1 h2 _ => acrash h1 h2 keep part hN
theorem RowRd.below {w w' : World} {a : Option Addr} {n : Nat} {ps : List (List Nat)} (h : RowRd w a n ps) (hb : Below w.heap.size w w') : RowRd w' a n ps := by
  obtain ⟨h1, h2⟩ := h
  refine ⟨h1, h2.imp id fun ⟨b, off, e, hc⟩ => ⟨b, off, e, fun i p hp => ?_⟩⟩
  obtain ⟨x, m, c, e1, e2, e3⟩ := hc i p hp
  exact ⟨x, m, c, (hb.cell (World.block_lt_of_cell? w _ e1)).trans e1, e2.below hb, e3⟩
/-- the records among the arguments -/
def recL (L : List Sl) : List (List Nat) := L.map fun s => s.2.2.2
theorem BssIn.row {w : World} {a : Option Addr} {n c : Nat} {L : List Sl} (h : BssIn w a n c L) : RowRd w a n (recL L) := by
  obtain ⟨h1, h2, h3, h4, h5, h6⟩ := h
  refine ⟨by unfold recL; rw [List.length_map, h1], h5.imp id fun ⟨b, off, e, hb, hc⟩ => ⟨b, off, e, fun i p hp => ?_⟩⟩
  unfold recL at hp
  rw [List.getElem?_map] at hp
  obtain ⟨s, hs, rfl⟩ := Option.map_eq_some_iff.1 hp
  have hq := (h6 s (List.mem_of_getElem? hs))
  exact ⟨_, _, _, hc i s hs, hq.1, by have := hq.2.2.1; have := hq.2.2.2; omega⟩
theorem BssIn.rcd {w : World} {a : Option Addr} {n c : Nat} {L : List Sl} (h : BssIn w a n c L) (X : Nat → Prop) : Rcd X w.heap.size w a n (recL L) := by
  obtain ⟨h1, h2, h3, h4, h5, h6⟩ := h
  refine ⟨by unfold recL; rw [List.length_map, h1], fun k p hp => ?_⟩
  unfold recL at hp
  rw [List.getElem?_map] at hp
  obtain ⟨s, hs, rfl⟩ := Option.map_eq_some_iff.1 hp
  have hk := (List.getElem?_eq_some_iff.1 hs).1
  obtain ⟨b, off, e, hb, hc⟩ := h5.resolve_left (by omega)
  obtain ⟨g1, g2, g3, g4⟩ := h6 s (List.mem_of_getElem? hs)
  have hl : s.2.2.2.length = s.2.1 := g1.1
  refine ⟨b, off, s.1, s.2.2.1, e, .inl hb, hb, by rw [hl]; exact hc k s hs, by rw [hl]; exact g1, fun b' o' sp e2 hn => .inl (rd_blkJ g1 e2 (by omega)), g2, by omega, by omega⟩
theorem recL_byte {w : World} {a : Option Addr} {n c : Nat} {L : List Sl} (h : BssIn w a n c L) : ∀ p ∈ recL L, ∀ z ∈ p, z < 256 := fun p hp => by
  obtain ⟨s, hs, rfl⟩ := List.mem_map.1 hp
  exact (h.2.2.2.2.2 s hs).1.2.1
theorem recL_len {w : World} {a : Option Addr} {n c : Nat} {L : List Sl} (h : BssIn w a n c L) (hs : ∀ s ∈ L, s.2.1 ≤ 400) : ∀ p ∈ recL L, p.length ≤ 400 := fun p hp => by
  obtain ⟨s, hm, rfl⟩ := List.mem_map.1 hp
  have := (h.2.2.2.2.2 s hm).1.1
  have := hs s hm
  omega
theorem flat_bound : ∀ (ps : List (List Nat)), (∀ p ∈ ps, p.length ≤ 400) → (Frm.flatF ps).length ≤ 408 * ps.length
  | [], _ => Nat.le_refl _
  | p :: ps, h => by
    have h1 := h p (List.mem_cons_self)
    have h2 := flat_bound ps fun q hq => h q (List.mem_cons_of_mem _ hq)
    have e : Frm.flatF (p :: ps) = Frm.frameL p ++ Frm.flatF ps := by simp [Frm.flatF]
    rw [e, List.length_append, Frm.frame_len, List.length_cons]
    omega
theorem flat_low : ∀ (ps : List (List Nat)), 8 * ps.length ≤ (Frm.flatF ps).length
  | [] => Nat.zero_le _
  | p :: ps => by
    have h2 := flat_low ps
    have e : Frm.flatF (p :: ps) = Frm.frameL p ++ Frm.flatF ps := by simp [Frm.flatF]
    rw [e, List.length_append, Frm.frame_len, List.length_cons]
    omega
theorem Jn.with {X : Nat → Prop} {B d jb : Nat} {nm : ByteArray} {sz : Int} {N : Nat} {A : Ad} {w w' : World} (h : Jn X B d jb nm sz N A w) (hb : Below w.heap.size w w') (x : Nat) (h1 : w.heap.size ≤ x) (h2 : x < w'.heap.size) : Jn (fun j => X j ∨ j = x) B d jb nm sz N A w' :=
  ⟨h.dx.belowY hb (fun j hj => hj.imp id fun e => by omega) (fun j hj => hj.elim (fun e => Nat.lt_of_lt_of_le (h.dx.lt j e) hb.size) fun e => by omega), .inl h.xj, h.bj, (hb.block jb (h.dx.lt jb h.xj)).trans h.row⟩
/-- the row takes one slice more -/
theorem wpList_pushVE {w : World} {ops : Array Oper} {rest : List Oper} {o : Oper} {a : Act} {Q : Exit → Act → World → Prop} (hgd : o.guard = none) (s x : Operand)
    (ho : o.op = .call { callee := .builtin .append, args := #[s, x], argTypes := #[29, 29] })
    (B : Nat) (v : Value) (vs : List Value) (y : Value) (hy : y.oneCell' = true) (hs : a.eval s = v) (hown : OwnV w B v vs) (hB : B ≤ w.heap.size) (hx : a.eval x = .slice (some ⟨w.heap.size, 0, none⟩) 1 1)
    (hlen : vs.length + 1 ≤ 1000000000)
    (h : ∀ v' w', OwnV w' B v' (vs ++ [y]) → (w.alloc (.cells #[y] 32)).grownBy w' v.ownBlock → (v'.ownBlock = v.ownBlock ∨ v'.ownBlock = some (w.alloc (.cells #[y] 32)).heap.size) → wpList Try.prog ops Q rest (a.put o.dst v') w') :
    wpList Try.prog ops Q (o :: rest) a (w.alloc (.cells #[y] 32)) := by
  obtain ⟨i0, hi, hz0, hz1, hz2⟩ := info_parts info_slv
  have hal : OwnV (w.alloc (.cells #[y] 32)) B v vs := World.ownsRow.alloc hown _
  refine wpList_append_own_at (P := Try.prog) (w := _) hgd s x 29 ho B 32 i0 (.slice none 0 0) 1 24 Try.underlying29 hi hz0 hz1 hz2 rfl (by decide) v vs.length vs hs hal ⟨w.heap.size, 0, none⟩ 1 1 [y] hx rfl ?_ ?_ (by unfold maxLen; omega) (by omega) (by simp; omega) ?_
  · intro j u hj
    rw [Addr.add_mid, Nat.zero_add, cell_of_row _ _ _ _ _ _ (heap_new _ _)]
    simpa using hj
  · intro u hu
    simp only [List.mem_singleton] at hu
    subst hu; exact hy
  · intro v' w' h1 h2 _ h4
    refine h v' w' ?_ h2 h4
    have e : (vs ++ [y]).length = vs.length + 1 := by simp
    unfold OwnV
    rw [e]
    exact h1
/-- what OwA says of the values -/
def OwB (X : Nat → Prop) (B jb : Nat) (w : World) (v : Value) (vs : List Value) (ps : List (List Nat)) : Prop :=
  OwnV w B v vs ∧ vs.length = ps.length ∧ (∀ j, v.ownBlock = some j → X j ∧ j ≠ jb) ∧ ∀ (k : Nat) (p : List Nat) (u : Value), ps[k]? = some p → vs[k]? = some u → ∃ pa pc, u = .slice pa p.length pc ∧ Rd w pa p.length p ∧ p.length ≤ pc ∧ pc ≤ 9223372036854775807 ∧ ∀ b o s, pa = some ⟨b, o, s⟩ → p.length ≠ 0 → (b < B ∨ X b ∧ b ≠ jb) ∧ v.ownBlock ≠ some b
theorem jl_push {X : Nat → Prop} {B d jb N : Nat} {nm : ByteArray} {sz : Int} {A : Ad} {w w1 w' : World} {v v' : Value} {vs : List Value} {ps : List (List Nat)} {p : List Nat} {pa : Option Addr} {pc : Nat}
    (h : Jn X B d jb nm sz N A w) (ho : OwB X B jb w v vs ps) (hb : Below w.heap.size w w1) (hr : Rd w1 pa p.length p) (hpc : p.length ≤ pc) (hpm : pc ≤ 9223372036854775807) (hpa : ∀ b o s, pa = some ⟨b, o, s⟩ → w.heap.size ≤ b ∧ b < w1.heap.size)
    (hn : OwnV w' B v' (vs ++ [.slice pa p.length pc])) (hg : w1.grownBy w' v.ownBlock) (hat : v'.ownBlock = v.ownBlock ∨ v'.ownBlock = some w1.heap.size) :
    ∃ Y : Nat → Prop, (∀ j, X j → Y j) ∧ Jn Y B d jb nm sz N A w' ∧ OwA Y B jb w' v' (ps ++ [p]) ∧ w.heap.size ≤ w'.heap.size ∧ ∀ k, k < w.heap.size → ¬ X k → w'.heap[k]? = w.heap[k]? := by
  obtain ⟨h1, h2, h3, h4⟩ := ho
  have hjl := h.dx.lt jb h.xj
  have hz := hb.size
  have hz' := hg.size
  have hk : ∀ k, k < w.heap.size → v.ownBlock ≠ some k → w'.heap[k]? = w.heap[k]? := fun k hk ne => (hg.block k (Nat.lt_of_lt_of_le hk hb.size) fun e => ne (by first | exact e | exact e.symm)).trans (hb.block k hk)
  have hXn : ∀ k, ¬ X k → v.ownBlock ≠ some k := fun k hn e => hn (h3 k e).1
  refine ⟨fun j => X j ∨ (w.heap.size ≤ j ∧ j < w'.heap.size), fun j hj => .inl hj, ⟨h.dx.more (by omega) (fun k a b => hk k a (hXn k b)) (fun j hj => hj.imp id fun e => e.1) (fun j hj => hj.elim (fun e => by have := h.dx.lt j e; omega) fun e => e.2), .inl h.xj, h.bj, (hk jb hjl fun e => (h3 jb e).2 rfl).trans h.row⟩, ⟨_, hn, by simp [h2], fun j e => ?_, fun k q u hq hu => ?_⟩, by omega, fun k a b => hk k a (hXn k b)⟩
  · have hl := (World.ownsRow.lt hn j e).2
    rcases hat with hat | hat
    · rw [hat] at e; exact ⟨.inl (h3 j e).1, (h3 j e).2⟩
    · rw [hat] at e; cases e; exact ⟨.inr ⟨hz, hl⟩, by omega⟩
  · by_cases hkl : k < ps.length
    · rw [List.getElem?_append_left hkl] at hq
      rw [List.getElem?_append_left (by omega)] at hu
      obtain ⟨qa, qc, e1, e2, e3, e4, e5⟩ := h4 k q u hq hu
      refine ⟨qa, qc, e1, rd_stay e2 (by omega) fun b o s e hn => hk b (rd_blkJ e2 e hn) (e5 b o s e hn).2, e3, e4, fun b o s e hn => ⟨(e5 b o s e hn).1.imp id fun c => ⟨.inl c.1, c.2⟩, fun e6 => ?_⟩⟩
      rcases hat with hat | hat
      · rw [hat] at e6; exact (e5 b o s e hn).2 e6
      · rw [hat] at e6; have := rd_blkJ e2 e hn; cases e6; omega
    · rw [List.getElem?_append_right (by omega)] at hq hu
      have hk0 : k - ps.length = 0 := by
        have := (List.getElem?_eq_some_iff.1 hq).1
        simpa using this
      rw [hk0] at hq
      rw [show k - vs.length = 0 by omega] at hu
      cases hq; cases hu
      have hne : ∀ b, w.heap.size ≤ b → v.ownBlock ≠ some b := fun b hb e => by have := (World.ownsRow.lt h1 b e).2; omega
      refine ⟨pa, pc, rfl, rd_stay hr (by omega) fun b o s e hn => hg.block b (hpa b o s e).2 fun e2 => hne b (hpa b o s e).1 (by first | exact e2 | exact e2.symm), hpc, hpm, fun b o s e hn => ⟨.inr ⟨.inr ⟨(hpa b o s e).1, by have := (hpa b o s e).2; omega⟩, by have := (hpa b o s e).1; omega⟩, fun e6 => ?_⟩⟩
      rcases hat with hat | hat
      · rw [hat] at e6; exact hne b (hpa b o s e).1 e6
      · rw [hat] at e6; have := (hpa b o s e).2; cases e6; omega
/-- the records among the arguments, in a row of their own -/
theorem run_catV (w W : World) (ra : Option Addr) (rn rc : Nat) (L : List Sl) (h : BssIn w ra rn rc L) (hb : Below w.heap.size w W) (hrn : rn ≤ 1000000000) :
    ∃ v' w', (∀ ty : TypeId, (Builtin.append_ #[29, 29] ty #[.slice (some ⟨W.heap.size, 0, none⟩) 0 0, .slice ra rn rc]).run Try.prog (W.alloc (.cells #[] 32)) = .ok v' w') ∧ OwnV w' W.heap.size v' (L.map slv) ∧ Below W.heap.size W w' := by
  obtain ⟨i0, hi, hz0, hz1, hz2⟩ := info_parts info_slv
  obtain ⟨h1, h2, h3, h4, h5, h6⟩ := h
  have hal : Below W.heap.size W (W.alloc (.cells #[] 32)) := (Below.refl _ _).alloc (Nat.le_refl _) _
  have hown : (W.alloc (.cells #[] 32)).ownsRow W.heap.size 32 1 (.slice (some ⟨W.heap.size, 0, none⟩) 0 0) 0 [] := World.ownsRow_made W #[] 0 (Nat.le_refl _) (by unfold maxLen; omega) rfl
  by_cases h0 : rn = 0
  · subst h0
    obtain rfl : L = [] := List.eq_nil_of_length_eq_zero h1
    refine ⟨_, _, fun ty => run_append_nothing (P := Try.prog) _ 29 29 ty 32 i0 Try.underlying29 hi (some ⟨W.heap.size, 0, none⟩) 0 0 (Nat.le_refl _) (.slice ra 0 rc) ?_, hown, hal⟩
    cases ra with
    | none => exact Src.ofNil (w := _) Try.underlying29 rc
    | some x => exact Src.ofSlice (w := _) Try.underlying29 x 0 rc [] (by simp) (fun j u hj => by simp at hj) fun u hu => by cases hu
  · obtain ⟨b, off, rfl, hbl, hc⟩ := h5.resolve_left h0
    obtain ⟨v', w', g1, g2, g3, g4, g5⟩ := run_append_own_at (P := Try.prog) (w := W.alloc (.cells #[] 32)) W.heap.size 29 0 32 i0 (.slice none 0 0) 1 24 Try.underlying29 hi hz0 hz1 hz2 rfl (by decide) (.slice (some ⟨W.heap.size, 0, none⟩) 0 0) 0 [] hown ⟨b, off, none⟩ rn rc (L.map slv) (by rw [List.length_map, h1, Nat.mul_one]) (fun j u hj => by
      rw [List.getElem?_map] at hj
      obtain ⟨s, hs, rfl⟩ := Option.map_eq_some_iff.1 hj
      rw [Addr.add_mid]
      exact ((hb.trans (hal.mono hb.size)).cell (p := ⟨b, off + j, none⟩) hbl).trans (hc j s hs)) (fun u hu => by
      obtain ⟨s, _, rfl⟩ := List.mem_map.1 hu
      rfl) (by unfold maxLen; omega) (by omega) hal.size
    refine ⟨v', w', fun _ => g1, ?_, hal.grown g3 hal.size fun k hk => by cases hk; exact Nat.le_refl _⟩
    unfold OwnV
    rw [List.length_map, h1]
    rw [Nat.zero_add, List.nil_append] at g2
    exact g2
theorem jl_new {X : Nat → Prop} {d jb N : Nat} {nm : ByteArray} {sz : Int} {A : Ad} {w W w' : World} {v' : Value} {ra : Option Addr} {rn rc : Nat} {L : List Sl} (h : Jn X w.heap.size d jb nm sz N A W) (hl : BssIn w ra rn rc L) (hw : Below w.heap.size w W) (hn : OwnV w' W.heap.size v' (L.map slv)) (hb : Below W.heap.size W w') :
    ∃ Y : Nat → Prop, (∀ j, X j → Y j) ∧ Jn Y w.heap.size d jb nm sz N A w' ∧ OwA Y w.heap.size jb w' v' (recL L) := by
  have hjl := h.dx.lt jb h.xj
  have hws := hw.size
  refine ⟨fun j => X j ∨ (W.heap.size ≤ j ∧ j < w'.heap.size), fun j hj => .inl hj, ⟨h.dx.belowY hb (fun j hj => hj.imp id fun e => e.1) (fun j hj => hj.elim (fun e => Nat.lt_of_lt_of_le (h.dx.lt j e) hb.size) fun e => e.2), .inl h.xj, h.bj, (hb.block jb hjl).trans h.row⟩, ⟨_, ⟨hn.1, hn.2.imp id fun ⟨g, cap, cur, e1, e2, e3⟩ => ⟨g, cap, cur, e1, Nat.le_trans hws e2, e3⟩⟩, by unfold recL; simp, fun j e => ?_, fun k p u hp hu => ?_⟩⟩
  · have := World.ownsRow.lt hn j e
    exact ⟨.inr this, by omega⟩
  · unfold recL at hp
    rw [List.getElem?_map] at hp hu
    obtain ⟨s, hs, rfl⟩ := Option.map_eq_some_iff.1 hp
    rw [hs] at hu
    cases hu
    obtain ⟨g1, g2, g3, g4⟩ := hl.2.2.2.2.2 s (List.mem_of_getElem? hs)
    have hlen : s.2.2.2.length = s.2.1 := g1.1
    refine ⟨s.1, s.2.2.1, by rw [hlen]; rfl, by rw [hlen]; exact (g1.below hw).below hb, by omega, by omega, fun b o sp e hne => ?_⟩
    have hbl := rd_blkJ g1 e (by omega)
    exact ⟨.inl hbl, fun e2 => by have := World.ownsRow.lt hn b e2; omega⟩
/-- between two steps of a script -/
def JlR (w : World) (d k : Nat) (jv av ov sv cv : Value) (wr : World) : Prop :=
  ∃ (X : Nat → Prop) (jb sz sure on oc : Nat) (oa : Option Addr) (cut : Bool) (A : Ad) (all other : List (List Nat)), jv = .pointer (some ⟨jb, 0, none⟩) ∧ ov = .slice oa on oc ∧ sv = .int .i64 (sure : Nat) ∧ cv = .bool cut ∧ Jn X w.heap.size d jb nmj (sz : Int) (60 * k + 60) A wr ∧ JT all other sure cut (5000 * (k + 1)) A ∧ OwA X w.heap.size jb wr av all ∧ RowRd w oa on other ∧ on ≤ 12 ∧ on ≤ oc ∧ sz ≤ 2000000 + 10000 * k ∧ Below w.heap.size w wr
theorem exec_append {P : Program} {a : Act} {o : Oper} {w w' : World} {x y : Operand} {t s : TypeId} {v u r : Value} (ho : o.op = .call { callee := .builtin .append, args := #[x, y], argTypes := #[t, s] }) (hx : a.eval x = v) (hy : a.eval y = u)
    (hr : (Builtin.append_ #[t, s] o.type #[v, u]).run P w = .ok r w') : (execOp a.eval o).run P w = .ok (.value r) w' := by
  unfold execOp
  simp only [ho]
  rw [Sem.run_bind]
  unfold resolve
  simp only [Sem.run_pure, Result.andThen_ok, invoke, builtin, List.map_toArray, List.map_cons, List.map_nil, hx, hy]
  rw [Sem.run_bind, hr]
  rfl
theorem run_cell_bssJ (W : World) (p : Addr) (a : Option Addr) (l c : Nat) (hc : W.cell? p = some (.slice a l c)) : (Instr.loadAt 29 (.pointer (some p))).run Try.prog W = .ok (.slice a l c) W := by go_simp
theorem OwA.rows {X : Nat → Prop} {B jb : Nat} {w : World} {a : Option Addr} {n c : Nat} {ps : List (List Nat)} (h : OwA X B jb w (.slice a n c) ps) : ps.length = n ∧ n ≤ c ∧ c ≤ 9223372036854775807 ∧ RowRd w a n ps := by
  obtain ⟨a', n', c', e, h1⟩ := h.row
  obtain ⟨rfl, rfl, rfl⟩ := Value.slice.inj e
  exact h1
theorem Jn.mono {X : Nat → Prop} {B d jb : Nat} {nm : ByteArray} {sz : Int} {N M : Nat} {A : Ad} {w : World} (h : Jn X B d jb nm sz N A w) (hM : N ≤ M) : Jn X B d jb nm sz M A w := ⟨h.dx.mono hM, h.xj, h.bj, h.row⟩
theorem usedA_le {A : Ad} {nm : ByteArray} (h : ∀ z, lookF A.now nm = some z → z.length < 1048576) : usedA A nm ≤ 1048576 := by
  unfold usedA
  split
  · omega
  · split
    · omega
    · next z hz =>
      have := Frm.scan_le z.length z (Nat.le_refl _)
      have := h z hz
      omega
end Go.Proofs.Ytmomdfmilelilaa
