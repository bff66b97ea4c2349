/-
  As many files as there may be: the statement's walk.
-/
import Derived.Test.YtihbgigledmliaaDkfg
namespace Go.Proofs.Ytihbgigledmliaa
open Go.RowKit Go.Maps
set_option linter.unusedVariables false
/-- the name of file j -/
def nmOf (j : Nat) : ByteArray := str [j / 256, j % 256]
theorem nmOf_size (j : Nat) : (nmOf j).size = 2 := rfl
theorem ofNat_inj {a b : Nat} (ha : a < 256) (hb : b < 256) (h : UInt8.ofNat a = UInt8.ofNat b) : a = b := by
  have := congrArg UInt8.toNat h
  simp only [UInt8.toNat_ofNat'] at this
  omega
theorem nmOf_inj {i j : Nat} (hi : i < 65536) (hj : j < 65536) (h : nmOf i = nmOf j) : i = j := by
  unfold nmOf str at h
  have h1 := congrArg (fun s : ByteArray => s.data.toList) h
  simp only [List.map_cons, List.map_nil, List.cons.injEq, and_true] at h1
  have h2 := ofNat_inj (by omega) (by omega) h1.1
  have h3 := ofNat_inj (by omega) (by omega) h1.2
  omega
/-- a disk with k files, whose names are those of P; no more than q changes -/
structure Many (w0 : World) (d k q : Nat) (P : ByteArray → Prop) (w : World) : Prop where
  ex : ∃ S, DK w0.heap.size d S w ∧ S.down = false ∧ S.fuse = -1 ∧ Maps.size S.D = k ∧ S.n ≤ q ∧ S.loose.length ≤ q ∧ ∀ s, (S.at s).isSome = true ↔ P s
  below : Below w0.heap.size w0 w
theorem Many.later {w0 w w' : World} {d k q : Nat} {P : ByteArray → Prop} (h : Many w0 d k q P w) (hb : Below w.heap.size w w') : Many w0 d k q P w' := by
  obtain ⟨⟨S, h1, h2⟩, h3⟩ := h
  exact ⟨⟨S, h1.below hb, h2⟩, h3.trans (hb.mono h3.size)⟩
theorem Many.iff {w0 w : World} {d k q : Nat} {P P' : ByteArray → Prop} (h : Many w0 d k q P w) (hp : ∀ s, P s ↔ P' s) : Many w0 d k q P' w := by
  obtain ⟨⟨S, h1, h2, h3, h4, h5, h6, h7⟩, h8⟩ := h
  exact ⟨⟨S, h1, h2, h3, h4, h5, h6, fun s => (h7 s).trans (hp s)⟩, h8⟩
theorem Many.new {w0 w : World} {d : Nat} {r : Int} (h : DK w0.heap.size d (newS r) w) (hb : Below w0.heap.size w0 w) : Many w0 d 0 0 (fun _ => False) w :=
  ⟨⟨_, h, rfl, rfl, rfl, Nat.le_refl _, Nat.le_refl _, fun s => Iff.intro (fun x => by cases x) (fun x => x.elim)⟩, hb⟩
theorem at_no {S : Dsk} {P : ByteArray → Prop} (h : ∀ s, (S.at s).isSome = true ↔ P s) {s : ByteArray} (hs : ¬ P s) : S.at s = none := by
  cases e : S.at s with
  | none => rfl
  | some b => exact absurd ((h s).1 (by rw [e]; rfl)) hs
theorem isNm_size {s : ByteArray} (h : isNm s = true) : s.size ≤ maxLen := by
  unfold isNm at h
  simp only [Bool.and_eq_true, decide_eq_true_eq] at h
  unfold maxLen
  omega
theorem Many.create {w0 w : World} {d k q : Nat} {P : ByteArray → Prop} (h : Many w0 d k q P w) (hk : k < 4096) (hq : q < 100000) (s : ByteArray) (hs : isNm s = true) (hp : ¬ P s) : Calls Try.prog 48 #[.pointer (some ⟨d, 0, none⟩), .string s] w fun e w' => e = .returned (.int .i64 0) ∧ Many w0 d (k + 1) (q + 1) (fun x => x = s ∨ P x) w' := by
  obtain ⟨⟨S, hd, h1, h2, h3, h4, h5, h6⟩, hb⟩ := h
  have ha := at_no h6 hp
  refine (dcreate_ok hd s (isNm_size hs) h1 hs ha (by omega) (by omega) (by omega) (by omega)).mono ?_
  rintro e w' ⟨rfl, b, m, v, _, h7, h8⟩
  rw [step_same h2] at h7 h8
  obtain ⟨f1, f2⟩ := made_facts hd s b m v ha
  refine ⟨rfl, ⟨_, h7, h1, h2, by rw [f2, h3], by show S.n + 1 ≤ _; omega, by show (S.loose ++ _).length ≤ _; rw [List.length_append, List.length_singleton]; omega, fun x => ?_⟩, hb.trans (h8.below hd)⟩
  rw [f1 x]
  by_cases e : x = s
  · rw [if_pos e]
    exact ⟨fun _ => .inl e, fun _ => rfl⟩
  · rw [if_neg e, h6 x]
    exact ⟨.inr, fun y => y.resolve_left e⟩
theorem Many.full {w0 w : World} {d q : Nat} {P : ByteArray → Prop} (h : Many w0 d 4096 q P w) (s : ByteArray) (hs : isNm s = true) (hp : ¬ P s) : Calls Try.prog 48 #[.pointer (some ⟨d, 0, none⟩), .string s] w fun e w' => e = .returned (.int .i64 4) ∧ w' = w := by
  obtain ⟨⟨S, hd, h1, h2, h3, h4, h5, h6⟩, hb⟩ := h
  exact dcreate_full hd s (isNm_size hs) h1 hs (at_no h6 hp) (by omega)
theorem Many.remove {w0 w : World} {d k q : Nat} {P : ByteArray → Prop} (h : Many w0 d (k + 1) q P w) (hq : q < 100000) (s : ByteArray) (hs : isNm s = true) (hp : P s) : Calls Try.prog 93 #[.pointer (some ⟨d, 0, none⟩), .string s] w fun e w' => e = .returned (.int .i64 0) ∧ Many w0 d k (q + 1) (fun x => P x ∧ x ≠ s) w' := by
  obtain ⟨⟨S, hd, h1, h2, h3, h4, h5, h6⟩, hb⟩ := h
  obtain ⟨b, ha⟩ : ∃ b, S.at s = some b := by
    have := (h6 s).2 hp
    cases e : S.at s with
    | none => rw [e] at this; cases this
    | some b => exact ⟨b, rfl⟩
  obtain ⟨f, hf, hn⟩ := hd.rest.at ha
  refine (dremove_ok hd s (isNm_size hs) h1 ha hf (by omega) (by omega)).mono ?_
  rintro e w' ⟨rfl, v, h7, h8⟩
  rw [step_same h2] at h7 h8
  obtain ⟨f1, f2⟩ := gone_facts hd f b v (by rw [hn]; exact ha)
  refine ⟨rfl, ⟨_, h7, h1, h2, by show Maps.size (S.gone f b v).D = k; omega, by show S.n ≤ _; omega, by show (S.loose ++ _).length ≤ _; rw [List.length_append, List.length_singleton]; omega, fun x => ?_⟩, hb.trans (h8.below hd)⟩
  rw [f1 x, hn]
  by_cases e : x = s
  · rw [if_pos e]
    exact Iff.intro (fun y => by cases y) (fun y => absurd e y.2)
  · rw [if_neg e, h6 x]
    exact ⟨fun y => ⟨y, e⟩, fun y => y.1⟩
theorem Many.sync {w0 w : World} {d k q : Nat} {P : ByteArray → Prop} (h : Many w0 d k q P w) : Calls Try.prog 50 #[.pointer (some ⟨d, 0, none⟩)] w fun e w' => e = .returned (.int .i64 0) ∧ Many w0 d k q P w' := by
  obtain ⟨⟨S, hd, h1, h2, h3, h4, h5, h6⟩, hb⟩ := h
  refine (dsync_ok hd h1 (by omega)).mono ?_
  rintro e w' ⟨rfl, h7, h8⟩
  rw [step_same h2] at h7 h8
  exact ⟨rfl, ⟨_, h7, h1, h2, h3, h4, by show ([] : List Chg).length ≤ q; simp, h6⟩, hb.trans (h8.below hd)⟩
theorem conv_nm (w : World) (k : Nat) (hk : k < 65536) : (convert 41 9 (.slice (some ⟨w.heap.size, 0, none⟩) 2 2)).run Try.prog (w.alloc (.cells #[.int .u8 ((k : Int) / 256), .int .u8 ((k : Int) % 256)] 5)) = .ok (.string (nmOf k)) (w.alloc (.cells #[.int .u8 ((k : Int) / 256), .int .u8 ((k : Int) % 256)] 5)) := by
  have q1 : (k : Int) / 256 = ((k / 256 : Nat) : Int) := rfl
  have q2 : (k : Int) % 256 = ((k % 256 : Nat) : Int) := rfl
  refine run_str (zs := [k / 256, k % 256]) ⟨rfl, fun z hz => ?_, .inr ⟨w.heap.size, 0, rfl, by simp, fun i hi => ?_⟩⟩
  · simp only [List.mem_cons, List.not_mem_nil, or_false] at hz
    omega
  · rw [Nat.zero_add, cell_of_row _ _ _ _ _ _ (heap_alloc_new w _)]
    match i, hi with
    | 0, _ => rfl
    | 1, _ => rfl
end Go.Proofs.Ytihbgigledmliaa
