/-
  Two files on a disk, as many bytes as there is room for: the statement's walk.
-/
import Derived.Test.YtihbgigledmliaaDkh
import Derived.Test.YtihbgigledmliaaDkm
import Derived.Test.YtihbgigledmliaaIin
namespace Go.Proofs.Ytihbgigledmliaa
open Go.RowKit Go.Maps
set_option linter.unusedVariables false
/-- two files, and what they take -/
structure Fu (w0 : World) (d : Nat) (room : Int) (s1 s2 : ByteArray) (l1 l2 q : Nat) (w : World) : Prop where
  ex : ∃ S b1 b2 f1 f2, DK w0.heap.size d S w ∧ S.down = false ∧ S.fuse = -1 ∧ S.room = room ∧ S.used = (l1 : Int) + (l2 : Int) ∧ S.at s1 = some b1 ∧ S.at s2 = some b2 ∧ S.fl b1 = some f1 ∧ S.fl b2 = some f2 ∧ b1 ≠ b2 ∧ f1.zs.length = l1 ∧ f2.zs.length = l2 ∧ S.loose.length ≤ q
  below : Below w0.heap.size w0 w
theorem Fu.symm {w0 w : World} {d : Nat} {room : Int} {s1 s2 : ByteArray} {l1 l2 q : Nat} (h : Fu w0 d room s1 s2 l1 l2 q w) : Fu w0 d room s2 s1 l2 l1 q w := by
  obtain ⟨⟨S, b1, b2, f1, f2, h1, h2, h3, h4, h5, h6, h7, h8, h9, h10, h11, h12, h13⟩, hb⟩ := h
  exact ⟨⟨S, b2, b1, f2, f1, h1, h2, h3, h4, by omega, h7, h6, h9, h8, fun e => h10 e.symm, h12, h11, h13⟩, hb⟩
theorem Fu.later {w0 w w' : World} {d : Nat} {room : Int} {s1 s2 : ByteArray} {l1 l2 q : Nat} (h : Fu w0 d room s1 s2 l1 l2 q w) (hb : Below w.heap.size w w') : Fu w0 d room s1 s2 l1 l2 q w' := by
  obtain ⟨⟨S, b1, b2, f1, f2, h1, h2⟩, hb0⟩ := h
  exact ⟨⟨S, b1, b2, f1, f2, h1.below hb, h2⟩, hb0.trans (hb.mono hb0.size)⟩
theorem wrap64_id {x : Int} (h0 : -9223372036854775808 ≤ x) (h1 : x ≤ 9223372036854775807) : wrap64 x = x := by
  unfold wrap64
  omega
/-- both are made -/
theorem Fu.new1 {w0 w : World} {d : Nat} {room : Int} (h : DK w0.heap.size d (newS room) w) (hb : Below w0.heap.size w0 w) (s : ByteArray) (hs : isNm s = true) : Calls Try.prog 48 #[.pointer (some ⟨d, 0, none⟩), .string s] w fun e w' => e = .returned (.int .i64 0) ∧ (∃ S b f, DK w0.heap.size d S w' ∧ S.down = false ∧ S.fuse = -1 ∧ S.room = room ∧ S.used = 0 ∧ S.at s = some b ∧ S.fl b = some f ∧ f.zs = [] ∧ S.loose.length ≤ 1 ∧ S.n ≤ 1 ∧ Maps.size S.D = 1 ∧ ∀ x, x ≠ s → S.at x = none) ∧ Below w0.heap.size w0 w' := by
  refine (dcreate_ok h s (isNm_size hs) rfl hs rfl (by show 0 < 4096; omega) (by show (-1 : Int) ≠ 0; omega) (by show 0 < 1000000000; omega) (by show 0 < 1000000000; omega)).mono ?_
  rintro e w' ⟨rfl, b, m, v, _, h7, h8⟩
  rw [step_same (S := newS room) rfl] at h7 h8
  obtain ⟨f1, f2⟩ := made_facts h s b m v rfl
  refine ⟨rfl, ⟨_, b, ⟨s, .slice none 0 0, []⟩, h7, rfl, rfl, rfl, wrap64_id (by show (-9223372036854775808 : Int) ≤ 0 + ((0 : Nat) : Int); omega) (by show (0 : Int) + ((0 : Nat) : Int) ≤ _; omega), ?_, ?_, rfl, by show ([] ++ [_] : List Chg).length ≤ 1; simp, by show 0 + 1 ≤ 1; omega, f2, fun x hx => ?_⟩, hb.trans (h8.below h)⟩
  · rw [f1 s, if_pos rfl]
  · show (if b = b then _ else _) = _
    rw [if_pos rfl]
  · rw [f1 x, if_neg hx]
    rfl
theorem Fu.new2 {w0 w : World} {d : Nat} {room : Int} (s1 s2 : ByteArray) (hne : s2 ≠ s1) (hs : isNm s2 = true) (h : ∃ S b f, DK w0.heap.size d S w ∧ S.down = false ∧ S.fuse = -1 ∧ S.room = room ∧ S.used = 0 ∧ S.at s1 = some b ∧ S.fl b = some f ∧ f.zs = [] ∧ S.loose.length ≤ 1 ∧ S.n ≤ 1 ∧ Maps.size S.D = 1 ∧ ∀ x, x ≠ s1 → S.at x = none) (hb : Below w0.heap.size w0 w) :
    Calls Try.prog 48 #[.pointer (some ⟨d, 0, none⟩), .string s2] w fun e w' => e = .returned (.int .i64 0) ∧ Fu w0 d room s1 s2 0 0 2 w' := by
  obtain ⟨S, b, f, h1, h2, h3, h4, h5, h6, h7, h8, h9, h10, h11, h12⟩ := h
  have ha := h12 s2 hne
  refine (dcreate_ok h1 s2 (isNm_size hs) h2 hs ha (by omega) (by omega) (by omega) (by omega)).mono ?_
  rintro e w' ⟨rfl, b', m, v, hfr, k7, k8⟩
  rw [step_same h3] at k7 k8
  obtain ⟨f1, f2⟩ := made_facts h1 s2 b' m v ha
  have hbb : b ≠ b' := fun e => by rw [e, hfr] at h7; cases h7
  refine ⟨rfl, ⟨_, b, b', f, ⟨s2, .slice none 0 0, []⟩, k7, h2, h3, h4, ?_, ?_, ?_, ?_, ?_, hbb, by rw [h8]; rfl, rfl, ?_⟩, hb.trans (k8.below h1)⟩
  · show wrap64 (S.used + ((0 : Nat) : Int)) = _
    rw [h5]
    exact wrap64_id (by omega) (by omega)
  · rw [f1 s1, if_neg (fun e => hne e.symm)]
    exact h6
  · rw [f1 s2, if_pos rfl]
  · show (if b = b' then _ else S.fl b) = _
    rw [if_neg hbb]
    exact h7
  · show (if b' = b' then _ else _) = _
    rw [if_pos rfl]
  · show (S.loose ++ [_]).length ≤ 2
    rw [List.length_append, List.length_singleton]
    omega
theorem Fu.append {w0 w w1 : World} {d g n c : Nat} {room : Int} {s1 s2 : ByteArray} {l1 l2 q : Nat} {ps : List Nat} (h : Fu w0 d room s1 s2 l1 l2 q w) (hb : Below w.heap.size w w1) (hg : w.heap.size ≤ g) (hr : Rd w1 (some ⟨g, 0, none⟩) n ps) (hs : s1.size ≤ maxLen) (hn : n ≤ 1048576) (hroom : room ≤ 67108864) (hfit : (n : Int) ≤ room - ((l1 : Int) + (l2 : Int))) (hq : q < 1000000) :
    Calls Try.prog 57 #[.pointer (some ⟨d, 0, none⟩), .string s1, .slice (some ⟨g, 0, none⟩) n c] w1 fun e w' => e = .returned (.int .i64 0) ∧ Fu w0 d room s1 s2 (l1 + n) l2 (q + 1) w' := by
  obtain ⟨⟨S, b1, b2, f1, f2, h1, h2, h3, h4, h5, h6, h7, h8, h9, h10, h11, h12, h13⟩, hb0⟩ := h
  have hw : wrap64 (S.room - S.used) = room - ((l1 : Int) + (l2 : Int)) := by
    rw [h4, h5]
    exact wrap64_id (by omega) (by omega)
  have hk1 := h1.below hb
  refine (dappend_ok hk1 s1 hs (some ⟨g, 0, none⟩) n c ps h2 h6 h8 hn (by rw [hw]; omega) (by omega) (by omega) (by omega) ⟨hr, fun b o s e hn ho => by
    cases e
    have := (h1.ownLt ho).2
    omega, fun e => by cases e⟩).mono ?_
  rintro e w' ⟨rfl, v, v', k1, k2⟩
  rw [step_same h3] at k1 k2
  have hl : ps.length = n := hr.1
  refine ⟨rfl, ⟨_, b1, b2, ⟨f1.nm, v', f1.zs ++ ps⟩, f2, k1, h2, h3, h4, ?_, h6, h7, ?_, ?_, h10, ?_, h12, ?_⟩, (hb0.trans (hb.mono hb0.size)).trans (k2.below hk1)⟩
  · show wrap64 (S.used + (ps.length : Int)) = _
    rw [h5, hl, wrap64_id (by omega) (by omega)]
    omega
  · show (if b1 = b1 then _ else _) = _
    rw [if_pos rfl]
  · show (if b2 = b1 then _ else _) = _
    rw [if_neg (fun e => h10 e.symm)]
    exact h9
  · show (f1.zs ++ ps).length = _
    rw [List.length_append, h11, hl]
  · show (S.loose ++ [_]).length ≤ _
    rw [List.length_append, List.length_singleton]
    omega
theorem Fu.refuse {w0 w w1 : World} {d n c : Nat} {pa : Option Addr} {room : Int} {s1 s2 : ByteArray} {l1 l2 q : Nat} (h : Fu w0 d room s1 s2 l1 l2 q w) (hb : Below w.heap.size w w1) (hs : s1.size ≤ maxLen) (hn : n ≤ 1048576) (hroom : room ≤ 67108864) (h0 : -67108864 ≤ room - ((l1 : Int) + (l2 : Int))) (hfit : room - ((l1 : Int) + (l2 : Int)) < (n : Int)) :
    Calls Try.prog 57 #[.pointer (some ⟨d, 0, none⟩), .string s1, .slice pa n c] w1 fun e w' => e = .returned (.int .i64 4) ∧ Fu w0 d room s1 s2 l1 l2 q w' := by
  have h' := h.later hb
  obtain ⟨⟨S, b1, b2, f1, f2, h1, h2, h3, h4, h5, h6, h7⟩, hb0⟩ := h'
  have hw : wrap64 (S.room - S.used) = room - ((l1 : Int) + (l2 : Int)) := by
    rw [h4, h5]
    exact wrap64_id (by omega) (by omega)
  refine (dappend_full h1 s1 hs pa n c h2 h6 hn (by rw [hw]; omega)).mono ?_
  rintro e w' ⟨rfl, hb2⟩
  exact ⟨rfl, (h.later hb).later hb2⟩
theorem Fu.long {w0 w w1 : World} {d n c : Nat} {pa : Option Addr} {room : Int} {s1 s2 : ByteArray} {l1 l2 q : Nat} (h : Fu w0 d room s1 s2 l1 l2 q w) (hb : Below w.heap.size w w1) (hs : s1.size ≤ maxLen) (hn : 1048576 < n) :
    Calls Try.prog 57 #[.pointer (some ⟨d, 0, none⟩), .string s1, .slice pa n c] w1 fun e w' => e = .returned (.int .i64 8) ∧ Fu w0 d room s1 s2 l1 l2 q w' := by
  have h' := h.later hb
  obtain ⟨⟨S, b1, b2, f1, f2, h1, h2, h3, h4, h5, h6, h7⟩, hb0⟩ := h'
  refine (dappend_long h1 s1 hs pa n c h2 h6 hn).mono ?_
  rintro e w' ⟨rfl, rfl⟩
  exact ⟨rfl, h.later hb⟩
structure On (w0 : World) (d : Nat) (s : ByteArray) (l q : Nat) (w : World) : Prop where
  ex : ∃ S b f, DK w0.heap.size d S w ∧ S.down = false ∧ S.fuse = -1 ∧ S.used = (l : Int) ∧ S.at s = some b ∧ S.fl b = some f ∧ f.zs.length = l ∧ S.loose.length ≤ q
  below : Below w0.heap.size w0 w
theorem Fu.remove {w0 w : World} {d : Nat} {room : Int} {s1 s2 : ByteArray} {l1 l2 q : Nat} (h : Fu w0 d room s1 s2 l1 l2 q w) (hs : s1.size ≤ maxLen) (hne : s2 ≠ s1) (hq : q < 1000000) (hl : l2 ≤ 100000000) : Calls Try.prog 93 #[.pointer (some ⟨d, 0, none⟩), .string s1] w fun e w' => e = .returned (.int .i64 0) ∧ On w0 d s2 l2 (q + 1) w' := by
  obtain ⟨⟨S, b1, b2, f1, f2, h1, h2, h3, h4, h5, h6, h7, h8, h9, h10, h11, h12, h13⟩, hb0⟩ := h
  obtain ⟨f, hf, hn⟩ := h1.rest.at h6
  rw [h8] at hf
  cases hf
  refine (dremove_ok h1 s1 hs h2 h6 h8 (by omega) (by omega)).mono ?_
  rintro e w' ⟨rfl, v, k1, k2⟩
  rw [step_same h3] at k1 k2
  obtain ⟨g1, g2⟩ := gone_facts h1 f1 b1 v (by rw [hn]; exact h6)
  refine ⟨rfl, ⟨_, b2, f2, k1, h2, h3, ?_, ?_, h9, h12, ?_⟩, hb0.trans (k2.below h1)⟩
  · show wrap64 (S.used - (f1.zs.length : Int)) = _
    rw [h5, h11, wrap64_id (by omega) (by omega)]
    omega
  · rw [g1 s2, hn, if_neg hne]
    exact h7
  · show (S.loose ++ [_]).length ≤ _
    rw [List.length_append, List.length_singleton]
    omega
theorem On.remove {w0 w : World} {d : Nat} {s : ByteArray} {l q : Nat} (h : On w0 d s l q w) (hs : s.size ≤ maxLen) (hq : q < 1000000) : Calls Try.prog 93 #[.pointer (some ⟨d, 0, none⟩), .string s] w fun e w' => e = .returned (.int .i64 0) ∧ (∃ S, DK w0.heap.size d S w' ∧ S.used = 0) ∧ Below w0.heap.size w0 w' := by
  obtain ⟨⟨S, b, f, h1, h2, h3, h4, h5, h6, h7, h8⟩, hb0⟩ := h
  refine (dremove_ok h1 s hs h2 h5 h6 (by omega) (by omega)).mono ?_
  rintro e w' ⟨rfl, v, k1, k2⟩
  rw [step_same h3] at k1 k2
  refine ⟨rfl, ⟨_, k1, ?_⟩, hb0.trans (k2.below h1)⟩
  show wrap64 (S.used - (f.zs.length : Int)) = _
  rw [h4, h7, wrap64_id (by omega) (by omega)]
  omega
end Go.Proofs.Ytihbgigledmliaa
