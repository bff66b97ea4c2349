/-
  One file, what was appended to it, and a list of the same bytes beside: steps.
-/
import Derived.Test.YtjpcbmfnjifgfaaDkv
import Derived.Test.YtjpcbmfnjifgfaaDkm
namespace Go.Proofs.Ytjpcbmfnjifgfaa
open Go.RowKit Go.Maps
set_option linter.unusedVariables false
def fN : ByteArray := ⟨#[102]⟩
/-- the disk has Zd, the list Za; the changes that may be lost leave sure bytes -/
structure La (w0 : World) (d : Nat) (va : Value) (Za Zd : List Nat) (sure q : Nat) (w : World) : Prop where
  ex : ∃ S b f, DK w0.heap.size d S w ∧ S.down = false ∧ S.fuse = -1 ∧ S.room = 1048576 ∧ S.used = (Zd.length : Int) ∧ S.at fN = some b ∧ S.fl b = some f ∧ f.zs = Zd ∧ (∀ c ∈ S.loose, c = ⟨1, b, c.size, ⟨#[]⟩, none⟩ ∧ (sure : Int) ≤ c.size ∧ c.size ≤ 1000000000000) ∧ S.loose.length ≤ q ∧ ∀ k, va.ownBlock = some k → ¬ S.own d k
  own : Own w w0.heap.size va Za
  byte : ∀ z ∈ Za, z < 256
  sure : sure ≤ Zd.length
  size : Zd.length ≤ 100000
  below : Below w0.heap.size w0 w
theorem La.later {w0 w w' : World} {d : Nat} {va : Value} {Za Zd : List Nat} {sure q : Nat} (h : La w0 d va Za Zd sure q w) (hb : Below w.heap.size w w') : La w0 d va Za Zd sure q w' := by
  obtain ⟨⟨S, b, f, h1, h2⟩, h3, h4, h5, h6, h7⟩ := h
  exact ⟨⟨S, b, f, h1.below hb, h2⟩, h3.keep hb, h4, h5, h6, h7.trans (hb.mono h7.size)⟩
theorem La.more {w0 w : World} {d : Nat} {va : Value} {Za Zd : List Nat} {sure q q' : Nat} (h : La w0 d va Za Zd sure q w) (hq : q ≤ q') : Hid (La w0 d va Za Zd sure q' w) := by
  obtain ⟨⟨S, b, f, h1, h2, h3, h4, h5, h6, h7, h8, h9, h10, h11⟩, k3, k4, k5, k6, k7⟩ := h
  exact Lib.hid ⟨⟨S, b, f, h1, h2, h3, h4, h5, h6, h7, h8, h9, by omega, h11⟩, k3, k4, k5, k6, k7⟩
theorem own_keep {w w' : World} {B : Nat} {va : Value} {Z : List Nat} {S S' : Dsk} {d : Nat} (h : Own w B va Z) (hn : ∀ k, va.ownBlock = some k → ¬ S.own d k) (hm : Mov S d S' w w') : Own w' B va Z ∧ ∀ k, va.ownBlock = some k → ¬ S'.own d k :=
  ⟨row_keep h fun k hk => hm.block k (h.lt k hk).2 (hn k hk), fun k hk => hm.own0 (h.lt k hk).2 (hn k hk)⟩
theorem La.append {w0 w : World} {d n c : Nat} {pa : Option Addr} {va : Value} {Z ps : List Nat} {sure q : Nat} (h : La w0 d va Z Z sure q w) (hr : Rd w pa n ps) (hnil : pa = none → c = 0) (hpb : ∀ b o s, pa = some ⟨b, o, s⟩ → n ≠ 0 → b < w0.heap.size) (hn : n ≤ 1000) (hz : Z.length + n ≤ 100000) (hq : q < 1000000) :
    Calls Try.prog 25 #[.pointer (some ⟨d, 0, none⟩), .string fN, .slice pa n c] w fun e w' => e = .returned (.int .i64 0) ∧ La w0 d va Z (Z ++ ps) sure (q + 1) w' := by
  obtain ⟨⟨S, b, f, h1, h2, h3, h4, h5, h6, h7, h8, h9, h10, h11⟩, ho, hb, hsu, hsz, hbl⟩ := h
  have hl : ps.length = n := hr.1
  refine (dappend_ok h1 fN (by decide) pa n c ps h2 h6 h7 (by omega) (by rw [h4, h5, wrap64_id (by omega) (by omega)]; omega) (by omega) (by omega) (by rw [h8]; omega) ⟨hr, fun b' o s e hn0 ho' => by
    have k1 := hpb b' o s e hn0
    have k2 := (h1.ownLt ho').1
    omega, hnil⟩).mono ?_
  rintro e w' ⟨rfl, v, v', k1, k2⟩
  rw [step_same h3] at k1 k2
  obtain ⟨o1, o2⟩ := own_keep ho h11 k2
  refine ⟨rfl, ⟨⟨_, b, ⟨f.nm, v', f.zs ++ ps⟩, k1, h2, h3, h4, ?_, h6, ?_, by show f.zs ++ ps = _; rw [h8], ?_, ?_, o2⟩, o1, hb, by rw [List.length_append]; omega, by rw [List.length_append]; omega, hbl.trans (k2.below h1)⟩⟩
  · show wrap64 (S.used + (ps.length : Int)) = _
    rw [h5, wrap64_id (by omega) (by omega), List.length_append]
    omega
  · show (if b = b then _ else _) = _
    rw [if_pos rfl]
  · intro x hx
    rcases List.mem_append.1 hx with hx | hx
    · exact h9 x hx
    · rw [List.mem_singleton] at hx
      subst hx
      refine ⟨rfl, ?_, ?_⟩
      · show (sure : Int) ≤ (f.zs.length : Int)
        rw [h8]; omega
      · show (f.zs.length : Int) ≤ _
        rw [h8]; omega
  · show (S.loose ++ [_]).length ≤ _
    rw [List.length_append, List.length_singleton]
    omega
theorem wpList_allL {w0 w : World} {ops : Array Oper} {rest : List Oper} {o : Oper} {a : Act} {Q : Exit → Act → World → Prop} (hgd : o.guard = none) (s x : Operand)
    (ho : o.op = .call { callee := .builtin .append, args := #[s, x], argTypes := #[30, 30] })
    (d : Nat) (va : Value) (Za Zd ps : List Nat) (sure q : Nat) (h : La w0 d va Za Zd sure q w) (hs : a.eval s = va) (pa : Option Addr) (n c : Nat) (hx : a.eval x = .slice pa n c) (hr : Rd w pa n ps) (hnil : pa = none → c = 0) (hlen : Za.length + n ≤ 1000000)
    (k : ∀ ya yc w', La w0 d (.slice ya (Za ++ ps).length yc) (Za ++ ps) Zd sure q w' → wpList Try.prog ops Q rest (a.put o.dst (.slice ya (Za ++ ps).length yc)) w') :
    wpList Try.prog ops Q (o :: rest) a w := by
  obtain ⟨i0, hi, hz0, hz1, hz2⟩ := info_parts byteInfo
  obtain ⟨⟨S, b, f, h1, h2, h3, h4, h5, h6, h7, h8, h9, h10, h11⟩, hown, hb, hsu, hsz, hbl⟩ := h
  obtain ⟨hl, hz, hc⟩ := hr
  have hbase : w0.heap.size ≤ w.heap.size := hbl.size
  have fin : ∀ v' w', Own w' w0.heap.size v' (Za ++ ps) → w.grownBy w' va.ownBlock → (v'.ownBlock = va.ownBlock ∨ v'.ownBlock = some w.heap.size) → wpList Try.prog ops Q rest (a.put o.dst v') w' := fun v' w' g1 g2 g4 => by
    have hL : La w0 d v' (Za ++ ps) Zd sure q w' := by
      refine ⟨⟨S, b, f, h1.keep fun j hj => g2.block j (h1.ownLt hj).2 fun e => h11 j e.symm hj, h2, h3, h4, h5, h6, h7, h8, h9, h10, fun j hj ho' => ?_⟩, g1, fun z hz' => ?_, hsu, hsz, ?_⟩
      · rcases g4 with g4 | g4
        · exact h11 j (g4.symm.trans hj) ho'
        · rw [hj] at g4
          have := (h1.ownLt ho').2
          have := Option.some.inj g4
          omega
      · rcases List.mem_append.1 hz' with hz' | hz'
        · exact hb z hz'
        · exact hz z hz'
      · exact hbl.trans (((Below.refl w0.heap.size w)).grown g2 hbase fun j hj => (hown.lt j hj).1)
    rcases g1.2 with ⟨rfl, hz0⟩ | ⟨g, cap, cur, rfl, _⟩
    · have e : Value.slice none 0 0 = .slice none (Za ++ ps).length 0 := by rw [hz0]
      rw [e] at hL ⊢
      exact k _ _ w' hL
    · exact k _ _ w' hL
  cases pa with
  | none =>
    obtain rfl := hnil rfl
    have h0 : n = 0 := by
      rcases hc with h0 | ⟨b, off, hb, _⟩
      · exact h0
      · cases hb
    subst h0
    obtain rfl : ps = [] := List.eq_nil_of_length_eq_zero hl
    refine wpList_append_own_none hgd s x 30 ho w0.heap.size 5 i0 1 Try.underlying30 hi va Za.length (cellsOf Za) hs hown hx ?_
    exact fin va w (by rw [List.append_nil]; exact hown) ⟨rfl, rfl, rfl, Nat.le_refl _, fun _ _ _ => rfl⟩ (.inl rfl)
  | some ad =>
    refine wpList_append_own_at _ hgd s x 30 ho w0.heap.size 5 i0 (.int .u8 0) 1 1 Try.underlying30 hi hz0 hz1 hz2 rfl (by decide) va Za.length (cellsOf Za) hs hown ad n c (cellsOf ps) hx (by rw [cellsOf_length, hl, Nat.mul_one]) ?_ (cellsOf_one _) (by unfold maxLen; omega) (by omega) hbase ?_
    · intro j u hj
      have hjl : j < ps.length := by
        have := (List.getElem?_eq_some_iff.1 hj).1
        rwa [cellsOf_length] at this
      rw [cellsOf_get ps j hjl] at hj
      cases hj
      rcases hc with h0 | ⟨b, off, hb, _, hcell⟩
      · omega
      · cases hb
        have hcj := hcell j (by omega)
        rw [show Addr.add ⟨b, off, none⟩ j = ⟨b, off + j, none⟩ by simp [Addr.add]]
        exact hcj
    · intro v' w' g1 g2 _ g4
      refine fin v' w' ?_ g2 g4
      unfold Own
      rw [List.length_append, cellsOf_append, hl]
      exact g1
theorem La.sync {w0 w : World} {d : Nat} {va : Value} {Za Zd : List Nat} {sure q : Nat} (h : La w0 d va Za Zd sure q w) : Calls Try.prog 24 #[.pointer (some ⟨d, 0, none⟩)] w fun e w' => e = .returned (.int .i64 0) ∧ La w0 d va Za Zd Zd.length q w' := by
  obtain ⟨⟨S, b, f, h1, h2, h3, h4, h5, h6, h7, h8, h9, h10, h11⟩, ho, hb, hsu, hsz, hbl⟩ := h
  refine (dsync_ok h1 h2 (by omega)).mono ?_
  rintro e w' ⟨rfl, k1, k2⟩
  rw [step_same h3] at k1 k2
  obtain ⟨o1, o2⟩ := own_keep ho h11 k2
  exact ⟨rfl, ⟨⟨_, b, f, k1, h2, h3, h4, h5, h6, h7, h8, (fun c hc => by cases hc), Nat.zero_le _, o2⟩, o1, hb, Nat.le_refl _, hsz, hbl.trans (k2.below h1)⟩⟩
/-- behind the crash -/
structure Lb (w0 : World) (d : Nat) (va : Value) (Z : List Nat) (t : Nat) (w : World) : Prop where
  ex : ∃ S b f, DK w0.heap.size d S w ∧ S.down = false ∧ S.at fN = some b ∧ S.fl b = some f ∧ f.zs = Z.take t ∧ S.loose = []
  own : Own w w0.heap.size va Z
  byte : ∀ z ∈ Z, z < 256
  size : Z.length ≤ 100000
  below : Below w0.heap.size w0 w
theorem La.crash {w0 w : World} {d : Nat} {va : Value} {Z : List Nat} {sure q : Nat} (keep part : Int) (h : La w0 d va Z Z sure q w) (hq : q ≤ 1000000) : Calls Try.prog 26 #[.pointer (some ⟨d, 0, none⟩), .int .i64 keep, .int .i64 part] w fun e w' => e = .returned (.int .i64 0) ∧ ∃ t, sure ≤ t ∧ t ≤ Z.length ∧ Lb w0 d va Z t w' := by
  obtain ⟨⟨S, b, f, h1, h2, h3, h4, h5, h6, h7, h8, h9, h10, h11⟩, ho, hb, hsu, hsz, hbl⟩ := h
  refine (dcrash_app h1 h7 sure h9 (by rw [h8]; exact hsu) (by rw [h8]; omega) (by omega) keep part).mono ?_
  rintro e w' ⟨rfl, S', v, t, k1, k2, k3, k4, k5, k6, k7, k8, k9⟩
  obtain ⟨o1, o2⟩ := own_keep ho h11 k2
  rw [h8] at k4 k5
  exact ⟨rfl, t, k3, k4, ⟨S', b, _, k1, k7, by unfold Dsk.at at h6 ⊢; rw [k9]; exact h6, k5, rfl, k6⟩, o1, hb, hsz, hbl.trans (k2.below h1)⟩
theorem Lb.loose {w0 w : World} {d t : Nat} {va : Value} {Z : List Nat} (h : Lb w0 d va Z t w) : Calls Try.prog 27 #[.pointer (some ⟨d, 0, none⟩)] w fun e w' => e = .returned (.int .i64 0) ∧ w' = w := by
  obtain ⟨⟨S, b, f, h1, h2, h3, h4, h5, h6⟩, _⟩ := h
  have := dloose_c h1
  rw [h6] at this
  exact this
theorem Lb.read {w0 w : World} {d t : Nat} {va : Value} {Z : List Nat} (h : Lb w0 d va Z t w) (ht : t ≤ Z.length) : Calls Try.prog 28 #[.pointer (some ⟨d, 0, none⟩), .string fN, .int .i64 0, .int .i64 1048576] w fun e w' => ∃ ya yc, e = .returned (.tuple #[.slice ya t yc, .int .i64 0]) ∧ Rd w' ya t (Z.take t) ∧ Own w' w0.heap.size va Z ∧ Below w0.heap.size w0 w' := by
  obtain ⟨⟨S, b, f, h1, h2, h3, h4, h5, h6⟩, ho, hb, hsz, hbl⟩ := h
  have hlt : (Z.take t).length = t := by rw [List.length_take]; omega
  refine (dread_ok h1 fN (by decide) 0 1048576 h2 h3 h4 (by omega) (by omega) (by rw [h5, hlt]; omega)).mono ?_
  rintro e w' ⟨ya, yn, yc, rfl, k1, k2, k3, k4⟩
  have e1 : (f.zs.drop (0 : Int).toNat).take (1048576 : Int).toNat = Z.take t := by
    show (f.zs.drop 0).take 1048576 = _
    rw [List.drop_zero, h5, List.take_take, Nat.min_eq_right (by omega)]
  rw [e1] at k1 k2 k3
  rw [hlt] at k2
  subst k2
  obtain ⟨a', c', hv, _, _, hrd⟩ := k1.rd k3
  obtain ⟨e2, e3, e4⟩ := Value.slice.inj hv
  rw [hlt] at hrd
  rw [← e2] at hrd
  exact ⟨ya, yc, rfl, hrd, ho.keep k4, hbl.trans (k4.mono hbl.size)⟩
/-- made and synced: no byte yet -/
theorem La.new {w0 w : World} {d : Nat} (h : DK w0.heap.size d (newS 1048576) w) (hb : Below w0.heap.size w0 w) : Calls Try.prog 20 #[.pointer (some ⟨d, 0, none⟩), .string fN] w fun e w' => e = .returned (.int .i64 0) ∧ ∃ S b f, DK w0.heap.size d S w' ∧ S.down = false ∧ S.fuse = -1 ∧ S.room = 1048576 ∧ S.used = 0 ∧ S.at fN = some b ∧ S.fl b = some f ∧ f.zs = [] ∧ Below w0.heap.size w0 w' := by
  refine (dcreate_ok h fN (by decide) rfl (by decide) rfl (by show 0 < 4096; omega) (by show (-1 : Int) ≠ 0; omega) (by show 0 < 1000000000; omega) (by show 0 < 1000000000; omega)).mono ?_
  rintro e w' ⟨rfl, b, m, v, _, h7, h8⟩
  rw [step_same (S := newS 1048576) rfl] at h7 h8
  obtain ⟨f1, f2⟩ := made_facts h fN b m v rfl
  refine ⟨rfl, _, b, ⟨fN, .slice none 0 0, []⟩, h7, rfl, rfl, rfl, wrap64_id (by show (-9223372036854775808 : Int) ≤ 0 + ((0 : Nat) : Int); omega) (by show (0 : Int) + ((0 : Nat) : Int) ≤ _; omega), ?_, ?_, rfl, hb.trans (h8.below h)⟩
  · rw [f1 fN, if_pos rfl]
  · show (if b = b then _ else _) = _
    rw [if_pos rfl]
theorem La.new2 {w0 w : World} {d : Nat} (h : ∃ S b f, DK w0.heap.size d S w ∧ S.down = false ∧ S.fuse = -1 ∧ S.room = 1048576 ∧ S.used = 0 ∧ S.at fN = some b ∧ S.fl b = some f ∧ f.zs = [] ∧ Below w0.heap.size w0 w) : Calls Try.prog 24 #[.pointer (some ⟨d, 0, none⟩)] w fun e w' => e = .returned (.int .i64 0) ∧ La w0 d (.slice none 0 0) [] [] 0 0 w' := by
  obtain ⟨S, b, f, h1, h2, h3, h4, h5, h6, h7, h8, hb⟩ := h
  refine (dsync_ok h1 h2 (by omega)).mono ?_
  rintro e w' ⟨rfl, k1, k2⟩
  rw [step_same h3] at k1 k2
  exact ⟨rfl, ⟨⟨_, b, f, k1, h2, h3, h4, h5, h6, h7, h8, (fun c hc => by cases hc), Nat.le_refl _, fun k hk => by cases hk⟩, Own.nil _ _, (fun z hz => by cases hz), Nat.le_refl _, by decide, hb.trans (k2.below h1)⟩⟩
end Go.Proofs.Ytjpcbmfnjifgfaa
