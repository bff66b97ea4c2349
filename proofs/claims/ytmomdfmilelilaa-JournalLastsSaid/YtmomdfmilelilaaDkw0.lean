/-
  A disk in memory is the document's: Crash.
-/
import Derived.Test.YtmomdfmilelilaaDkt2
import Derived.Test.YtmomdfmilelilaaDkv
namespace Go.Proofs.Ytmomdfmilelilaa
open Go.RowKit Go.Maps
set_option linter.unusedVariables false
attribute [local go_sem] Oper.semAt_some
/-- the files that are left -/
def Ad.fin (A : Ad) (keep part : Int) : Fls :=
  match A.loose[(min (max keep 0) (A.loose.length : Int)).toNat]? with
  | none => A.now
  | some o => if o.kind = 1 then doF ((A.loose.take (min (max keep 0) (A.loose.length : Int)).toNat).foldl doF A.sure) { o with p := o.p.take (min (max part 0) 1048576).toNat } else (A.loose.take (min (max keep 0) (A.loose.length : Int)).toNat).foldl doF A.sure
def Ad.crash (A : Ad) (keep part : Int) : Ad := ⟨A.room, -1, false, A.fin keep part, A.fin keep part, []⟩
def CX5 (X : Nat) (c : Chg) (rp : Option Addr) (W : World) : Prop := W.cell? ⟨X, 0, none⟩ = some (.int .i64 c.kind) ∧ W.cell? ⟨X, 1, none⟩ = some (.pointer (some ⟨c.file, 0, none⟩)) ∧ W.cell? ⟨X, 2, none⟩ = some (.int .i64 c.size) ∧ W.cell? ⟨X, 3, none⟩ = some (.string c.name) ∧ W.cell? ⟨X, 4, none⟩ = some (.pointer rp)
theorem CX5.keepL {X R : Nat} {c : Chg} {rp : Option Addr} {W W' : World} (h : CX5 X c rp W) (hk : KeepL (R + 3) W W') (hX : R + 4 < X) : CX5 X c rp W' := by
  obtain ⟨a0, a1, a2, a3, a4⟩ := h
  have k : ∀ j, W'.cell? ⟨X, j, none⟩ = W.cell? ⟨X, j, none⟩ := fun j => hk.cell (a := ⟨X, j, none⟩) (by show X ≠ R + 3; omega) (by show X ≠ R + 4; omega)
  exact ⟨(k _).trans a0, (k _).trans a1, (k _).trans a2, (k _).trans a3, (k _).trans a4⟩
/-- so far as the changes have been taken back: q of those that are lost are left -/
structure CJ (B d : Nat) (S : Dsk) (A : Ad) (fin : Fls) (part : Int) (w : World) (n kk : Nat) (la : Option Addr) (lc R q : Nat) (W : World) : Prop where
  box : W.cell? ⟨R, 0, none⟩ = some (.pointer (some ⟨d, 0, none⟩))
  prt : W.cell? ⟨R + 1, 0, none⟩ = some (.int .i64 part)
  bx : W.cell? ⟨R + 2, 0, none⟩ = some (.slice (slc la lc kk) (n - kk) (lc - kk))
  size : R + 3 ≤ W.heap.size
  ex : ∃ S' l', DK B d S' W ∧ Mov S d S' w W ∧ (∀ k, S'.own d k → k < R ∨ R + 5 ≤ k) ∧ S'.lv = S.lv ∧ S'.loose = S.loose ∧ S'.room = S.room ∧ JS S' l' ∧ usedF l' ≤ A.room.toNat ∧ Td S' ∧ Bds S' ∧ S'.n + 2 * q ≤ S.n + 2 * (n - kk) ∧ (q = 0 → l' = fin) ∧ (0 < q → Chn A.room.toNat S'.vw (S.loose.take (kk + q)).reverse l' (A.loose.take (kk + q)).reverse A.sure)
def CP (B d : Nat) (S : Dsk) (A : Ad) (fin : Fls) (part : Int) (w : World) (n kk : Nat) (la : Option Addr) (lc R : Nat) (pre : List (Nat × List Value)) (W : World) : Prop := ∃ q, q ≤ n - kk ∧ pre = outs (chE S kk) (n - kk) q ∧ CJ B d S A fin part w n kk la lc R q W
theorem outs_len (E : Nat → List Value) (n k : Nat) : (outs E n k).length = n - k := by unfold outs; simp
theorem CP.at {B d : Nat} {S : Dsk} {A : Ad} {fin : Fls} {part : Int} {w : World} {n kk : Nat} {la : Option Addr} {lc R q : Nat} {W : World} (h : CP B d S A fin part w n kk la lc R (outs (chE S kk) (n - kk) (q + 1)) W) (hq : q < n - kk) : CJ B d S A fin part w n kk la lc R (q + 1) W := by
  obtain ⟨q', h1, h2, h3⟩ := h
  have e := congrArg List.length h2
  rw [outs_len, outs_len] at e
  have : q' = q + 1 := by omega
  rw [← this]; exact h3
theorem CP.end {B d : Nat} {S : Dsk} {A : Ad} {fin : Fls} {part : Int} {w : World} {n kk : Nat} {la : Option Addr} {lc R : Nat} {W : World} (h : CP B d S A fin part w n kk la lc R (outs (chE S kk) (n - kk) 0) W) : CJ B d S A fin part w n kk la lc R 0 W := by
  obtain ⟨q', h1, h2, h3⟩ := h
  have e := congrArg List.length h2
  rw [outs_len, outs_len] at e
  have : q' = 0 := by omega
  rw [← this]; exact h3
theorem CP.keepL {B d : Nat} {S : Dsk} {A : Ad} {fin : Fls} {part : Int} {w : World} {n kk : Nat} {la : Option Addr} {lc R : Nat} {pre : List (Nat × List Value)} {W W' : World} (hR : w.heap.size = R) (hw : DK B d S w) (h : CP B d S A fin part w n kk la lc R pre W) (hk : KeepL (R + 3) W W') : CP B d S A fin part w n kk la lc R pre W' := by
  obtain ⟨q, g1, g2, h⟩ := h
  obtain ⟨S', l', h1, h2, h3, h4⟩ := h.ex
  have hn : ∀ k, S'.own d k → k ≠ R + 3 ∧ k ≠ R + 4 := fun k ho => by have := h3 k ho; omega
  exact ⟨q, g1, g2, (hk.cell (a := ⟨R, 0, none⟩) (by show R ≠ R + 3; omega) (by show R ≠ R + 4; omega)).trans h.box, (hk.cell (a := ⟨R + 1, 0, none⟩) (by show R + 1 ≠ R + 3; omega) (by show R + 1 ≠ R + 4; omega)).trans h.prt,
    (hk.cell (a := ⟨R + 2, 0, none⟩) (by show R + 2 ≠ R + 3; omega) (by show R + 2 ≠ R + 4; omega)).trans h.bx, Nat.le_trans h.size hk.size, S', l', h1.keep fun k ho => hk.blk k (hn k ho).1 (hn k ho).2, h2.keepL hk (by omega), h3, h4⟩
theorem CP.later {B d : Nat} {S : Dsk} {A : Ad} {fin : Fls} {part : Int} {w : World} {n kk : Nat} {la : Option Addr} {lc R : Nat} {pre : List (Nat × List Value)} {W W' : World} (h : CP B d S A fin part w n kk la lc R pre W) (hb : Below W.heap.size W W') : CP B d S A fin part w n kk la lc R pre W' := by
  obtain ⟨q, g1, g2, h⟩ := h
  obtain ⟨S', l', h1, h2, h3, h4⟩ := h.ex
  have hsz := h.size
  exact ⟨q, g1, g2, (hb.cell (p := ⟨R, 0, none⟩) (by show R < _; omega)).trans h.box, (hb.cell (p := ⟨R + 1, 0, none⟩) (by show R + 1 < _; omega)).trans h.prt, (hb.cell (p := ⟨R + 2, 0, none⟩) (by show R + 2 < _; omega)).trans h.bx, Nat.le_trans hsz hb.size, S', l', h1.below hb, h2.trans (Mov.ofBelow hb), h3, h4⟩
theorem fin_all {A : Ad} {keep part : Int} {kk : Nat} (hK : kk = (min (max keep 0) (A.loose.length : Int)).toNat) (h : kk = A.loose.length) : A.fin keep part = A.now := by
  unfold Ad.fin
  rw [← hK, h, List.getElem?_eq_none (Nat.le_refl _)]
theorem CJ.start {B d N : Nat} {S : Dsk} {A : Ad} {keep part : Int} {w : World} {n kk R : Nat} {W : World} (h : DK B d S W) (m : Mov S d S w W) (hw : DK B d S w) (hR : w.heap.size = R) (ra : RA N S A) (hkk : kk ≤ n) (hnn : n = S.loose.length) (hK : kk = (min (max keep 0) (A.loose.length : Int)).toNat) :
    ∃ S' l', DK B d S' W ∧ Mov S d S' w W ∧ (∀ k, S'.own d k → k < R ∨ R + 5 ≤ k) ∧ S'.lv = S.lv ∧ S'.loose = S.loose ∧ S'.room = S.room ∧ JS S' l' ∧ usedF l' ≤ A.room.toNat ∧ Td S' ∧ Bds S' ∧ S'.n + 2 * (n - kk) ≤ S.n + 2 * (n - kk) ∧ (n - kk = 0 → l' = A.fin keep part) ∧ (0 < n - kk → Chn A.room.toNat S'.vw (S.loose.take (kk + (n - kk))).reverse l' (A.loose.take (kk + (n - kk))).reverse A.sure) := by
  have hlen := ra.loose
  refine ⟨S, A.now, h, m, fun k ho => .inl (by have := (hw.ownLt ho).2; omega), rfl, rfl, rfl, ra.js, ra.chn.used, ra.td, ⟨ra.nms, ra.cnm, ra.zsl⟩, Nat.le_refl _, fun h0 => ?_, fun _ => ?_⟩
  · exact (fin_all hK (by omega)).symm
  · rw [List.take_of_length_le (by omega), List.take_of_length_le (by omega)]
    exact ra.chn
theorem undo_stay (V : Vw) {c : Chg} (h : ¬ c.kind = 1) (st : Nat) : V.undo c st = V.undo c 0 := by
  unfold Vw.undo
  simp only [if_neg h]
theorem used_part {l : Fls} {o : DCh} (hs : Srt l) (hk : o.kind = 1) (st : Nat) : usedF (doF l { o with p := o.p.take st }) ≤ usedF (doF l o) := by
  obtain ⟨k, a, b, p⟩ := o
  simp only at hk
  subst hk
  show usedF (doF l ⟨1, a, b, p.take st⟩) ≤ usedF (doF l ⟨1, a, b, p⟩)
  rw [doF1, doF1, used_with, used_with]
  simp only [List.length_append, List.length_take]
  omega
theorem CJ.undo {B d N : Nat} {S : Dsk} {A : Ad} {keep part : Int} {w : World} {n kk : Nat} {la : Option Addr} {lc R q : Nat} {W : World} (hR : w.heap.size = R) (hdk : DK B d S w) (h : CJ B d S A (A.fin keep part) part w n kk la lc R (q + 1) W) (ra : RA N S A) (hq : q < n - kk) (hnn : n = S.loose.length) (hK : kk = (min (max keep 0) (A.loose.length : Int)).toNat) (hW : R + 5 ≤ W.heap.size) {c : Chg} (hc : S.loose[kk + q]? = some c) (rp : Option Addr) (hrp : rp = c.repl.map fun b => ⟨b, 0, none⟩) (st : Nat) (hst : st ≤ 1048576) (hz : (q = 0 ∧ min (max part 0) 1048576 = (st : Int)) ∨ (q ≠ 0 ∧ st = 0)) (hN : N < 1000000000) :
    Calls Try.prog 46 #[.pointer (some ⟨d, 0, none⟩), .agg #[.int .i64 c.kind, .pointer (some ⟨c.file, 0, none⟩), .int .i64 c.size, .string c.name, .pointer rp], .int .i64 (st : Int)] W fun e W' => e = .returned (.tuple #[]) ∧ CJ B d S A (A.fin keep part) part w n kk la lc R q W' ∧ ∀ k, R ≤ k → k < R + 5 → W'.heap[k]? = W.heap[k]? := by
  obtain ⟨S', l', h1, h2, h3, h4, h5, h6, h7, h8, h9, h10, h11, h12, h13⟩ := h.ex
  have hch := h13 (by omega)
  have hlen := ra.loose
  have hbig := ra.big
  obtain ⟨o, ho⟩ : ∃ o, A.loose[kk + q]? = some o := ⟨_, List.getElem?_eq_getElem (by omega)⟩
  have e1 : (S.loose.take (kk + (q + 1))).reverse = c :: (S.loose.take (kk + q)).reverse := by
    rw [← Nat.add_assoc, List.take_add_one, hc]
    simp
  have e2 : (A.loose.take (kk + (q + 1))).reverse = o :: (A.loose.take (kk + q)).reverse := by
    rw [← Nat.add_assoc, List.take_add_one, ho]
    simp
  rw [e1, e2] at hch
  have hcm : c ∈ S'.loose := by rw [h5]; exact List.mem_of_getElem? hc
  refine (undo_c h1 hch h7 hcm (by have := ra.r1; omega) h10 h9 (by unfold maxLen; omega) st hst rp hrp).mono ?_
  rintro e W' ⟨rfl, S2, l2, k1, k2, k3, k4, k5, k6, k7, k8, k9, k10⟩
  have keepR : ∀ k, R ≤ k → k < R + 5 → W'.heap[k]? = W.heap[k]? := fun k hk hl => k2.block k (by omega) fun ho => by have := h3 k ho; omega
  have hsz := h.size
  obtain ⟨l3, hd, hch2⟩ : ∃ l3, l' = doF l3 o ∧ Chn A.room.toNat (S'.vw.undo c 0) (S.loose.take (kk + q)).reverse l3 (A.loose.take (kk + q)).reverse A.sure := by
    cases hch with
    | cons _ _ h3 _ h5 => exact ⟨_, h3, h5⟩
  have hfit : Fit S'.vw c o ∧ Ab S'.vw l' := by
    cases hch with
    | cons h1 _ _ h4 _ => exact ⟨h4, h1⟩
  refine ⟨rfl, ⟨(World.cell?_of_block (keepR R (Nat.le_refl _) (by omega))).trans h.box, (World.cell?_of_block (keepR (R + 1) (by omega) (by omega))).trans h.prt, (World.cell?_of_block (keepR (R + 2) (by omega) (by omega))).trans h.bx, Nat.le_trans hsz k2.size,
    S2, l2, k1, h2.trans k2, fun k ho => ?_, k3.trans h4, k4.trans h5, k5.trans h6, k7, ?_, k9, k10, by omega, fun h0 => ?_, fun h0 => ?_⟩, keepR⟩
  · rcases k2.own k ho with h0 | h0
    · exact h3 k h0
    · right; omega
  · rcases hz with ⟨h0, hst2⟩ | ⟨h0, hst2⟩
    · by_cases hk1 : o.kind = 1
      · have e := k7.uniq (m := doF l3 { o with p := o.p.take st }) (by rw [k6]; exact hfit.2.part hd hfit.1 hch2.ab hk1 st)
        rw [e]
        have := used_part (l := l3) (o := o) hch2.ab.srt hk1 st
        rw [← hd] at this
        omega
      · have e := k7.uniq (m := l3) (by
          rw [k6]
          have e : S'.vw.undo c st = S'.vw.undo c 0 := undo_stay _ (by rw [hfit.1.kind]; omega) st
          rw [e]; exact hch2.ab)
        rw [e]; exact hch2.used
    · have e := k7.uniq (m := l3) (by rw [k6, hst2]; exact hch2.ab)
      rw [e]; exact hch2.used
  · subst h0
    have hst2 : min (max part 0) 1048576 = (st : Int) := by
      rcases hz with ⟨_, h⟩ | ⟨h, _⟩
      · exact h
      · exact absurd rfl h
    have hl3 := hch2.fold
    rw [List.foldr_reverse, Nat.add_zero] at hl3
    rw [Nat.add_zero] at ho
    unfold Ad.fin
    rw [← hK, ho]
    simp only
    have hst3 : (min (max part 0) 1048576).toNat = st := by omega
    rw [hst3]
    by_cases hk1 : o.kind = 1
    · rw [if_pos hk1]
      have e := k7.uniq (m := doF l3 { o with p := o.p.take st }) (by rw [k6]; exact hfit.2.part hd hfit.1 hch2.ab hk1 st)
      rw [e, hl3]
    · rw [if_neg hk1]
      have e := k7.uniq (m := l3) (by
        rw [k6]
        have e : S'.vw.undo c st = S'.vw.undo c 0 := undo_stay _ (by rw [hfit.1.kind]; omega) st
        rw [e]; exact hch2.ab)
      rw [e, hl3]
  · have hst2 : st = 0 := by
      rcases hz with ⟨h, _⟩ | ⟨_, h⟩
      · omega
      · exact h
    have e := k7.uniq (m := l3) (by rw [k6, hst2]; exact hch2.ab)
    rw [e, k6, hst2]
    exact hch2
theorem CJ.over {N n kk : Nat} {S S' : Dsk} {A : Ad} {keep part : Int} {l' : Fls} (ra : RA N S A) (h4 : S'.lv = S.lv) (h5 : S'.loose = S.loose) (h6 : S'.room = S.room) (h7 : JS S' l') (h8 : usedF l' ≤ A.room.toNat) (h9 : Td S') (h10 : Bds S') (h11 : S'.n + 2 * 0 ≤ S.n + 2 * (n - kk)) (h12 : l' = A.fin keep part) (hnn : n = S.loose.length) : RA N { S'.sure with fuse := -1, down := false } (A.crash keep part) := by
  have hbig := ra.big
  subst h12
  have e : ({ S'.sure with fuse := -1, down := false } : Dsk).vw = S'.vw := Dsk.vw_of rfl rfl
  refine ⟨h6.trans ra.room, ra.r0, ra.r1, rfl, by show (-1 : Int) ≤ _; omega, rfl, h7.used, h7.size, h9.same rfl, ?_, ?_, h10.nms, fun c hc => (by cases hc), h10.zsl⟩
  · rw [e]
    exact .nil h7.ab h8
  · show S'.n + 2 * 0 ≤ N
    omega
end Go.Proofs.Ytmomdfmilelilaa
