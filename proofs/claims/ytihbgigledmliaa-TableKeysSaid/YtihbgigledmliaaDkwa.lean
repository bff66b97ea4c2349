/-
  A disk in memory is the document's: undo of a loose change. A disk in memory is the document's: Crash. A disk in memory is the document's: Crash.
-/
import Derived.Test.YtihbgigledmliaaDks
import Derived.Test.YtihbgigledmliaaDkrv
namespace Go.Proofs.Ytihbgigledmliaa
open Go.RowKit Go.Maps
set_option linter.unusedVariables false
/-- bounds of names and bytes -/
structure Bds (S : Dsk) : Prop where
  nms : ∀ b f, S.fl b = some f → f.nm.size ≤ 160
  cnm : ∀ c ∈ S.loose, c.name.size ≤ 160
  zsl : ∀ b f, S.fl b = some f → f.zs.length ≤ 67108864
theorem Bds.file {S S' : Dsk} {b : Nat} {f : Fil} (h : Bds S) (h1 : S'.fl = (S.file b f).fl) (h2 : S'.loose = S.loose) (k1 : f.nm.size ≤ 160) (k2 : f.zs.length ≤ 67108864) : Bds S' := by
  refine ⟨fun c g hc => ?_, by rw [h2]; exact h.cnm, fun c g hc => ?_⟩
  · rw [h1] at hc
    have hc' : (if c = b then some f else S.fl c) = some g := hc
    split at hc'
    · cases hc'; exact k1
    · exact h.nms c g hc'
  · rw [h1] at hc
    have hc' : (if c = b then some f else S.fl c) = some g := hc
    split at hc'
    · cases hc'; exact k2
    · exact h.zsl c g hc'
theorem Bds.same {S S' : Dsk} (h : Bds S) (h1 : S'.fl = S.fl) (h2 : S'.loose = S.loose) : Bds S' := ⟨by rw [h1]; exact h.nms, by rw [h2]; exact h.cnm, by rw [h1]; exact h.zsl⟩
/-- what undo leaves -/
def Und (B d : Nat) (S : Dsk) (c : Chg) (st : Nat) (W W' : World) : Prop := ∃ S' l', DK B d S' W' ∧ Mov S d S' W W' ∧ S'.lv = S.lv ∧ S'.loose = S.loose ∧ S'.room = S.room ∧ S'.vw = S.vw.undo c st ∧ JS S' l' ∧ S'.n ≤ S.n + 2 ∧ Td S' ∧ Bds S'
end Go.Proofs.Ytihbgigledmliaa
namespace Go.Proofs.Ytihbgigledmliaa
open Go.RowKit Go.Maps
set_option linter.unusedVariables false
attribute [local go_sem] Oper.semAt_some
/-- the files that are left -/
def Ad.fin (A : Ad) (keep part : Int) : Fls :=
  match A.loose[(min (max keep 0) (A.loose.length : Int)).toNat]? with
  | none => A.now
  | some o => if o.kind = 1 then doF ((A.loose.take (min (max keep 0) (A.loose.length : Int)).toNat).foldl doF A.sure) { o with p := o.p.take (min (max part 0) 1048576).toNat } else (A.loose.take (min (max keep 0) (A.loose.length : Int)).toNat).foldl doF A.sure
def Ad.crash (A : Ad) (keep part : Int) : Ad := ⟨A.room, -1, false, A.fin keep part, A.fin keep part, []⟩
def CX5 (X : Nat) (c : Chg) (rp : Option Addr) (W : World) : Prop := W.cell? ⟨X, 0, none⟩ = some (.int .i64 c.kind) ∧ W.cell? ⟨X, 1, none⟩ = some (.pointer (some ⟨c.file, 0, none⟩)) ∧ W.cell? ⟨X, 2, none⟩ = some (.int .i64 c.size) ∧ W.cell? ⟨X, 3, none⟩ = some (.string c.name) ∧ W.cell? ⟨X, 4, none⟩ = some (.pointer rp)
theorem CX5.keepL {X R : Nat} {c : Chg} {rp : Option Addr} {W W' : World} (h : CX5 X c rp W) (hk : KeepL (R + 3) W W') (hX : R + 4 < X) : CX5 X c rp W' := by
  obtain ⟨a0, a1, a2, a3, a4⟩ := h
  have k : ∀ j, W'.cell? ⟨X, j, none⟩ = W.cell? ⟨X, j, none⟩ := fun j => hk.cell (a := ⟨X, j, none⟩) (by show X ≠ R + 3; omega) (by show X ≠ R + 4; omega)
  exact ⟨(k _).trans a0, (k _).trans a1, (k _).trans a2, (k _).trans a3, (k _).trans a4⟩
/-- so far as the changes have been taken back: q of those that are lost are left -/
structure CJ (B d : Nat) (S : Dsk) (A : Ad) (fin : Fls) (part : Int) (w : World) (n kk : Nat) (la : Option Addr) (lc R q : Nat) (W : World) : Prop where
  box : W.cell? ⟨R, 0, none⟩ = some (.pointer (some ⟨d, 0, none⟩))
  prt : W.cell? ⟨R + 1, 0, none⟩ = some (.int .i64 part)
  bx : W.cell? ⟨R + 2, 0, none⟩ = some (.slice (slc la lc kk) (n - kk) (lc - kk))
  size : R + 3 ≤ W.heap.size
  ex : ∃ S' l', DK B d S' W ∧ Mov S d S' w W ∧ (∀ k, S'.own d k → k < R ∨ R + 5 ≤ k) ∧ S'.lv = S.lv ∧ S'.loose = S.loose ∧ S'.room = S.room ∧ JS S' l' ∧ usedF l' ≤ A.room.toNat ∧ Td S' ∧ Bds S' ∧ S'.n + 2 * q ≤ S.n + 2 * (n - kk) ∧ (q = 0 → l' = fin) ∧ (0 < q → Chn A.room.toNat S'.vw (S.loose.take (kk + q)).reverse l' (A.loose.take (kk + q)).reverse A.sure)
def CP (B d : Nat) (S : Dsk) (A : Ad) (fin : Fls) (part : Int) (w : World) (n kk : Nat) (la : Option Addr) (lc R : Nat) (pre : List (Nat × List Value)) (W : World) : Prop := ∃ q, q ≤ n - kk ∧ pre = outs (chE S kk) (n - kk) q ∧ CJ B d S A fin part w n kk la lc R q W
theorem outs_len (E : Nat → List Value) (n k : Nat) : (outs E n k).length = n - k := by unfold outs; simp
theorem CP.at {B d : Nat} {S : Dsk} {A : Ad} {fin : Fls} {part : Int} {w : World} {n kk : Nat} {la : Option Addr} {lc R q : Nat} {W : World} (h : CP B d S A fin part w n kk la lc R (outs (chE S kk) (n - kk) (q + 1)) W) (hq : q < n - kk) : CJ B d S A fin part w n kk la lc R (q + 1) W := by
  obtain ⟨q', h1, h2, h3⟩ := h
  have e := congrArg List.length h2
  rw [outs_len, outs_len] at e
  have : q' = q + 1 := by omega
  rw [← this]; exact h3
theorem CP.end {B d : Nat} {S : Dsk} {A : Ad} {fin : Fls} {part : Int} {w : World} {n kk : Nat} {la : Option Addr} {lc R : Nat} {W : World} (h : CP B d S A fin part w n kk la lc R (outs (chE S kk) (n - kk) 0) W) : CJ B d S A fin part w n kk la lc R 0 W := by
  obtain ⟨q', h1, h2, h3⟩ := h
  have e := congrArg List.length h2
  rw [outs_len, outs_len] at e
  have : q' = 0 := by omega
  rw [← this]; exact h3
theorem CP.keepL {B d : Nat} {S : Dsk} {A : Ad} {fin : Fls} {part : Int} {w : World} {n kk : Nat} {la : Option Addr} {lc R : Nat} {pre : List (Nat × List Value)} {W W' : World} (hR : w.heap.size = R) (hw : DK B d S w) (h : CP B d S A fin part w n kk la lc R pre W) (hk : KeepL (R + 3) W W') : CP B d S A fin part w n kk la lc R pre W' := by
  obtain ⟨q, g1, g2, h⟩ := h
  obtain ⟨S', l', h1, h2, h3, h4⟩ := h.ex
  have hn : ∀ k, S'.own d k → k ≠ R + 3 ∧ k ≠ R + 4 := fun k ho => by have := h3 k ho; omega
  exact ⟨q, g1, g2, (hk.cell (a := ⟨R, 0, none⟩) (by show R ≠ R + 3; omega) (by show R ≠ R + 4; omega)).trans h.box, (hk.cell (a := ⟨R + 1, 0, none⟩) (by show R + 1 ≠ R + 3; omega) (by show R + 1 ≠ R + 4; omega)).trans h.prt,
    (hk.cell (a := ⟨R + 2, 0, none⟩) (by show R + 2 ≠ R + 3; omega) (by show R + 2 ≠ R + 4; omega)).trans h.bx, Nat.le_trans h.size hk.size, S', l', h1.keep fun k ho => hk.blk k (hn k ho).1 (hn k ho).2, h2.keepL hk (by omega), h3, h4⟩
theorem CP.later {B d : Nat} {S : Dsk} {A : Ad} {fin : Fls} {part : Int} {w : World} {n kk : Nat} {la : Option Addr} {lc R : Nat} {pre : List (Nat × List Value)} {W W' : World} (h : CP B d S A fin part w n kk la lc R pre W) (hb : Below W.heap.size W W') : CP B d S A fin part w n kk la lc R pre W' := by
  obtain ⟨q, g1, g2, h⟩ := h
  obtain ⟨S', l', h1, h2, h3, h4⟩ := h.ex
  have hsz := h.size
  exact ⟨q, g1, g2, (hb.cell (p := ⟨R, 0, none⟩) (by show R < _; omega)).trans h.box, (hb.cell (p := ⟨R + 1, 0, none⟩) (by show R + 1 < _; omega)).trans h.prt, (hb.cell (p := ⟨R + 2, 0, none⟩) (by show R + 2 < _; omega)).trans h.bx, Nat.le_trans hsz hb.size, S', l', h1.below hb, h2.trans (Mov.ofBelow hb), h3, h4⟩
theorem fin_all {A : Ad} {keep part : Int} {kk : Nat} (hK : kk = (min (max keep 0) (A.loose.length : Int)).toNat) (h : kk = A.loose.length) : A.fin keep part = A.now := by
  unfold Ad.fin
  rw [← hK, h, List.getElem?_eq_none (Nat.le_refl _)]
theorem CJ.start {B d N : Nat} {S : Dsk} {A : Ad} {keep part : Int} {w : World} {n kk R : Nat} {W : World} (h : DK B d S W) (m : Mov S d S w W) (hw : DK B d S w) (hR : w.heap.size = R) (ra : RA N S A) (hkk : kk ≤ n) (hnn : n = S.loose.length) (hK : kk = (min (max keep 0) (A.loose.length : Int)).toNat) :
    ∃ S' l', DK B d S' W ∧ Mov S d S' w W ∧ (∀ k, S'.own d k → k < R ∨ R + 5 ≤ k) ∧ S'.lv = S.lv ∧ S'.loose = S.loose ∧ S'.room = S.room ∧ JS S' l' ∧ usedF l' ≤ A.room.toNat ∧ Td S' ∧ Bds S' ∧ S'.n + 2 * (n - kk) ≤ S.n + 2 * (n - kk) ∧ (n - kk = 0 → l' = A.fin keep part) ∧ (0 < n - kk → Chn A.room.toNat S'.vw (S.loose.take (kk + (n - kk))).reverse l' (A.loose.take (kk + (n - kk))).reverse A.sure) := by
  have hlen := ra.loose
  refine ⟨S, A.now, h, m, fun k ho => .inl (by have := (hw.ownLt ho).2; omega), rfl, rfl, rfl, ra.js, ra.chn.used, ra.td, ⟨ra.nms, ra.cnm, ra.zsl⟩, Nat.le_refl _, fun h0 => ?_, fun _ => ?_⟩
  · exact (fin_all hK (by omega)).symm
  · rw [List.take_of_length_le (by omega), List.take_of_length_le (by omega)]
    exact ra.chn
theorem undo_stay (V : Vw) {c : Chg} (h : ¬ c.kind = 1) (st : Nat) : V.undo c st = V.undo c 0 := by
  unfold Vw.undo
  simp only [if_neg h]
theorem used_part {l : Fls} {o : DCh} (hs : Srt l) (hk : o.kind = 1) (st : Nat) : usedF (doF l { o with p := o.p.take st }) ≤ usedF (doF l o) := by
  obtain ⟨k, a, b, p⟩ := o
  simp only at hk
  subst hk
  show usedF (doF l ⟨1, a, b, p.take st⟩) ≤ usedF (doF l ⟨1, a, b, p⟩)
  rw [doF1, doF1, used_with, used_with]
  simp only [List.length_append, List.length_take]
  omega
theorem CJ.over {N n kk : Nat} {S S' : Dsk} {A : Ad} {keep part : Int} {l' : Fls} (ra : RA N S A) (h4 : S'.lv = S.lv) (h5 : S'.loose = S.loose) (h6 : S'.room = S.room) (h7 : JS S' l') (h8 : usedF l' ≤ A.room.toNat) (h9 : Td S') (h10 : Bds S') (h11 : S'.n + 2 * 0 ≤ S.n + 2 * (n - kk)) (h12 : l' = A.fin keep part) (hnn : n = S.loose.length) : RA N { S'.sure with fuse := -1, down := false } (A.crash keep part) := by
  have hbig := ra.big
  subst h12
  have e : ({ S'.sure with fuse := -1, down := false } : Dsk).vw = S'.vw := Dsk.vw_of rfl rfl
  refine ⟨h6.trans ra.room, ra.r0, ra.r1, rfl, by show (-1 : Int) ≤ _; omega, rfl, h7.used, h7.size, h9.same rfl, ?_, ?_, h10.nms, fun c hc => (by cases hc), h10.zsl⟩
  · rw [e]
    exact .nil h7.ab h8
  · show S'.n + 2 * 0 ≤ N
    omega
end Go.Proofs.Ytihbgigledmliaa
namespace Go.Proofs.Ytihbgigledmliaa
open Go.RowKit Go.Maps
set_option linter.unusedVariables false
attribute [local go_sem] Oper.semAt_some
end Go.Proofs.Ytihbgigledmliaa
