/-
  The table's Apply.
-/
import Derived.Test.YtihbgigledmliaaTbg
namespace Go.Proofs.Ytihbgigledmliaa
open Go.RowKit Go.Maps
set_option linter.unusedVariables false
/-- where changes that came in lie -/
def CgX (X : Nat → Prop) (B jb tb : Nat) (a : Option Addr) (len : Nat) (L : List Cg) : Prop :=
  (∀ b o s, a = some ⟨b, o, s⟩ → len ≠ 0 → b < B ∨ X b ∧ b ≠ jb ∧ b ≠ tb) ∧ ∀ c ∈ L, ∀ b o s, c.va = some ⟨b, o, s⟩ → c.vn ≠ 0 → b < B ∨ X b ∧ b ≠ jb ∧ b ≠ tb
theorem CgIn.stay {X : Nat → Prop} {B jb tb : Nat} {w w' : World} {a : Option Addr} {len cap : Nat} {L : List Cg} (h : CgIn w a len cap L) (hx : CgX X B jb tb a len L) (hz : w.heap.size ≤ w'.heap.size) (hk : ∀ j, j < w.heap.size → (j < B ∨ X j ∧ j ≠ jb ∧ j ≠ tb) → w'.heap[j]? = w.heap[j]?) : CgIn w' a len cap L := by
  obtain ⟨h1, h3, h4, h5, h6⟩ := h
  refine ⟨h1, h3, h4, ?_, fun c hc => ⟨rd_stay (h6 c hc).1 hz fun b o s e hn => hk b (rd_blkJ (h6 c hc).1 e hn) (hx.2 c hc b o s e hn), (h6 c hc).2⟩⟩
  by_cases h0 : len = 0
  · exact .inl h0
  · obtain ⟨b, off, ha, hlt, hc⟩ := h5.resolve_left h0
    have hb := hk b hlt (hx.1 b off none ha h0)
    have hcc : ∀ o, w'.cell? ⟨b, o, none⟩ = w.cell? ⟨b, o, none⟩ := fun o => World.cell?_of_block (a := ⟨b, o, none⟩) hb
    refine .inr ⟨b, off, ha, Nat.lt_of_lt_of_le hlt hz, fun i s hs => ?_⟩
    obtain ⟨e1, e2, e3⟩ := hc i s hs
    exact ⟨(hcc _).trans e1, (hcc _).trans e2, (hcc _).trans e3⟩
/-- Apply, plain: the disk and the answer; whether the power went; the values -/
def taE (A : Ad) (dn : Bool) (nm : ByteArray) (L : List Cg) : Ad × Int := if dn then (A, 5) else if (encT L).2 ≠ 0 then (A, (encT L).2) else A.keep nm (encT L).1
def taD (A : Ad) (dn : Bool) (nm : ByteArray) (L : List Cg) : Bool := dn || decide ((taE A dn nm L).2 = 5)
def taF (A : Ad) (dn : Bool) (nm : ByteArray) (L : List Cg) (f : ByteArray → Option (List Nat)) : ByteArray → Option (List Nat) := if (taE A dn nm L).2 = 0 then applyL f L else f
/-- what Apply leaves -/
def ApR (X : Nat → Prop) (B d jb tb m n N : Nat) (nm : ByteArray) (sz : Nat) (w : World) (r : Ad × Int) (f : ByteArray → Option (List Nat)) (dn : Bool) (e : Ending) (w' : World) : Prop :=
  ∃ (Y : Nat → Prop) (sz' : Nat), e = .returned (.int .i64 r.2) ∧ (∀ j, X j → Y j) ∧ (∀ j, Y j → X j ∨ w.heap.size ≤ j) ∧ Tbl Y B d jb tb m n N nm sz' r.1 f dn w' ∧ sz' ≤ sz + 2000000 ∧ Below B w w' ∧ ∀ j, X j → j ≠ jb → j ≠ tb → j ≠ m → w'.heap[j]? = w.heap[j]?
theorem encT_codes (L : List Cg) : (encT L).2 = 0 ∨ (encT L).2 = 1 ∨ (encT L).2 = 8 := by
  have hg : ∀ (L : List Cg) (acc : List Nat), (encG acc L).2 = 0 ∨ (encG acc L).2 = 1 ∨ (encG acc L).2 = 8 := by
    intro L
    induction L with
    | nil => intro acc; exact .inl rfl
    | cons c l ih =>
      intro acc
      unfold encG
      split
      · exact .inr (.inl rfl)
      · split
        · exact .inr (.inr rfl)
        · exact ih _
  unfold encT
  split
  · exact .inr (.inr rfl)
  · exact hg _ _
theorem Tbl.mono {X : Nat → Prop} {B d jb tb m n N n' N' sz : Nat} {nm : ByteArray} {A : Ad} {f : ByteArray → Option (List Nat)} {dn : Bool} {w : World} (h : Tbl X B d jb tb m n N nm sz A f dn w) (hn : n ≤ n') (hN : N ≤ N') : Tbl X B d jb tb m n' N' nm sz A f dn w := by
  obtain ⟨D, hD⟩ := h.tm
  exact ⟨⟨h.jn.dx.mono hN, h.jn.xj, h.jn.bj, h.jn.row⟩, ⟨D, hD.upto hn⟩, h.row, h.tx, h.tj, h.mx, h.bt⟩
set_option maxRecDepth 100000 in
set_option maxHeartbeats 8000000 in
theorem tapply_c {X : Nat → Prop} {B d jb tb m n N sz : Nat} {nm : ByteArray} {A : Ad} {f : ByteArray → Option (List Nat)} {dn : Bool} {w : World} (h : Tbl X B d jb tb m n N nm sz A f dn w) (hN : N < 10000000) (hn : n < 100000000) (hnm : nm.size ≤ 1000) (hsz : sz ≤ 1000000000000) (a : Option Addr) (len cap : Nat) (L : List Cg) (hl : CgIn w a len cap L) (hx : CgX X B jb tb a len L) :
    Calls Try.prog 8 #[.pointer (some ⟨tb, 0, none⟩), .slice a len cap] w (ApR X B d jb tb m (n + 256) (N + 6) nm sz w (taE A dn nm L) (taF A dn nm L f) (taD A dn nm L)) := by
  have HH := Lib.hid h
  have HRD := Lib.hid (tready_c h.row)
  have HEN := Lib.hid (encode_c a len cap L w hl)
  have HLI := Lib.hid hl
  have HLX := Lib.hid hx
  have HVB := Lib.hid (show ∀ c ∈ L, ∀ z ∈ c.val, z < 256 from fun c hc => (hl.2.2.2.2 c hc).1.2.1)
  have HLL := Lib.hid hl.1
  have HBW := Lib.hid (show B ≤ w.heap.size from Nat.le_of_lt (Nat.lt_of_le_of_lt h.jn.dx.base.1 h.jn.dx.base.2))
  cases dn with
  | true =>
    have HF := Lib.hid (show ApR X B d jb tb m (n + 256) (N + 6) nm sz w (taE A true nm L) (taF A true nm L f) (taD A true nm L) (.returned (.int .i64 5)) w from ⟨X, sz, rfl, fun j hj => hj, fun j hj => .inl hj, h.mono (by omega) (by omega), by omega, Below.refl _ _, fun _ _ _ _ _ => rfl⟩)
    clear h hl hx
    go_enter Try.func8, Try.ntmps8
    go_wp2_with fail
    refine HRD.out.mono ?_
    rintro e1 w1 ⟨rfl, rfl⟩
    clear HRD
    simp only [if_true]
    go_wp2_with fail
    go_ret
    exact HF.out
  | false =>
    obtain ⟨r, hr⟩ : ∃ r, encT L = r := ⟨_, rfl⟩
    have HR := Lib.hid hr
    rw [hr] at HEN
    obtain ⟨bs, x⟩ := r
    clear h hl hx hr
    go_enter Try.func8, Try.ntmps8
    go_wp2_with fail
    refine HRD.out.mono ?_
    rintro e1 w1 ⟨rfl, rfl⟩
    clear HRD
    simp only [Bool.false_eq_true, if_false]
    go_wp2_with fail
    refine HEN.out.mono ?_
    rintro e2 w2 ⟨v2, rfl, ho2, hb2⟩
    have HH2 := Lib.hid (HH.out.below hb2)
    have HB2 := Lib.hid hb2
    clear hb2 HEN
    by_cases h0 : x = 0
    · subst h0
      obtain ⟨g1, g2, g3, g4⟩ := encT_ok HVB.out (show (encT L).2 = 0 from by rw [HR.out])
      rw [HR.out] at g3 g4
      simp only at g3 g4
      obtain ⟨a2, n2, c2, rfl, hl2, hlc2, hcm2, hnil2, hr2, -⟩ := ho2.form g4
      have hl2 : bs.length = n2 := hl2
      have hkp := tkeep_c HH2.out.jn HH2.out.row HH2.out.tx HH2.out.tj (by omega) hnm hsz a2 n2 c2 bs hr2 hnil2 (by omega)
      have HE := Lib.hid (show taE A false nm L = A.keep nm bs from by unfold taE; rw [if_neg (by decide), HR.out, if_neg (by simp)])
      obtain ⟨r, hrr⟩ : ∃ r, A.keep nm bs = r := ⟨_, rfl⟩
      have HG1 := Lib.hid g1
      have HG2 := Lib.hid g2
      have HN2 := Lib.hid (show n2 ≤ 1048568 from by omega)
      rw [hrr] at HE
      unfold KeepR at hkp
      rw [hrr] at hkp
      obtain ⟨A', y⟩ := r
      obtain ⟨s', hs'⟩ : ∃ s', (if (A.step ⟨1, nm, ⟨#[]⟩, Frm.frameL bs⟩).2 = 0 then sz + (8 + n2) else sz) = s' := ⟨_, rfl⟩
      have HSZ := Lib.hid (show s' ≤ sz + 2000000 from by rw [← hs']; split <;> omega)
      rw [hs'] at hkp
      have HKP := Lib.hid hkp
      clear hkp hrr hs' g1 g2 g3 g4 ho2 hl2 hlc2 hcm2 hnil2 hr2
      go_wp2_with fail
      refine HKP.out.mono ?_
      rintro e3 w3 ⟨rfl, hj3, hb3, hk3⟩
      have HH3 := Lib.hid (HH2.out.kept hj3 hk3)
      have HB3 := Lib.hid ((HB2.out.mono HBW.out).trans hb3)
      have HK3 := Lib.hid (show ∀ j, X j → j ≠ jb → w3.heap[j]? = w1.heap[j]? from fun j a b => (hk3 j a b).trans (HB2.out.block j (HH.out.jn.dx.lt j a)))
      have HND := Lib.hid (tnoted_c HH3.out y)
      clear hj3 hb3 hk3 HKP
      go_wp2_with fail
      refine HND.out.mono ?_
      rintro e4 w4 ⟨rfl, hh4, hb4, hk4⟩
      have HH4 := Lib.hid hh4
      have HB4 := Lib.hid (HB3.out.trans hb4)
      have HK4 := Lib.hid (show ∀ j, X j → j ≠ jb → j ≠ tb → w4.heap[j]? = w1.heap[j]? from fun j a b c => (hk4 j c).trans (HK3.out j a b))
      clear hh4 hb4 hk4 HND
      by_cases h1 : y = 0
      · subst h1
        have HLI4 := Lib.hid (HLI.out.stay HLX.out HB4.out.size fun j hj ho => ho.elim (fun e => HB4.out.block j e) fun e => HK4.out j e.1 e.2.1 e.2.2)
        obtain ⟨D4, hD4⟩ := HH4.out.tm
        have HPT := Lib.hid (put_c hD4 HH4.out.row (Nat.le_trans HBW.out HB4.out.size) a len cap L HLI4.out HG2.out (by have := HG1.out; have := HLL.out; omega))
        clear hD4
        go_wp2_with fail
        refine HPT.out.mono ?_
        rintro e5 w5 ⟨rfl, hp5⟩
        obtain ⟨hh5, hkb⟩ := HH4.out.done HLL.out hp5
        have HF := Lib.hid (show ApR X B d jb tb m (n + 256) (N + 6) nm sz w1 (taE A false nm L) (taF A false nm L f) (taD A false nm L) (.returned (.int .i64 0)) w5 from ⟨fun j => X j ∨ (w4.heap.size ≤ j ∧ j < w5.heap.size), s', by rw [HE.out], fun j hj => .inl hj, fun j hj => hj.imp id fun e => Nat.le_trans HB4.out.size e.1, by
          have e1 : taF A false nm L f = applyL f L := by unfold taF; rw [HE.out, if_pos rfl]
          have e2 : taD A false nm L = (false || decide ((0 : Int) = 5)) := by unfold taD; rw [HE.out]
          rw [e1, e2, HE.out]
          exact hh5.mono (by have := HG1.out; have := HLL.out; omega) (Nat.le_refl _), HSZ.out, HB4.out.trans (hkb.2.2 B HH.out.mt.2.2.1 (Nat.le_trans HBW.out HB4.out.size)), fun j a b c e => (hkb.2.1 j (Nat.lt_of_lt_of_le (HH.out.jn.dx.lt j a) HB4.out.size) e).trans (HK4.out j a b c)⟩)
        clear hh5 hkb hp5 HPT
        go_wp2_with fail
        go_ret
        exact HF.out
      · have hy : (y != 0) = true := by simp [h1]
        have HF := Lib.hid (show ApR X B d jb tb m (n + 256) (N + 6) nm sz w1 (taE A false nm L) (taF A false nm L f) (taD A false nm L) (.returned (.int .i64 y)) w4 from ⟨X, s', by rw [HE.out], fun j hj => hj, fun j hj => .inl hj, by
          have e1 : taF A false nm L f = f := by unfold taF; rw [HE.out, if_neg h1]
          have e2 : taD A false nm L = (false || decide (y = 5)) := by unfold taD; rw [HE.out]
          rw [e1, e2, HE.out]
          exact HH4.out.mono (by omega) (Nat.le_refl _), HSZ.out, HB4.out, fun j a b c e => HK4.out j a b c⟩)
        go_wp2_with fail
        go_ret
        exact HF.out
    · have hx0 : (x != 0) = true := by simp [h0]
      have HE := Lib.hid (show taE A false nm L = (A, x) from by unfold taE; rw [if_neg (by decide), HR.out, if_pos h0])
      have hx5 : x ≠ 5 := by
        have := encT_codes L
        rw [HR.out] at this
        simp only at this
        omega
      have HF := Lib.hid (show ApR X B d jb tb m (n + 256) (N + 6) nm sz w1 (taE A false nm L) (taF A false nm L f) (taD A false nm L) (.returned (.int .i64 x)) w2 from ⟨X, sz, by rw [HE.out], fun j hj => hj, fun j hj => .inl hj, by
        have e1 : taF A false nm L f = f := by unfold taF; rw [HE.out, if_neg h0]
        have e2 : taD A false nm L = false := by unfold taD; rw [HE.out]; simp [hx5]
        rw [e1, e2, HE.out]
        exact HH2.out.mono (by omega) (by omega), by omega, HB2.out.mono HBW.out, fun j a b c e => HB2.out.block j (HH.out.jn.dx.lt j a)⟩)
      go_wp2_with fail
      go_ret
      exact HF.out
end Go.Proofs.Ytihbgigledmliaa
