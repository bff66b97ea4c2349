/-
  The walk over journal.Scan: the records that bytes begin with, each in new memory.
-/
import Derived.Test.YtihbgigledmliaaJpk
namespace Go.Proofs.Ytihbgigledmliaa
open Go.RowKit
set_option linter.unusedVariables false
structure ScW (w : World) (b : List Nat) (used : Nat) (v : Value) (W : World) : Prop where
  ex : ∃ vs gs ps, OwnV W w.heap.size v vs ∧ Rcs w.heap.size W vs gs ps ∧ 8 * ps.length ≤ used ∧ Frm.scanL b = (ps ++ (Frm.scanL (b.drop used)).1, used + (Frm.scanL (b.drop used)).2)
  le : used ≤ b.length
  below : Below w.heap.size w W
def ScanR (w : World) (b : List Nat) (e : Ending) (w' : World) : Prop :=
  ∃ v vs gs, e = .returned (.tuple #[v, .int .i64 (((Frm.scanL b).2 : Nat) : Int)]) ∧ OwnV w' w.heap.size v vs ∧ Rcs w.heap.size w' vs gs (Frm.scanL b).1 ∧ Below w.heap.size w w'
theorem ScW.last {w W W' : World} {b : List Nat} {used : Nat} {v : Value} (h : ScW w b used v W) (hn : Frm.firstL (b.drop used) = none) (hb : Below W.heap.size W W') : ScanR w b (.returned (.tuple #[v, .int .i64 (used : Int)])) W' := by
  obtain ⟨vs, gs, ps, ho, hr, _, hs⟩ := h.ex
  rw [Frm.scan_none hn, List.append_nil, Nat.add_zero] at hs
  refine ⟨v, vs, gs, by rw [hs], ho.keep hb, ?_, h.below.trans (hb.mono h.below.size)⟩
  rw [hs]
  exact hr.keep (KeepsB.of hb)
theorem ScW.more {w W W' : World} {b : List Nat} {used : Nat} {v' : Value} {vs : List Value} {gs : List Nat} {ps : List (List Nat)} {g : Nat} {y : Value} {p : List Nat}
    (hle : used ≤ b.length) (hc : 8 * ps.length ≤ used) (hs : Frm.scanL b = (ps ++ (Frm.scanL (b.drop used)).1, used + (Frm.scanL (b.drop used)).2)) (hf : Frm.firstL (b.drop used) = some p)
    (ho : OwnV W' w.heap.size v' (vs ++ [y])) (hr : Rcs w.heap.size W vs gs ps) (hk : KeepsB W W') (hg : g ∉ gs) (hB : w.heap.size ≤ g) (hrc : Rc W g y p) (hb : Below w.heap.size w W') : ScW w b (used + (8 + p.length)) v' W' := by
  obtain ⟨h1, _⟩ := Frm.first_some hf
  rw [List.length_drop] at h1
  refine ⟨⟨vs ++ [y], gs ++ [g], ps ++ [p], ho, (hr.push hg hB hrc).keep hk, by simp; omega, ?_⟩, by omega, hb⟩
  rw [hs, Frm.scan_some hf, List.drop_drop]
  simp only [List.append_assoc, List.singleton_append, Prod.mk.injEq]
  exact ⟨trivial, by omega⟩
set_option maxRecDepth 100000 in
set_option maxHeartbeats 4000000 in
theorem scan_c (a : Option Addr) (len cap : Nat) (b : List Nat) (w : World) (h : Rd w a len b) (hlc : len ≤ cap) (hm : len ≤ 1000000000) (hcm : cap ≤ 9223372036854775807) :
    Calls Try.prog 51 #[.slice a len cap] w (ScanR w b) := by
  have hbl := h.1
  have HR := Lib.hid h
  have HBL := Lib.hid hbl
  have HS0 : Hid (ScW w b 0 (.slice none 0 0) w) := Lib.hid ⟨⟨[], [], [], OwnV.nil _ _, Rcs.nil _ _, by simp, by simp⟩, Nat.zero_le _, Below.refl _ _⟩
  clear h hbl
  go_enter Try.func51, Try.ntmps51
  go_wp2_with fail
  go_loopw [4, 5] (fun v i wr => ∃ used : Nat, used ≤ len ∧ i = .int .i64 used ∧ Hid (ScW w b used v wr)) (fun _ i _ => len - (intOf i).toNat)
  case atStart => exact ⟨0, Nat.zero_le _, rfl, HS0⟩
  case round =>
    clear HS0
    obtain ⟨used, hu, rfl, HS⟩ := hrel
    have kC := fun W => run_cutAt W a len cap used hu
    have HF := Lib.hid (first_c (sla a cap used) (len - used) (cap - used) (b.drop used) wr ((HR.out.below HS.out.below).cut cap used hu hlc) (by omega) (by omega))
    cases hf : Frm.firstL (b.drop used) with
    | none =>
      have HFN := Lib.hid hf
      unfold FirstR at HF
      rw [hf] at HF
      clear hf
      go_wp2_with fail
      refine HF.out.mono ?_
      rintro e w2 ⟨rfl, hb2⟩
      have HE := Lib.hid (HS.out.last HFN.out hb2)
      clear hb2 HS HFN HF
      go_wp2_with fail
      go_ret2
      exact HE.out
    | some p =>
      have HFP := Lib.hid hf
      have hfs := Frm.first_some hf
      rw [List.length_drop, HBL.out] at hfs
      have HPB := Lib.hid (show ∀ z ∈ p, z < 256 from by
        intro z hz
        rw [hfs.2.2.2.1] at hz
        exact HR.out.2.1 z (List.mem_of_mem_drop (List.mem_of_mem_drop (List.mem_of_mem_take hz))))
      have hpl : 8 + p.length ≤ len - used := hfs.1
      unfold FirstR at HF
      rw [hf] at HF
      simp only at HF
      clear hf hfs
      obtain ⟨n, hn⟩ : ∃ n, n = p.length := ⟨_, rfl⟩
      go_wp2_with fail
      refine HF.out.mono ?_
      rintro e w2 ⟨g, c, rfl, hc, hc2, ho2, hb2⟩
      obtain ⟨vs, gs, ps, hov, hrs, hcnt, hst⟩ := HS.out.ex
      obtain ⟨hg, hrc⟩ := rc_of ho2 HPB.out
      have HNG := Lib.hid (show g ∉ gs from fun hm => by have := (hrs.lt g hm).2; omega)
      have hgw : w.heap.size ≤ g := Nat.le_trans HS.out.below.size hg
      have HRC := Lib.hid hrc
      have HOV := Lib.hid (hov.keep hb2)
      have HRS := Lib.hid (hrs.keep (KeepsB.of hb2))
      have HST := Lib.hid hst
      have HB2 := Lib.hid (HS.out.below.trans (hb2.mono HS.out.below.size))
      have HCN := Lib.hid hcnt
      have hvl : vs.length + 1 ≤ 1000000000 := by rw [hrs.lv]; omega
      obtain ⟨A, hA⟩ : ∃ A, A = some (⟨g, 0, none⟩ : Addr) := ⟨_, rfl⟩
      rw [← hA, ← hn] at HRC
      rw [← hA, ← hn]
      rw [← hn] at hpl hc
      have HA := Lib.hid hA
      have HN := Lib.hid hn
      clear hA hn ho2 hg hrc hov hrs hst hcnt hb2 HF HS
      have hsz := HB2.out.size
      have k8 : ∀ W : World, (Instr.sliceAt 41 (.slice A (8 + n) c) (some (.int .i64 8)) none none).run Try.prog W = .ok (.slice (sla A c 8) n (c - 8)) W := fun W => by
        have h := run_cutAt W A (8 + n) c 8 (by omega)
        rw [show 8 + n - 8 = n by omega] at h
        exact h
      go_wp2_with (at_builtin; (refine wpList_pushV rfl _ _ rfl w.heap.size u4 vs (.slice (sla A c 8) n (c - 8)) rfl rfl HOV.out hsz rfl hvl ?_); intro v1 w1 hown1 hk1 hb1)
      have HM := Lib.hid (show ScW w b (used + (8 + n)) v1 w1 from by
        rw [HN.out]
        refine ScW.more (by rw [HBL.out]; exact hu) HCN.out HST.out HFP.out hown1 HRS.out hk1 HNG.out hgw ?_ (HB2.out.trans hb1)
        have := HRC.out
        exact this)
      clear hown1 hk1 hb1 HRC HOV HRS HST HB2 HCN
      go_roundw
      case rel => exact ⟨used + (8 + n), by omega, by go_num, HM⟩
      case measure => simp [intOf]; omega
end Go.Proofs.Ytihbgigledmliaa
