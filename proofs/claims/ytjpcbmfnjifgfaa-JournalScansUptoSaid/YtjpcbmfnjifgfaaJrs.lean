/-
  The walk over the document's Scan.
-/
import Derived.Test.YtjpcbmfnjifgfaaJrf
namespace Go.Proofs.Ytjpcbmfnjifgfaa
open Go.RowKit
set_option linter.unusedVariables false
/-- bytes in a block of bytes -/
def Bz (B : Nat) (W : World) (v : Value) (p : List Nat) : Prop := ∃ a n c, v = .slice a n c ∧ n ≤ c ∧ c ≤ 9223372036854775807 ∧ (a = none → c = 0) ∧ p.length = n ∧ (∀ z ∈ p, z < 256) ∧ (n = 0 ∨ ∃ g off cur fr, a = some ⟨g, off, none⟩ ∧ B ≤ g ∧ W.heap[g]? = some (.cells cur 5 fr) ∧ ∀ i, i < n → cur[off + i]? = some (.int .u8 ((p.getD i 0 : Nat) : Int)))
theorem Bz.keep {B : Nat} {W W' : World} {v : Value} {p : List Nat} (h : Bz B W v p) (hk : KeepsB W W') : Bz B W' v p := by
  obtain ⟨a, n, c, h1, h2, h3, h4, h5, h6, h7⟩ := h
  refine ⟨a, n, c, h1, h2, h3, h4, h5, h6, h7.imp id ?_⟩
  rintro ⟨g, off, cur, fr, e1, e0, e2, e3⟩
  exact ⟨g, off, cur, fr, e1, e0, hk g cur fr e2, e3⟩
theorem Bz.rd {B : Nat} {W : World} {v : Value} {p : List Nat} (h : Bz B W v p) : ∃ a n c, v = .slice a n c ∧ n ≤ c ∧ c ≤ 9223372036854775807 ∧ (a = none → c = 0) ∧ Rd W a n p := by
  obtain ⟨a, n, c, h1, h2, h3, h4, h5, h6, h7⟩ := h
  refine ⟨a, n, c, h1, h2, h3, h4, h5, h6, h7.imp id ?_⟩
  rintro ⟨g, off, cur, fr, e1, e0, e2, e3⟩
  refine ⟨g, off, e1, (Array.getElem?_eq_some_iff.1 e2).1, fun i hi => ?_⟩
  rw [cell_of_row W g (off + i) cur _ _ e2]
  exact e3 i hi
theorem bz_own {W : World} {B : Nat} {a : Option Addr} {L c : Nat} {p : List Nat} (h : Own W B (.slice a L c) p) (hl : p.length = L) (hb : ∀ z ∈ p, z < 256) (hn : a = none → c = 0) : Bz B W (.slice a L c) p := by
  rcases h.2 with ⟨h0, h1⟩ | ⟨g, cap, cur, hv, hBg, hh, hnc, hcm, hs, ht⟩
  · obtain ⟨e1, e2, e3⟩ := Value.slice.inj h0
    subst e1 e2 e3
    exact ⟨none, 0, 0, rfl, by omega, by omega, fun _ => rfl, hl, hb, .inl rfl⟩
  · obtain ⟨e1, e2, e3⟩ := Value.slice.inj hv
    subst e1 e3
    refine ⟨_, L, c, rfl, by omega, hcm, fun e => (by cases e), hl, hb, .inr ⟨g, 0, cur, (0, 0), rfl, hBg, hh, fun i hi => ?_⟩⟩
    have e := congrArg (fun l => l[i]?) ht
    simp only [Nat.mul_one, List.getElem?_take] at e
    rw [if_pos (by omega), cellsOf_get p i (by omega), Array.getElem?_toList] at e
    rw [Nat.zero_add]
    exact e
structure Bzs (B : Nat) (W : World) (vs : List Value) (ps : List (List Nat)) : Prop where
  len : vs.length = ps.length
  at_ : ∀ (i : Nat) (v : Value) (p : List Nat), vs[i]? = some v → ps[i]? = some p → Bz B W v p
theorem Bzs.nil (B : Nat) (W : World) : Bzs B W [] [] := ⟨rfl, fun i v p h => by simp at h⟩
theorem Bzs.keep {B : Nat} {W W' : World} {vs : List Value} {ps : List (List Nat)} (h : Bzs B W vs ps) (hk : KeepsB W W') : Bzs B W' vs ps := ⟨h.len, fun i v p a b => (h.at_ i v p a b).keep hk⟩
theorem Bzs.push {B : Nat} {W : World} {vs : List Value} {ps : List (List Nat)} (h : Bzs B W vs ps) {v : Value} {p : List Nat} (hb : Bz B W v p) : Bzs B W (vs ++ [v]) (ps ++ [p]) where
  len := by simp [h.len]
  at_ := fun i u q hu hq => by
    have h1 := h.len
    by_cases hi : i < ps.length
    · rw [List.getElem?_append_left (by omega)] at hu hq
      exact h.at_ i u q hu hq
    · rw [List.getElem?_append_right (by omega)] at hu hq
      have hz : i - ps.length = 0 := by
        have := (List.getElem?_eq_some_iff.1 hq).1
        simp at this
        omega
      rw [h1, hz] at hu
      rw [hz] at hq
      simp at hu hq
      subst hu hq
      exact hb
structure RsW (w : World) (b : List Nat) (used : Nat) (v : Value) (W : World) : Prop where
  ex : ∃ vs ps, OwnV W w.heap.size v vs ∧ Bzs w.heap.size W vs ps ∧ 8 * ps.length ≤ used ∧ Frm.scanL b = (ps ++ (Frm.scanL (b.drop used)).1, used + (Frm.scanL (b.drop used)).2)
  le : used ≤ b.length
  below : Below w.heap.size w W
def RscanR (w : World) (b : List Nat) (e : Ending) (w' : World) : Prop :=
  ∃ v vs, e = .returned (.tuple #[v, .int .i64 (((Frm.scanL b).2 : Nat) : Int)]) ∧ OwnV w' w.heap.size v vs ∧ Bzs w.heap.size w' vs (Frm.scanL b).1 ∧ Below w.heap.size w w'
theorem RsW.step {w W W' : World} {b : List Nat} {used : Nat} {v : Value} (h : RsW w b used v W) (hb : Below W.heap.size W W') : RsW w b used v W' := by
  obtain ⟨vs, ps, ho, hr, hc, hs⟩ := h.ex
  exact ⟨⟨vs, ps, ho.keep hb, hr.keep (KeepsB.of hb), hc, hs⟩, h.le, h.below.trans (hb.mono h.below.size)⟩
theorem RsW.last {w W : World} {b : List Nat} {used : Nat} {v : Value} (h : RsW w b used v W) (hn : Frm.firstL (b.drop used) = none) : RscanR w b (.returned (.tuple #[v, .int .i64 (used : Int)])) W := by
  obtain ⟨vs, ps, ho, hr, _, hs⟩ := h.ex
  rw [Frm.scan_none hn, List.append_nil, Nat.add_zero] at hs
  exact ⟨v, vs, by rw [hs], ho, by rw [hs]; exact hr, h.below⟩
theorem RsW.more {w W W' : World} {b : List Nat} {used : Nat} {v' : Value} {vs : List Value} {ps : List (List Nat)} {y : Value} {p : List Nat}
    (hle : used ≤ b.length) (hc : 8 * ps.length ≤ used) (hs : Frm.scanL b = (ps ++ (Frm.scanL (b.drop used)).1, used + (Frm.scanL (b.drop used)).2)) (hf : Frm.firstL (b.drop used) = some p)
    (ho : OwnV W' w.heap.size v' (vs ++ [y])) (hr : Bzs w.heap.size W vs ps) (hk : KeepsB W W') (hrc : Bz w.heap.size W y p) (hb : Below w.heap.size w W') : RsW w b (used + (8 + p.length)) v' W' := by
  obtain ⟨h1, _⟩ := Frm.first_some hf
  rw [List.length_drop] at h1
  refine ⟨⟨vs ++ [y], ps ++ [p], ho, (hr.push hrc).keep hk, by simp; omega, ?_⟩, by omega, hb⟩
  rw [hs, Frm.scan_some hf, List.drop_drop]
  simp only [List.append_assoc, List.singleton_append, Prod.mk.injEq]
  exact ⟨trivial, by omega⟩
theorem word_take (b : List Nat) (h : 4 ≤ b.length) : Numm.num 0 (b.take 4) = Frm.wordL b := by
  match b, h with
  | x :: y :: z :: t :: r, _ => rfl
set_option maxRecDepth 100000 in
set_option maxHeartbeats 4000000 in
theorem rscan_c (a : Option Addr) (len cap : Nat) (b : List Nat) (w : World) (h : Rd w a len b) (hlc : len ≤ cap) (hm : len ≤ 1000000000) (hcm : cap ≤ 9223372036854775807) :
    Calls Try.prog 38 #[.slice a len cap] w (RscanR w b) := by
  have hbl := h.1
  have HR := Lib.hid h
  have HBL := Lib.hid hbl
  have HS0 : Hid (RsW w b 0 (.slice none 0 0) w) := Lib.hid ⟨⟨[], [], OwnV.nil _ _, Bzs.nil _ _, by simp, by simp⟩, Nat.zero_le _, Below.refl _ _⟩
  clear h hbl
  go_enter Try.func38, Try.ntmps38
  go_wp2_with fail
  go_loopw [4, 5] (fun v i wr => ∃ used : Nat, used ≤ len ∧ i = .int .i64 used ∧ Hid (RsW w b used v wr)) (fun _ i _ => len - (intOf i).toNat)
  case atStart => exact ⟨0, Nat.zero_le _, rfl, HS0⟩
  case round =>
    clear HS0
    obtain ⟨used, hu, rfl, HS⟩ := hrel
    by_cases h8 : len - used < 8
    · have HFN := Lib.hid (show Frm.firstL (b.drop used) = none from Frm.first_short (by rw [List.length_drop, HBL.out]; exact h8))
      have i1 : ¬ (len : Int) - (used : Int) ≥ 8 := by omega
      have HE := Lib.hid (HS.out.last HFN.out)
      go_wp2_with fail
      go_ret2
      exact HE.out
    · have i1 : (len : Int) - (used : Int) ≥ 8 := by omega
      obtain ⟨n, hn⟩ : ∃ n, n = Frm.wordL (b.drop used) := ⟨_, rfl⟩
      have hdl : (b.drop used).length = len - used := by rw [List.length_drop, HBL.out]
      have hrw := (HR.out.below HS.out.below).cut cap used hu hlc
      have HRW := Lib.hid hrw
      have HG := Lib.hid (refGet_c (sla a cap used) 4 (cap - used) ((b.drop used).take 4) wr (hrw.take 4 (by omega)) (by omega))
      rw [word_take _ (by omega), ← hn] at HG
      have HN32 := Lib.hid (show n < 4294967296 from by
        have h1 := Numm.num_lt ((b.drop used).take 4) (fun z hz => hrw.2.1 z (List.mem_of_mem_take hz))
        rw [word_take _ (by omega), ← hn, List.length_take, hdl, Nat.min_eq_left (by omega)] at h1
        exact h1)
      have kM : ∀ W : World, (Instr.sliceAt 30 (.slice a len cap) (some (.int .i64 (used : Int))) (some (.int .i64 ((used : Int) + 4))) none).run Try.prog W = .ok (.slice (sla a cap used) 4 (cap - used)) W := fun W => by
        have h1 := run_midAt W a len cap used (used + 4) (by omega) (by omega)
        rw [show used + 4 - used = 4 by omega, show (((used + 4 : Nat) : Nat) : Int) = (used : Int) + 4 by omega] at h1
        exact h1
      by_cases hbig : 1048576 < n
      · have HFN := Lib.hid (show Frm.firstL (b.drop used) = none from Frm.first_none fun hk => by have := hk.2.1; omega)
        have i2 : (n : Int) > 1048576 := by omega
        have HE := Lib.hid (HS.out.last HFN.out)
        clear hn hrw hdl HFN HS
        go_wp2_with fail
        refine HG.out.mono ?_
        rintro e w2 ⟨rfl, rfl⟩
        go_wp2_with fail
        go_ret2
        exact HE.out
      · have i2 : ¬ (n : Int) > 1048576 := by omega
        have hwu : IntKind.u64.wrap ((len : Int) - (used : Int) - 8) = (len : Int) - (used : Int) - 8 := by
          have := wrap_u64_nat (len - used - 8) (by omega)
          rw [show ((len - used - 8 : Nat) : Int) = (len : Int) - (used : Int) - 8 by omega] at this
          exact this
        by_cases hsh : len - used - 8 < n
        · have HFN := Lib.hid (show Frm.firstL (b.drop used) = none from Frm.first_none fun hk => by have := hk.2.2.1; omega)
          have i3 : (n : Int) > (len : Int) - (used : Int) - 8 := by omega
          have HE := Lib.hid (HS.out.last HFN.out)
          clear hn hrw hdl HFN HS
          go_wp2_with fail
          refine HG.out.mono ?_
          rintro e w2 ⟨rfl, rfl⟩
          go_wp2_with fail
          go_ret2
          exact HE.out
        · have i3 : ¬ (n : Int) > (len : Int) - (used : Int) - 8 := by omega
          obtain ⟨p, hp⟩ : ∃ p, p = ((b.drop used).drop 8).take n := ⟨_, rfl⟩
          have HRP := Lib.hid (show Rd wr (sla a cap (used + 8)) n p from by
            have h1 := ((HR.out.below HS.out.below).cut cap (used + 8) (by omega) hlc).take n (by omega)
            rw [hp, List.drop_drop]; exact h1)
          have HRB := Lib.hid (show Rd wr (sla a cap used) (8 + n) ((b.drop used).take (8 + n)) from hrw.take (8 + n) (by omega))
          have hpl : p.length = n := HRP.out.1
          have HFL := Lib.hid (show Frm.firstL (b.drop used) = if Frm.frameL p = (b.drop used).take (8 + n) then some p else none from by
            unfold Frm.firstL
            by_cases hf : Frm.frameL p = (b.drop used).take (8 + n)
            · rw [if_pos hf, if_pos ⟨by omega, by omega, by omega, by rw [← hn, ← hp]; exact hf⟩, ← hn, ← hp]
            · rw [if_neg hf, if_neg fun hk => hf (by have := hk.2.2.2; rw [← hn, ← hp] at this; exact this)])
          have HPB := Lib.hid HRP.out.2.1
          have HFB := Lib.hid (Frm.frame_byte p HRP.out.2.1)
          have HFN := Lib.hid (show (Frm.frameL p).length = 8 + n from by rw [Frm.frame_len, hpl])
          have HPL := Lib.hid hpl
          have HTW := Lib.hid ((twin_c _ n (cap - (used + 8)) p wr HRP.out (by omega)).mono (RetB.form HRP.out.2.1))
          have kN : ∀ W : World, (Instr.sliceAt 30 (.slice a len cap) (some (.int .i64 ((used : Int) + 8))) (some (.int .i64 ((used : Int) + 8 + (n : Int)))) none).run Try.prog W = .ok (.slice (sla a cap (used + 8)) n (cap - (used + 8))) W := fun W => by
            have h1 := run_midAt W a len cap (used + 8) (used + 8 + n) (by omega) (by omega)
            rw [show used + 8 + n - (used + 8) = n by omega, show (((used + 8 + n : Nat) : Nat) : Int) = (used : Int) + 8 + (n : Int) by omega, show (((used + 8 : Nat) : Nat) : Int) = (used : Int) + 8 by omega] at h1
            exact h1
          have kP : ∀ W : World, (Instr.sliceAt 30 (.slice a len cap) (some (.int .i64 (used : Int))) (some (.int .i64 ((used : Int) + 8 + (n : Int)))) none).run Try.prog W = .ok (.slice (sla a cap used) (8 + n) (cap - used)) W := fun W => by
            have h1 := run_midAt W a len cap used (used + 8 + n) (by omega) (by omega)
            rw [show used + 8 + n - used = 8 + n by omega, show (((used + 8 + n : Nat) : Nat) : Int) = (used : Int) + 8 + (n : Int) by omega] at h1
            exact h1
          have q0 : used + 8 + n ≤ len := by omega
          clear hn hrw hdl hp hpl HRW HRP
          go_wp2_with fail
          refine HG.out.mono ?_
          rintro e w1 ⟨rfl, rfl⟩
          go_wp2_with fail
          refine HTW.out.mono ?_
          rintro e w2 ⟨a2, L2, c2, rfl, hl2, hlc2, hcm2, hn2, hr2, ho2, hb2⟩
          obtain rfl : n = L2 := by rw [← hl2, HPL.out]
          have HBZ2 := Lib.hid (bz_own (own_base ho2 HS.out.below.size) hl2 HPB.out hn2)
          have HS2 := Lib.hid (HS.out.step hb2)
          have HRB2 := Lib.hid (HRB.out.below hb2)
          have HFR := Lib.hid ((rframe_c a2 n c2 p w2 hr2 hn2 (by omega)).mono (RetB.form HFB.out))
          clear hl2 hlc2 hcm2 hn2 hr2 ho2 hb2 HS HRB HTW HG
          go_wp2_with fail
          refine HFR.out.mono ?_
          rintro e w3 ⟨a3, L3, c3, rfl, hl3, hlc3, hcm3, hn3, hr3, ho3, hb3⟩
          obtain rfl : L3 = 8 + n := by rw [← hl3, HFN.out]
          have HBZ3 := Lib.hid (HBZ2.out.keep (KeepsB.of hb3))
          have HS3 := Lib.hid (HS2.out.step hb3)
          have HEQ := Lib.hid (same_c a3 (sla a cap used) (8 + n) c3 (8 + n) (cap - used) _ _ w3 hr3 (HRB2.out.below hb3) (by omega))
          clear hl3 hlc3 hcm3 hn3 hr3 ho3 hb3 HS2 HBZ2 HRB2 HFR HFB HFN
          by_cases hf : Frm.frameL p = (b.drop used).take (8 + n)
          · have HFS := Lib.hid (show Frm.firstL (b.drop used) = some p from by rw [HFL.out, if_pos hf])
            rw [decide_eq_true hf] at HEQ
            clear hf HFL
            obtain ⟨vs, ps, hov, hrs, hcnt, hst⟩ := HS3.out.ex
            have hvl : vs.length + 1 ≤ 1000000000 := by rw [hrs.len]; omega
            have HRS := Lib.hid hrs
            have HST := Lib.hid hst
            have HCN := Lib.hid hcnt
            have HOV := Lib.hid (fun q => show OwnV (w3.drewN q) w.heap.size u4 vs from hov.keep (below_drewN' _ _ q))
            have HB3 := Lib.hid HS3.out.below
            have hsz : ∀ q, w.heap.size ≤ (w3.drewN q).heap.size := fun q => HB3.out.size
            clear hrs hst hcnt hov HS3
            go_wp2_with fail
            refine HEQ.out.mono ?_
            rintro e w4 ⟨rfl, q, rfl⟩
            go_wp2_with (at_builtin; (refine wpList_pushV rfl _ _ rfl w.heap.size u4 vs (.slice a2 n c2) rfl rfl (HOV.out q) (hsz q) rfl hvl ?_); intro v1 w1 hown1 hk1 hb1)
            have HM := Lib.hid (show RsW w b (used + (8 + n)) v1 w1 from by
              rw [← HPL.out]
              refine RsW.more (W := w3.drewN q) (by rw [HBL.out]; exact hu) HCN.out HST.out HFS.out hown1 (HRS.out.keep (KeepsB.of (below_drewN' _ _ q))) hk1 (HBZ3.out.keep (KeepsB.of (below_drewN' _ _ q))) ((HB3.out.trans (below_drewN' _ _ q)).trans hb1))
            clear hown1 hk1 hb1 HRS HOV HST HCN HB3 HBZ3 hsz
            go_roundw
            case rel => exact ⟨used + (8 + n), by omega, by go_num, HM⟩
            case measure => simp [intOf]; omega
          · have HFS := Lib.hid (show Frm.firstL (b.drop used) = none from by rw [HFL.out, if_neg hf])
            rw [decide_eq_false hf] at HEQ
            have HE := Lib.hid (fun q => (HS3.out.step (below_drewN' _ w3 q)).last HFS.out)
            clear hf HFL HS3
            go_wp2_with fail
            refine HEQ.out.mono ?_
            rintro e w4 ⟨rfl, q, rfl⟩
            go_wp2_with fail
            go_ret2
            exact HE.out q
end Go.Proofs.Ytjpcbmfnjifgfaa
