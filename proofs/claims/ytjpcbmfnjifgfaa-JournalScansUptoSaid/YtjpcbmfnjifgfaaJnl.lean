/-
  The walk over the statement of the records of any bytes.
-/
import Derived.Test.YtjpcbmfnjifgfaaJrs
import Derived.Test.YtjpcbmfnjifgfaaJna
namespace Go.Proofs.Ytjpcbmfnjifgfaa
open Go.RowKit
set_option linter.unusedVariables false
theorem cell_congr {W V : World} {h : Nat} (e : W.heap[h]? = V.heap[h]?) (i : Nat) : W.cell? ⟨h, i, none⟩ = V.cell? ⟨h, i, none⟩ := by
  unfold World.cell?
  simp only [e]
theorem setCell_row {W : World} {g : Nat} {cur : Array Value} {t : TypeId} {fr : Nat × Nat} (h : W.heap[g]? = some (.cells cur t fr)) (k : Nat) (v : Value) : (W.setCell ⟨g, k, none⟩ v).heap[g]? = some (.cells (cur.setIfInBounds k v) t fr) := by
  obtain ⟨hl, he⟩ := Array.getElem?_eq_some_iff.1 h
  unfold World.setCell
  simp [hl, Array.getElem_modify_self, he]
/-- but for the blocks of gs all stands -/
structure LawW (B1 : Nat) (W3 : World) (gs : List Nat) (W : World) : Prop where
  below : Below B1 W3 W
  oth : ∀ h, h ∉ gs → W.heap[h]? = W3.heap[h]?
theorem LawW.refl (B1 : Nat) (W3 : World) (gs : List Nat) : LawW B1 W3 gs W3 := ⟨Below.refl _ _, fun _ _ => rfl⟩
theorem LawW.set {B1 : Nat} {W3 W : World} {gs : List Nat} (h : LawW B1 W3 gs W) {g : Nat} (hg : g ∈ gs) (hB : B1 ≤ g) (k : Nat) (v : Value) : LawW B1 W3 gs (W.setCell ⟨g, k, none⟩ v) :=
  ⟨h.below.setCell hB v, fun x hx => (Below.heap_setCell W ⟨g, k, none⟩ v x (fun e => hx (by rw [show x = g from e]; exact hg))).trans (h.oth x hx)⟩
theorem LawW.drewN {B1 : Nat} {W3 W : World} {gs : List Nat} (h : LawW B1 W3 gs W) (q : Nat) : LawW B1 W3 gs (W.drewN q) := ⟨h.below.trans (below_drewN' _ _ _), fun x hx => h.oth x hx⟩
def RowsFrom (vs : List Value) (gs : List Nat) (ps : List (List Nat)) (W : World) (i : Nat) : Prop := ∀ (j : Nat) (v : Value) (g : Nat) (p : List Nat), i ≤ j → vs[j]? = some v → gs[j]? = some g → ps[j]? = some p → Rc W g v p
def RcK (W : World) (g : Nat) (p : List Nat) (k : Nat) : Prop := ∃ cur, W.heap[g]? = some (.cells cur 5 (0, 0)) ∧ 8 + p.length ≤ cur.size ∧ ∀ j, k ≤ j → j < p.length → cur[8 + j]? = some (.int .u8 ((p.getD j 0 : Nat) : Int))
theorem Rc.at0 {W : World} {g : Nat} {v : Value} {p : List Nat} (h : Rc W g v p) : RcK W g p 0 := by
  obtain ⟨c, cur, rfl, hh, hn, hm, hs, ht, hb⟩ := h
  refine ⟨cur, hh, by omega, fun j _ hj => ?_⟩
  have e := congrArg (fun l => l[j]?) ht
  simp only [List.getElem?_take, if_pos hj, List.getElem?_drop] at e
  rw [cellsOf_get p j hj, Array.getElem?_toList] at e
  exact e
theorem RcK.cell {W : World} {g : Nat} {p : List Nat} {k : Nat} (h : RcK W g p k) (hk : k < p.length) : W.cell? ⟨g, 8 + k, none⟩ = some (.int .u8 ((p.getD k 0 : Nat) : Int)) := by
  obtain ⟨cur, hh, hs, hc⟩ := h
  rw [cell_of_row W g (8 + k) cur _ _ hh]
  exact hc k (Nat.le_refl _) hk
theorem RcK.free {W : World} {g : Nat} {p : List Nat} {k : Nat} (h : RcK W g p k) (j : Nat) : W.frozen? ⟨g, j, none⟩ = false := by
  obtain ⟨cur, hh, _⟩ := h
  exact frozen_of_row W g j cur _ hh
theorem RcK.store {W : World} {g : Nat} {p : List Nat} {k : Nat} (h : RcK W g p k) (x : Value) : RcK (W.setCell ⟨g, 8 + k, none⟩ x) g p (k + 1) := by
  obtain ⟨cur, hh, hs, hc⟩ := h
  refine ⟨_, setCell_row hh _ _, by rw [Array.size_setIfInBounds]; exact hs, fun j hj hjl => ?_⟩
  rw [Array.getElem?_setIfInBounds_ne (by omega)]
  exact hc j (by omega) hjl
theorem RowsFrom.set {vs : List Value} {gs : List Nat} {ps : List (List Nat)} {W : World} {i g : Nat} (h : RowsFrom vs gs ps W (i + 1)) (hn : gs.Nodup) (hg : gs[i]? = some g) (k : Nat) (x : Value) : RowsFrom vs gs ps (W.setCell ⟨g, k, none⟩ x) (i + 1) := by
  intro j v g' p hj hv hg' hp
  obtain ⟨c, cur, h1, h2, h3⟩ := h j v g' p hj hv hg' hp
  refine ⟨c, cur, h1, ?_, h3⟩
  rw [Below.heap_setCell W ⟨g, k, none⟩ x g' ?_]
  · exact h2
  · intro e
    have e' : g' = g := e
    subst e'
    have hi := (List.getElem?_eq_some_iff.1 hg).1
    have := (List.getElem?_inj hi hn).1 (hg.trans hg'.symm)
    omega
theorem RowsFrom.drewN {vs : List Value} {gs : List Nat} {ps : List (List Nat)} {W : World} {i : Nat} (h : RowsFrom vs gs ps W i) (q : Nat) : RowsFrom vs gs ps (W.drewN q) i := h
theorem RcK.drewN {W : World} {g : Nat} {p : List Nat} {k : Nat} (h : RcK W g p k) (q : Nat) : RcK (W.drewN q) g p k := h
set_option maxRecDepth 100000 in
set_option maxHeartbeats 4000000 in
theorem jscans_c (a : Option Addr) (len cap : Nat) (b : List Nat) (w : World) (h : BytesIn w a len cap b) (hcap : cap ≤ 1000000000) :
    Calls Try.prog 9 #[.slice a len cap] w fun e w' => e = .returned (.bool true) ∧ Below w.heap.size w w' := by
  obtain ⟨hrd, hnil, hlc, _⟩ := h
  have hcm : cap ≤ 9223372036854775807 := by omega
  have HR := Lib.hid hrd
  have HTW := Lib.hid ((twin_c a len cap b w hrd (by omega)).mono (RetB.form hrd.2.1))
  clear hrd
  go_enter Try.func9, Try.ntmps9
  go_wp2_with fail
  refine HTW.out.mono ?_
  rintro e1 w1 ⟨a1, L1, c1, rfl, hl1, hlc1, hcm1, hn1, hr1, ho1, hb1⟩
  obtain rfl : len = L1 := by rw [← hl1, HR.out.1]
  have HR1 := Lib.hid hr1
  have HB1 := Lib.hid hb1
  have HSC := Lib.hid (scan_c a len cap b w1 (HR.out.below hb1) hlc (by omega) hcm)
  clear hl1 hlc1 hcm1 hn1 hr1 ho1 hb1 HTW
  go_wp2_with fail
  refine HSC.out.mono ?_
  rintro e2 w2 ⟨v, vs, gs, rfl, hov, hrs, hb2⟩
  have HB2 := Lib.hid hb2
  have HRS2 := Lib.hid hrs
  have HOV2 := Lib.hid hov
  have HB02 := Lib.hid (HB1.out.trans (hb2.mono HB1.out.size))
  have HRC := Lib.hid (rscan_c a len cap b w2 (HR.out.below HB02.out) hlc (by omega) hcm)
  clear hov hrs hb2 HSC
  obtain ⟨M, hM⟩ : ∃ M, M = (Frm.scanL b).2 := ⟨_, rfl⟩
  obtain ⟨ps, hps⟩ : ∃ ps, ps = (Frm.scanL b).1 := ⟨_, rfl⟩
  unfold RscanR at HRC
  rw [← hM, ← hps] at HRC
  rw [← hps] at HRS2
  rw [← hM]
  clear hM hps
  go_wp2_with fail
  refine HRC.out.mono ?_
  rintro e3 w3 ⟨v', vs', rfl, hov', hbz, hb3⟩
  have HB3 := Lib.hid (hb3.mono HB2.out.size)
  have HB03 := Lib.hid (HB1.out.trans ((HB2.out.trans (hb3.mono HB2.out.size)).mono HB1.out.size))
  have HRS := Lib.hid (HRS2.out.keep (KeepsB.of hb3))
  have HGL := Lib.hid (show ∀ g ∈ gs, w1.heap.size ≤ g ∧ g < w2.heap.size from HRS2.out.lt)
  have hov3 := HOV2.out.keep hb3
  have HGV := Lib.hid (show ∀ g ∈ gs, some g ≠ v.ownBlock from fun g hg => by
    obtain ⟨i, hi⟩ := List.mem_iff_getElem?.1 hg
    have hl := (List.getElem?_eq_some_iff.1 hi).1
    have h1 := HRS.out.lv
    have h2 := HRS.out.lg
    obtain ⟨_, c, cur, _, hh, _⟩ := HRS.out.rc i vs[i] g ps[i] (List.getElem?_eq_getElem (by omega)) hi (List.getElem?_eq_getElem (by omega))
    exact hov3.other hh)
  obtain ⟨aV, m, cV, rfl, hvm, hmc, hcV, hVF⟩ := hov3.form
  obtain ⟨aW, m', cW, rfl, hvm', hmc', hcW, hWF⟩ := hov'.form
  obtain rfl : m = m' := by rw [← hvm, ← hvm', HRS.out.lv, hbz.len]
  have HVM := Lib.hid hvm
  have HVF := Lib.hid hVF
  have HWF := Lib.hid hWF
  have HBZ := Lib.hid hbz
  have HPM := Lib.hid (show ps.length = m from by rw [← hvm, HRS.out.lv])
  have HST : Hid (LawW w1.heap.size w3 gs w3 ∧ RowsFrom vs gs ps w3 0) := Lib.hid ⟨LawW.refl _ _ _, fun j v g p _ h1 h2 h3 => (HRS.out.rc j v g p h1 h2 h3).2⟩
  have hm63 : m ≤ 9223372036854775807 := by omega
  clear hov' hbz hb3 hov3 hvm hVF hvm' hWF HRS2 HOV2 HRC
  go_wp2_with fail
  go_loopw [24] (fun i wr => ∃ k : Nat, k ≤ m ∧ i = .int .i64 k ∧ Hid (LawW w1.heap.size w3 gs wr ∧ RowsFrom vs gs ps wr k)) (fun i _ => m - (intOf i).toNat)
  case atStart => exact ⟨0, Nat.zero_le _, rfl, HST⟩
  case round =>
    clear HST
    obtain ⟨i, hi, rfl, HI⟩ := hrel
    by_cases him : i < m
    · obtain ⟨hv, rfl, _, hvlt, hvc⟩ := HVF.out.resolve_left (by omega)
      obtain ⟨hw, rfl, hwB, hwlt, hwc⟩ := HWF.out.resolve_left (by omega)
      have hil : i < ps.length := by rw [HPM.out]; exact him
      have hig : i < gs.length := by rw [HRS.out.lg]; exact hil
      have hiv : i < vs.length := by rw [HRS.out.lv]; exact hil
      have hiw : i < vs'.length := by rw [HBZ.out.len]; exact hil
      have hrc := HI.out.2 i vs[i] gs[i] ps[i] (Nat.le_refl _) (List.getElem?_eq_getElem hiv) (List.getElem?_eq_getElem hig) (List.getElem?_eq_getElem hil)
      have hrk := hrc.at0
      obtain ⟨aR, cR, hve, hnc, hcmR, hnilR, hRdR, haR⟩ := hrc.rd
      have hbzi := HBZ.out.at_ i vs'[i] ps[i] (List.getElem?_eq_getElem hiw) (List.getElem?_eq_getElem hil)
      obtain ⟨aB, nB, cB, hwe, hnB, hcB, hnilB, hlB, hbyB, hBB⟩ := hbzi
      have hvcell := hvc i _ (List.getElem?_eq_getElem hiv)
      have hwcell := hwc i _ (List.getElem?_eq_getElem hiw)
      rw [hve] at hvcell
      rw [hwe, ← hlB] at hwcell
      obtain ⟨g, hg⟩ : ∃ g, g = gs[i] := ⟨_, rfl⟩
      obtain ⟨p, hp⟩ : ∃ p, p = ps[i] := ⟨_, rfl⟩
      rw [← hp] at hvcell hwcell haR hlB hrk hnc
      rw [← hg] at haR hrk
      have HGI := Lib.hid (show gs[i]? = some g from by rw [hg]; exact List.getElem?_eq_getElem hig)
      have hgm : g ∈ gs := by rw [hg]; exact List.getElem_mem hig
      have HGM := Lib.hid hgm
      have HGB := Lib.hid (HGL.out g hgm)
      have hvg : hv ∉ gs := fun hm => HGV.out hv hm rfl
      have hwg : hw ∉ gs := fun hm => by have := (HGL.out hw hm).2; omega
      have HCV := Lib.hid (show ∀ W, LawW w1.heap.size w3 gs W → W.cell? ⟨hv, i, none⟩ = some (.slice aR p.length cR) from fun W hW => (cell_congr (hW.oth hv hvg) i).trans hvcell)
      have HCW := Lib.hid (show ∀ W, LawW w1.heap.size w3 gs W → W.cell? ⟨hw, i, none⟩ = some (.slice aB p.length cB) from fun W hW => (cell_congr (hW.oth hw hwg) i).trans hwcell)
      have HBB := Lib.hid (show p.length = 0 ∨ ∃ g off, aB = some ⟨g, off, none⟩ ∧ ∀ W, LawW w1.heap.size w3 gs W → ∀ k, k < p.length → W.cell? ⟨g, off + k, none⟩ = some (.int .u8 ((p.getD k 0 : Nat) : Int)) from by
        rw [hlB]
        refine hBB.imp id ?_
        rintro ⟨g', off, cur, fr, e1, e0, e2, e3⟩
        refine ⟨g', off, e1, fun W hW k hk => ?_⟩
        have hng : g' ∉ gs := fun hm => by have := (HGL.out g' hm).2; omega
        rw [cell_congr (hW.oth g' hng), cell_of_row w3 g' (off + k) cur _ _ e2, e3 k hk, hp])
      have HAR := Lib.hid haR
      obtain ⟨n, hn⟩ : ∃ n, n = p.length := ⟨_, rfl⟩
      rw [← hn] at HCV HCW HBB HAR hnc
      have HN := Lib.hid hn
      have hn63 : n ≤ 9223372036854775807 := by omega
      have HI2 : Hid (LawW w1.heap.size w3 gs wr ∧ RowsFrom vs gs ps wr (i + 1) ∧ RcK wr g p 0) := Lib.hid ⟨HI.out.1, fun j v g p hj => HI.out.2 j v g p (by omega), hrk⟩
      have hc1 := HCV.out wr HI.out.1
      clear hRdR hbyB hcmR hnB hcB hvc hwc hrc hrk hve hwe hnilR hnilB hlB hBB hvcell hwcell hg hp hgm hvg hwg haR hn HI hil hig hiv hiw
      go_wp2_with fail
      clear hc1
      go_loopw [32] (fun j wr => ∃ k : Nat, k ≤ n ∧ j = .int .i64 k ∧ Hid (LawW w1.heap.size w3 gs wr ∧ RowsFrom vs gs ps wr (i + 1) ∧ RcK wr g p k)) (fun j _ => n - (intOf j).toNat)
      case atStart => exact ⟨0, Nat.zero_le _, rfl, HI2⟩
      case round =>
        clear HI2
        obtain ⟨k, hk, rfl, HK⟩ := hrel
        by_cases hkn : k < n
        · obtain rfl := HAR.out (by omega)
          obtain ⟨gB, oB, rfl, hcB2⟩ := HBB.out.resolve_left (by omega)
          have c1 := HCV.out wr HK.out.1
          have c2 := HCW.out wr HK.out.1
          have c3 := HK.out.2.2.cell (by rw [← HN.out]; exact hkn)
          have c4 := hcB2 wr HK.out.1 k hkn
          obtain ⟨x, hx⟩ : ∃ x, x = p.getD k 0 := ⟨_, rfl⟩
          rw [← hx] at c3 c4
          have hfz := HK.out.2.2.free (8 + k)
          have HNX := Lib.hid (fun q (y : Value) => show LawW w1.heap.size w3 gs ((wr.drewN q).setCell ⟨g, 8 + k, none⟩ y) ∧ RowsFrom vs gs ps ((wr.drewN q).setCell ⟨g, 8 + k, none⟩ y) (i + 1) ∧ RcK ((wr.drewN q).setCell ⟨g, 8 + k, none⟩ y) g p (k + 1) from
            ⟨(HK.out.1.drewN q).set HGM.out HGB.out.1 _ _, (HK.out.2.1.drewN q).set HRS.out.nodup HGI.out _ _, (HK.out.2.2.drewN q).store y⟩)
          clear hx hcB2 HK
          go_wp2_with fail
          go_quiet (fail)
          go_wp2_with fail
          go_roundw
          case rel => exact ⟨k + 1, by omega, by go_num, Lib.hid (HNX.out nq _)⟩
          case measure => simp [intOf]; omega
        · have HE := Lib.hid (And.intro HK.out.1 HK.out.2.1)
          clear HK
          go_wp2_with fail
          go_roundw
          case rel => exact ⟨i + 1, by omega, by go_num, HE⟩
          case measure => simp [intOf]; omega
    · have HBW := Lib.hid (HB03.out.trans (HI.out.1.below.mono HB1.out.size))
      have HAW := Lib.hid (awake10_c wr)
      have HB1W := Lib.hid ((HB2.out.trans HB3.out).trans HI.out.1.below)
      clear HI
      go_wp2_with fail
      refine HAW.out.mono ?_
      rintro e4 w4 ⟨rfl, hb4⟩
      have HB4 := Lib.hid (HBW.out.trans (hb4.mono HBW.out.size))
      have HSM := Lib.hid (same_c a a1 len cap len c1 b b w4 (HR.out.below HB4.out) (HR1.out.below (HB1W.out.trans (hb4.mono HB1W.out.size))) (by omega))
      rw [decide_eq_true rfl] at HSM
      clear hb4 HAW
      go_wp2_with fail
      refine HSM.out.mono ?_
      rintro e5 w5 ⟨rfl, q, rfl⟩
      go_wp2_with fail
      go_ret
      exact ⟨rfl, HB4.out.trans (below_drewN' _ _ _)⟩
end Go.Proofs.Ytjpcbmfnjifgfaa
