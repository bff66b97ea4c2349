/-
  The walk over DigestSaves.
-/
import Derived.Test.YtealeefkeikcbabDoorPcs
namespace Go.Proofs.YtealeefkeikcbabDoor
open Go.RowKit
set_option linter.unusedVariables false
/-- a row of values that stands -/
def RowK (gb : Nat) (vs : List Value) (W : World) : Prop := gb < W.heap.size ∧ ∀ j u, vs[j]? = some u → W.cell? ⟨gb, j, none⟩ = some u
theorem RowK.below {gb : Nat} {vs : List Value} {W W' : World} (h : RowK gb vs W) (hb : Below W.heap.size W W') : RowK gb vs W' :=
  ⟨Nat.lt_of_lt_of_le h.1 hb.size, fun j u hu => (hb.cell (p := ⟨gb, j, none⟩) h.1).trans (h.2 j u hu)⟩
theorem RowK.only {gb g : Nat} {vs : List Value} {W W' : World} (h : RowK gb vs W) (ho : Only g W W') (hg : gb ≠ g) : RowK gb vs W' := by
  refine ⟨Nat.lt_of_lt_of_le h.1 ho.size, fun j u hu => ?_⟩
  rw [← h.2 j u hu]
  exact World.cell?_of_block (w := W) (a := ⟨gb, j, none⟩) (ho.block gb h.1 hg)
/-- a state and the document's, at one, beside a row of pieces -/
def DS (w : World) (g g7 gb : Nat) (vs : List Value) (hs tail : List Nat) (n : Nat) (va : Option Addr) (vl vc : Nat) (W : World) : Prop := DL w g g7 hs tail n va vl vc W ∧ RowK gb vs W
theorem DS.below {w W W' : World} {g g7 gb : Nat} {vs : List Value} {hs tail : List Nat} {n : Nat} {va : Option Addr} {vl vc : Nat} (h : DS w g g7 gb vs hs tail n va vl vc W) (hb : Below W.heap.size W W') : DS w g g7 gb vs hs tail n va vl vc W' := ⟨h.1.below hb, h.2.below hb⟩
theorem DS.drewN {w W : World} {g g7 gb : Nat} {vs : List Value} {hs tail : List Nat} {n : Nat} {va : Option Addr} {vl vc : Nat} (h : DS w g g7 gb vs hs tail n va vl vc W) (q : Nat) : DS w g g7 gb vs hs tail n va vl vc (W.drewN q) := h.below (below_drewN' _ _ _)
theorem DS.drew {w W : World} {g g7 gb : Nat} {vs : List Value} {hs tail : List Nat} {n : Nat} {va : Option Addr} {vl vc : Nat} (h : DS w g g7 gb vs hs tail n va vl vc W) : DS w g g7 gb vs hs tail n va vl vc W.drew := h.below (Below.refl _ _).drew
/-- the loop's word, of what came in so far -/
def DQ (w : World) (g g7 gb : Nat) (vs : List Value) (q : List Nat) (W : World) : Prop := ∃ va vl vc, DS w g g7 gb vs (Sha.run Sha.H0 q) (Sha.rest q) q.length va vl vc W ∧ (∀ b off, va = some ⟨b, off, none⟩ → b ≠ g) ∧ vl < 64 ∧ (va = none → vc = 0)
theorem rest_nil0 : Sha.rest [] = [] := rfl
set_option maxRecDepth 100000 in
theorem run_nil0 : Sha.run Sha.H0 [] = Sha.H0 := by rfl
theorem size_sl (W : World) : (Go.sizeOf 63).run Tryd.prog W = .ok 1 W := by kernel_rfl
theorem und_sls : Tryd.prog.underlying 77 = some (.slice (Tryd.prog.elem 77)) := by
  rw [show Tryd.prog.elem 77 = 63 by kernel_rfl]; exact Tryd.underlying77
theorem run_sindex (W : World) (b len cap i : Nat) (hi : i < len) :
    (Instr.indexAt 77 (.slice (some ⟨b, 0, none⟩) len cap) (.int .i64 (i : Int))).run Tryd.prog W = .ok (.pointer (some ⟨b, i, none⟩)) W := by
  rw [run_indexAt_slice W 77 ⟨b, 0, none⟩ len cap .i64 (i : Int) und_sls, show Tryd.prog.elem 77 = 63 by kernel_rfl, size_sl]
  have h1 : (0 : Int) ≤ (i : Int) ∧ (i : Int) < (len : Int) := by omega
  simp [Result.andThen, h1, Addr.add]
  omega
theorem OwnS.form {w : World} {B : Nat} {v : Value} {vs : List Value} (h : OwnS w B v vs) (hn : 0 < vs.length) : ∃ g cap, v = .slice (some ⟨g, 0, none⟩) vs.length cap ∧ B ≤ g ∧ g < w.heap.size := by
  have hb := h.block
  rcases h.2 with ⟨_, h0⟩ | ⟨g, cap, cur, hv, hg, _⟩
  · omega
  · refine ⟨g, cap, hv, hg, ?_⟩
    rw [hv] at hb
    exact (hb g rfl).2
theorem OwnS.rowK {w : World} {B gb cap n : Nat} {vs : List Value} (h : w.ownsRow B 63 1 (.slice (some ⟨gb, 0, none⟩) n cap) n vs) (hn : vs.length = n) (hg : gb < w.heap.size) : RowK gb vs w :=
  ⟨hg, fun j u hu => by
    have hj : j < vs.length := (List.getElem?_eq_some_iff.1 hu).1
    rw [World.ownsRow.cellAt h j (by omega), hu]⟩
set_option maxRecDepth 100000 in
set_option maxHeartbeats 4000000 in
theorem saves_c (a : Option Addr) (len cap : Nat) (zs : List Nat) (a1 : Option Addr) (len1 cap1 : Nat) (cs : List Int) (w : World) (r1 : BytesIn w a len cap zs) (r2 : IntsIn w a1 len1 cap1 cs) (ht : Tab w) :
    Calls Tryd.prog 12 #[.slice a len cap, .slice a1 len1 cap1] w fun e w' => e = .returned (.bool true) ∧ Below w.heap.size w w' := by
  have HT := Lib.hid ht
  have hpos := ht.pos
  have hzl : zs.length ≤ 140737488351232 := by have := r1.1.1; have := r1.2.2; omega
  have HPC := Lib.hid (fun W (hW : Below w.heap.size w W) => pieces_c a len cap zs a1 len1 cap1 cs w W r1 r2 hW)
  clear r1 r2 ht
  go_enter Tryd.func12, Tryd.ntmps12
  go_wp2_with fail
  refine (awake2_c w HT.out).mono ?_
  rintro e0 w0 ⟨rfl, hb0⟩
  have HB0 := Lib.hid hb0
  have hs0 := hb0.size
  clear hb0
  go_wp2_with fail
  refine (new_c w0).mono ?_
  rintro e1 w1 ⟨g, rfl, hgw, hst, hb1⟩
  have HST := Lib.hid (show StM w1 g Sha.H0 [] 0 from ⟨_, hst, rfl⟩)
  have hg1 : g < w1.heap.size := hst.lt
  have HBc := Lib.hid (HB0.out.trans (hb1.mono hs0))
  clear hst hb1 HB0
  go_wp2_with fail
  refine (rnew_c w1).mono ?_
  rintro e2 w2 ⟨v, rfl, hov, hb2⟩
  obtain ⟨va, vl, vc, rfl, hvl, hvc, hvm, hvn, hvr, hvo⟩ := hov.form (by simp)
  have hvl64 : vl < 64 := by rw [← hvl]; decide
  have HVN := Lib.hid hvn
  obtain ⟨g7, hg7⟩ : ∃ g7, g7 = w2.heap.size := ⟨_, rfl⟩
  have hgg : g < g7 := by rw [hg7]; have := hb2.size; omega
  have HW8 := Lib.hid Sha.W8.H0
  have HI := Lib.hid (rs_info (H := Sha.H0) (n := 0) (v := .slice va vl vc) HW8.out.1)
  have HZ := Lib.hid (rs_size (H := zs8w) (H' := Sha.H0) (n := 0) (n' := 0) (v := nilv) (v' := .slice va vl vc) (by simp [zs8w]) HW8.out.1)
  have HB2 := Lib.hid (HBc.out.trans (hb2.mono HBc.out.size))
  have HLY := Lib.hid (fun (V : Obj) (hV : V = .cells (rsCells zs8w 0 nilv).toArray 88 (0, 0)) => show DL w g w2.heap.size Sha.H0 [] 0 va vl vc ((w2.alloc V).setRow w2.heap.size (rsCells Sha.H0 0 (.slice va vl vc)).toArray) from (by
    subst hV
    have hb := ((Below.refl w2.heap.size w2).alloc (Nat.le_refl _) (.cells (rsCells zs8w 0 nilv).toArray 88 (0, 0))).setRow (Nat.le_refl _) (rsCells Sha.H0 0 (.slice va vl vc)).toArray
    have hs1 := hb.size
    exact ⟨(HST.out.below hb2 hg1).below hb (by have := hb2.size; omega), by have := hb2.size; omega, ⟨setRow_heap _ _ _ _ _ _ (heap_new _ _), HW8.out.1⟩, hvr.below hb, HB2.out.trans (hb.mono HB2.out.size)⟩))
  have HVB := Lib.hid (show ∀ b off, va = some ⟨b, off, none⟩ → b ≠ g from by
    intro b' off hb'
    rcases hvo.2 with ⟨h0, _⟩ | ⟨gb, cp, cur, hv, hgb, _⟩
    · simp only [Value.slice.injEq] at h0; rw [h0.1] at hb'; cases hb'
    · simp only [Value.slice.injEq] at hv; rw [hv.1] at hb'; cases hb'; omega)
  clear hov hvl hvc hvm hvn hvr hb2 HST HBc hvo
  go_upto_region 4 with (first | (refine wpList_store_row (by rfl) 88 _ _ (by rfl) w2.heap.size (rsCells Sha.H0 0 (.slice va vl vc)).toArray (by rfl) (by rfl) 88 (rsCells zs8w 0 nilv).toArray (by exact heap_new _ _) HI.out HZ.out (rsCells_one _ _ _ _ _) ?_))
  refine gen_code (F := DL w g g7 Sha.H0 [] 0 va vl vc) (by rw [hg7]; exact HLY.out _ rfl) ?_
  intro w3 h3
  have HD3 := Lib.hid h3
  have hg73 := h3.2.2.1.lt
  rw [← hg7]
  clear h3 HLY hg7 HB2
  go_wp2_with fail
  refine (HPC.out _ HD3.out.2.2.2.2).mono ?_
  rintro e4 w4 ⟨v, vs, zss, rfl, hov4, hpcs, hv0, hv41, hfl, hb4⟩
  obtain ⟨gb, cb, rfl, hgb, hgb2⟩ := OwnS.form hov4 hv0
  have HRW := Lib.hid (OwnS.rowK hov4 rfl hgb2)
  have HD4 := Lib.hid (HD3.out.below hb4)
  have HPS := Lib.hid hpcs
  have HFL := Lib.hid hfl
  have hbg : gb ≠ g := by omega
  have hb7 : gb ≠ g7 := by omega
  have HD := Lib.hid (show DQ w g g7 gb vs [] w4 from ⟨va, vl, vc, ⟨HD4.out, HRW.out⟩, HVB.out, hvl64, HVN.out⟩)
  obtain ⟨m, hm⟩ : ∃ m, m = vs.length := ⟨_, rfl⟩
  rw [← hm] at hv0 hv41 ⊢
  have HM := Lib.hid hm
  clear hov4 hpcs hfl hb4 HRW HD4 HD3 hm HVB HVN hvl64 HI HZ
  go_wp2_with fail
  go_loopw [17] (fun i wr => ∃ k : Nat, k ≤ m ∧ i = .int .i64 k ∧ Hid (DQ w g g7 gb vs (zss.take k).flatten wr)) (fun i _ => m - (intOf i).toNat)
  case atStart => exact ⟨0, Nat.zero_le _, rfl, HD.out⟩
  case round =>
    obtain ⟨k, hk, rfl, HQ⟩ := hrel
    by_cases hkm : k < m
    · obtain ⟨va, vl, vc, hD, hVB, hvl64, hVN⟩ := HQ.out
      have HS := Lib.hid hD
      have HVB := Lib.hid hVB
      have HVN := Lib.hid hVN
      obtain ⟨q, hq⟩ : ∃ q, q = (zss.take k).flatten := ⟨_, rfl⟩
      obtain ⟨z, hz⟩ : ∃ z, z = zss.getD k [] := ⟨_, rfl⟩
      have HQZ := Lib.hid (show (zss.take (k + 1)).flatten = q ++ z from by
        have hkl : k < zss.length := by rw [← HPS.out.1, ← HM.out]; exact hkm
        rw [hq, hz, List.take_succ_eq_append_getElem hkl, List.flatten_append, List.getD_eq_getElem?_getD, List.getElem?_eq_getElem hkl]
        simp)
      have HQL := Lib.hid (show q.length + z.length ≤ zs.length from by
        have e : zs = (zss.take (k + 1)).flatten ++ (zss.drop (k + 1)).flatten := by rw [← List.flatten_append, List.take_append_drop, HFL.out]
        rw [e, HQZ.out]
        simp only [List.length_append]; omega)
      obtain ⟨pa, pn, pc, hpv, hpr, hpnc, hpcm, hpnil⟩ := HPS.out.2 k (by rw [← HM.out]; exact hkm)
      rw [← hz] at hpr
      have hcell : wr.cell? ⟨gb, k, none⟩ = some (.slice pa pn pc) := by
        refine HS.out.2.2 k _ ?_
        rw [← hpv, List.getD_eq_getElem?_getD, List.getElem?_eq_getElem (by rw [← HM.out]; exact hkm)]
        rfl
      have HPR := Lib.hid hpr
      have hpn : pn = z.length := hpr.1.symm
      rw [← hq] at HS
      have hql := HQL.out
      obtain ⟨hs, hhs⟩ : ∃ hs, hs = Sha.run Sha.H0 q := ⟨_, rfl⟩
      obtain ⟨tail, htl⟩ : ∃ tail, tail = Sha.rest q := ⟨_, rfl⟩
      obtain ⟨n, hn⟩ : ∃ n, n = q.length := ⟨_, rfl⟩
      rw [← hhs, ← htl, ← hn] at HS
      have HW8 := Lib.hid (show Sha.W8 hs from by rw [hhs]; exact Sha.W8.H0.run _)
      obtain ⟨hs2, hhs2⟩ : ∃ x, x = Sha.run hs (tail ++ z) := ⟨_, rfl⟩
      obtain ⟨tail2, htl2⟩ : ∃ x, x = Sha.rest (tail ++ z) := ⟨_, rfl⟩
      obtain ⟨n2, hn2⟩ : ∃ x, x = n + pn := ⟨_, rfl⟩
      have HE := Lib.hid (show hs2 = Sha.run Sha.H0 (q ++ z) ∧ tail2 = Sha.rest (q ++ z) ∧ n2 = (q ++ z).length from by
        rw [hhs2, htl2, hn2, hhs, htl, hn, (Sha.run_run Sha.H0 q z).1, (Sha.run_run Sha.H0 q z).2, List.length_append, hpn]
        exact ⟨rfl, rfl, rfl⟩)
      have hn2m : n2 ≤ 140737488351232 := by omega
      have hnm : n ≤ 140737488351232 := by omega
      have HW2 := Lib.hid (show Sha.W8 hs2 from by rw [hhs2]; exact HW8.out.run _)
      have HTB2 := Lib.hid (show ∀ x ∈ tail2, x < 256 from by
        rw [htl2]; intro x hx
        rcases List.mem_append.1 (List.mem_of_mem_drop hx) with h | h
        · exact HS.out.1.2.2.2.1.2.1 x h
        · exact HPR.out.2.1 x h)
      have HTL2 := Lib.hid (show tail2.length < 64 from by rw [htl2, Sha.rest_len]; exact Nat.mod_lt _ (by omega))
      have hgw' : w.heap.size ≤ g := by omega
      have HWR := Lib.hid (write_c wr g hs tail n HS.out.1.1 pa pn pc z (HPR.out.below HS.out.1.2.2.2.2) hpnc (by omega) (by omega) (HPR.out.blk g hgw') (HT.out.below HS.out.1.2.2.2.2 hpos) (by omega))
      rw [← hhs2, ← htl2, ← hn2] at HWR
      have kI := fun W => run_sindex W gb m cb k hkm
      have hpm : n + pn ≤ 140737488351232 := by omega
      have HHH := Lib.hid (And.intro hhs2 (And.intro htl2 hn2))
      clear hD hVB hVN hpr hpv hhs htl hz hq HQ hhs2 htl2 hn2 hn hpn hql
      go_wp2_with fail
      refine HWR.out.mono ?_
      rintro e5 w5 ⟨rfl, hst5, ho5⟩
      have HST5 := Lib.hid hst5
      have hg5 : g < w5.heap.size := by
        obtain ⟨_, h, _⟩ := hst5
        exact h.lt
      have HRS5 := Lib.hid (HS.out.1.2.2.1.only ho5 (by omega))
      have HRD5 := Lib.hid (ho5.rd HS.out.1.2.2.2.1 HVB.out)
      have HB5 := Lib.hid (HS.out.1.2.2.2.2.trans (ho5.below hgw' HS.out.1.2.2.2.2.size))
      have HRK5 := Lib.hid (HS.out.2.only ho5 hbg)
      have HWRT := Lib.hid (rwrite_c hs tail z n va pa vl vc pn pc w5 HW8.out HRD5.out hvl64 (HPR.out.below HB5.out) (by omega) (by omega))
      rw [← HHH.out.1, ← HHH.out.2.1, ← HHH.out.2.2] at HWRT
      have HI2 := Lib.hid (rs_info (H := hs) (n := n) (v := .slice va vl vc) HW8.out.1)
      clear hst5 ho5 HS HWR HHH hcell kI
      go_wp2_with (first | (refine wpList_load_row (by rfl) 88 (.tmp 6) (by rfl) g7 (by rfl) _ (rsCells hs n (.slice va vl vc)).toArray (0, 0) _ HRS5.out.row Tryd.underlying88 (by rfl) HI2.out ?_))
      refine HWRT.out.mono ?_
      rintro e6 w6 ⟨v2, rfl, hov2, hb6⟩
      obtain ⟨va2, vl2, vc2, rfl, hvl2, hvc2, hvm2, hvn2, hvr2, _⟩ := hov2.form HTB2.out
      have hvl64' : vl2 < 64 := by rw [← hvl2]; exact HTL2.out
      have HVN2 := Lib.hid hvn2
      have HI3 := Lib.hid (rs_info (H := hs2) (n := n2) (v := .slice va2 vl2 vc2) HW2.out.1)
      have HZ3 := Lib.hid (rs_size (H := hs) (H' := hs2) (n := n) (n' := n2) (v := .slice va vl vc) (v' := .slice va2 vl2 vc2) HW8.out.1 HW2.out.1)
      have HRS6 := Lib.hid (HRS5.out.below hb6 HRS5.out.lt)
      have HOB := Lib.hid (show ∀ x, x < w5.heap.size → ∀ b off, va2 = some ⟨b, off, none⟩ → b ≠ x from by
        intro x hx b' off hb'
        rcases hov2.2 with ⟨h0, _⟩ | ⟨gb', cp, cur, hv, hgb', _⟩
        · simp only [Value.slice.injEq] at h0; rw [h0.1] at hb'; cases hb'
        · simp only [Value.slice.injEq] at hv; rw [hv.1] at hb'; cases hb'; omega)
      have HVB2 := Lib.hid (HOB.out g hg5)
      have HFI := Lib.hid (show DS w g g7 gb vs hs2 tail2 n2 va2 vl2 vc2 (w6.setRow g7 (rsCells hs2 n2 (.slice va2 vl2 vc2)).toArray) from by
        have ho : Only g7 w6 (w6.setRow g7 (rsCells hs2 n2 (.slice va2 vl2 vc2)).toArray) := (Only.refl _ _).setRow _
        have hst6 := HST5.out.below hb6 hg5
        have hg7l := HRS5.out.lt
        have hsz6 := hb6.size
        refine ⟨⟨?_, ?_, HRS6.out.setAll HW2.out.1, ?_, ?_⟩, (HRK5.out.below hb6).only ho hb7⟩
        · obtain ⟨bs, h1, h2⟩ := hst6
          exact ⟨bs, h1.only ho (by omega), h2⟩
        · have := (ho.below (Nat.zero_le _) (Nat.zero_le _)).size; omega
        · exact ho.rd hvr2 (HOB.out g7 hg7l)
        · exact (HB5.out.trans (hb6.mono HB5.out.size)).trans (ho.below (by omega) (by have := HB5.out.size; omega)))
      clear hov2 hvl2 hvc2 hvm2 hvn2 hvr2 HRS5 HRD5 HST5 HWRT hb6 HRK5 HOB
      go_upto_region 10 with (first | (refine wpList_store_row (by rfl) 88 _ _ (by rfl) g7 (rsCells hs2 n2 (.slice va2 vl2 vc2)).toArray (by rfl) (by rfl) 88 (rsCells hs n (.slice va vl vc)).toArray HRS6.out.row HI3.out HZ3.out (rsCells_one _ _ _ _ _) ?_))
      refine gen_code (F := DS w g g7 gb vs hs2 tail2 n2 va2 vl2 vc2) HFI.out ?_
      intro w8 h8
      have HS := Lib.hid h8.drew
      clear h8 HFI HRS6
      (try dsimp only [Act.put, List.setIfInBounds_toArray, List.set_cons_zero, List.set_cons_succ])
      obtain ⟨X, hX⟩ : ∃ X, X = saved hs2 tail2 n2 := ⟨_, rfl⟩
      have HXB := Lib.hid (show ∀ x ∈ X, x < 256 from by rw [hX]; exact saved_byte _ _ _ HTB2.out)
      have HXL := Lib.hid (show X.length ≤ 9223372036854775807 from by have := HTL2.out; rw [hX]; simp only [saved, List.length_append, bytesOf_len, Numm.put_len, HW2.out.1]; omega)
      have HSA := Lib.hid (show ∀ W, DS w g g7 gb vs hs2 tail2 n2 va2 vl2 vc2 W → Calls Tryd.prog 45 #[.pointer (some ⟨g, 0, none⟩)] W (RetR W.heap.size W X) from fun W hW => by
        have h := save_c W g _ _ _ hW.1.1
        rw [← hX] at h
        exact h.mono (RetB.form HXB.out))
      have HRS := Lib.hid (show ∀ W, DS w g g7 gb vs hs2 tail2 n2 va2 vl2 vc2 W → Calls Tryd.prog 51 #[.agg (rsCells hs2 n2 (.slice va2 vl2 vc2)).toArray] W (RetR W.heap.size W X) from fun W hW => by
        have h := rsave_c hs2 tail2 n2 va2 vl2 vc2 W HW2.out hW.1.2.2.2.1 hvl64' HVN2.out (by omega)
        rw [← hX] at h
        exact h.mono (RetB.form HXB.out))
      have HSM := Lib.hid (show ∀ W fa ga fn gn fc gc, Rd W fa fn X → Rd W ga gn X → fn ≤ 9223372036854775807 → Calls Tryd.prog 50 #[.slice fa fn fc, .slice ga gn gc] W (RetD (.bool true) W) from fun W fa ga fn gn fc gc h1 h2 h3 => by
        have h := same_c fa ga fn fc gn gc X X W h1 h2 h3
        rwa [decide_eq_true rfl] at h)
      have HLR := Lib.hid (fun W (hW : DS w g g7 gb vs hs2 tail2 n2 va2 vl2 vc2 W) => load_rs W g7 hs2 n2 _ hW.1.2.2.1)
      clear hX
      refine anyH_begin (S := DS w g g7 gb vs hs2 tail2 n2 va2 vl2 vc2) (by kernel_rfl) ?_
      refine anyH_pureG 0 (d := 28) (op := .move (.tmp 5)) (gd := none) (.pointer (some ⟨g, 0, none⟩)) (by rfl) (fun o ho => wanted_plain ho _) (by kernel_rfl) (by kernel_rfl) (by kernel_rfl) (fun _ _ _ h => h) (fun o ho W hW => by unfold execOp; simp only [ho]; go_simp) HS.out ?_
      simp only [Act.put, List.setIfInBounds_toArray, List.set_cons_zero, List.set_cons_succ]
      refine anyH_loadG 2 (d := 30) (ty := 88) (x := (.tmp 6)) (gd := none) (p := .pointer (some ⟨g7, 0, none⟩)) (.agg (rsCells hs2 n2 (.slice va2 vl2 vc2)).toArray) (by rfl) (fun o ho => wanted_plain ho _) (by kernel_rfl) (by kernel_rfl) (by kernel_rfl) (fun _ _ _ h => h) (by rfl) HLR.out HS.out ?_
      simp only [Act.put, List.setIfInBounds_toArray, List.set_cons_zero, List.set_cons_succ]
      refine anyH_callG 1 (d := some 29) (f := 45) (xs := #[(.tmp 28)]) (ts := #[75]) (gd := none) (vs := #[.pointer (some ⟨g, 0, none⟩)]) (by kernel_rfl) (by rfl) (fun o ho => wanted_plain ho _) (by go_simp) (by go_simp) (HSA.out _ HS.out) ?_
      rintro e94 w94 ⟨fa, fn, fc, rfl, hfl, _, _, _, hfr, _, hb94⟩
      refine ⟨_, rfl, HS.out.below hb94, fun hS94 => ?_⟩
      have HS := Lib.hid hS94
      have HF := Lib.hid hfr
      have HFL := Lib.hid hfl
      clear hS94 hfr hfl hb94
      simp only [Act.put, List.setIfInBounds_toArray, List.set_cons_zero, List.set_cons_succ]
      refine anyH_callG 3 (d := some 31) (f := 51) (xs := #[(.tmp 30)]) (ts := #[88]) (gd := none) (vs := #[.agg (rsCells hs2 n2 (.slice va2 vl2 vc2)).toArray]) (by kernel_rfl) (by rfl) (fun o ho => wanted_plain ho _) (by go_simp) (by go_simp) (HRS.out _ HS.out) ?_
      rintro e95 w95 ⟨ga, gn, gc, rfl, hgl, _, _, _, hgr, _, hb95⟩
      refine ⟨_, rfl, HS.out.below hb95, fun hS95 => ?_⟩
      have HS := Lib.hid hS95
      have HG := Lib.hid hgr
      have HGL := Lib.hid hgl
      have HF := Lib.hid (HF.out.below hb95)
      clear hS95 hgr hgl hb95
      simp only [Act.put, List.setIfInBounds_toArray, List.set_cons_zero, List.set_cons_succ]
      refine anyH_callG 4 (d := some 32) (f := 50) (xs := #[(.tmp 29), (.tmp 31)]) (ts := #[63, 63]) (gd := none) (vs := #[.slice fa fn fc, .slice ga gn gc]) (by kernel_rfl) (by rfl) (fun o ho => wanted_plain ho _) (by go_simp) (by go_simp) (HSM.out _ fa ga fn gn fc gc HF.out HG.out (by rw [← HFL.out]; exact HXL.out)) ?_
      rintro e96 w96 ⟨rfl, q96, rfl⟩
      refine ⟨_, rfl, HS.out.drewN q96, fun hS96 => ?_⟩
      have HS := Lib.hid hS96
      clear hS96 
      simp only [Act.put, List.setIfInBounds_toArray, List.set_cons_zero, List.set_cons_succ]
      refine anyH_pureG 5 (d := 33) (op := .unOp .not 4 (.tmp 32)) (gd := none) (.bool false) (by rfl) (fun o ho => wanted_plain ho _) (by kernel_rfl) (by kernel_rfl) (by kernel_rfl) (fun _ _ _ h => h) (fun o ho W hW => by unfold execOp; simp only [ho]; go_simp) HS.out ?_
      simp only [Act.put, List.setIfInBounds_toArray, List.set_cons_zero, List.set_cons_succ]
      refine wpAnyH_done (by kernel_rfl) ?_ _
      have HN := Lib.hid (show DQ w g g7 gb vs (zss.take (k + 1)).flatten _ from by
        rw [HQZ.out]
        refine ⟨va2, vl2, vc2, ?_, HVB2.out, hvl64', HVN2.out⟩
        rw [← HE.out.1, ← HE.out.2.1, ← HE.out.2.2]
        exact HS.out)
      clear HSA HRS HSM HLR HS HF HG
      go_wp2
      go_roundw
      case rel => exact ⟨k + 1, by omega, by go_num, HN.out⟩
      case measure => simp [intOf]; omega
    · obtain ⟨va, vl, vc, hD, _, hvl64, _⟩ := HQ.out
      have HS0 := Lib.hid hD
      obtain ⟨hs, hhs⟩ : ∃ hs, hs = Sha.run Sha.H0 (zss.take k).flatten := ⟨_, rfl⟩
      obtain ⟨tail, htl⟩ : ∃ tail, tail = Sha.rest (zss.take k).flatten := ⟨_, rfl⟩
      obtain ⟨n, hn⟩ : ∃ n, n = (zss.take k).flatten.length := ⟨_, rfl⟩
      rw [← hhs, ← htl, ← hn] at HS0
      have HW8 := Lib.hid (show Sha.W8 hs from by rw [hhs]; exact Sha.W8.H0.run _)
      have hnm : n ≤ 140737488351232 := by
        have e : zs = (zss.take k).flatten ++ (zss.drop k).flatten := by rw [← List.flatten_append, List.take_append_drop, HFL.out]
        have e2 := congrArg List.length e
        rw [List.length_append, ← hn] at e2
        omega
      obtain ⟨S, hS⟩ : ∃ S, S = Sha.close hs tail n := ⟨_, rfl⟩
      have HSD := Lib.hid (show D32 S from by rw [hS]; unfold Sha.close; exact ⟨by rw [bytesOf_len, (HW8.out.run _).1], bytesOf_byte _⟩)
      have HSU := Lib.hid (show ∀ W, DS w g g7 gb vs hs tail n va vl vc W → Calls Tryd.prog 47 #[.pointer (some ⟨g, 0, none⟩)] W (DigRet S W) from fun W hW => by rw [hS]; exact ssum_c W g _ _ _ hW.1.1 (HT.out.below hW.1.2.2.2.2 hpos))
      have HCL := Lib.hid (show ∀ W, DS w g g7 gb vs hs tail n va vl vc W → Calls Tryd.prog 52 #[.agg (rsCells hs n (.slice va vl vc)).toArray] W (DigRet S W) from fun W hW => by rw [hS]; exact rclose_c hs tail n va vl vc W HW8.out hW.1.2.2.2.1 hvl64 (by omega))
      have HLR := Lib.hid (fun W (hW : DS w g g7 gb vs hs tail n va vl vc W) => load_rs W g7 hs n _ hW.1.2.2.1)
      have HES := Lib.hid (fun W => show (Op.equalIn 10000 25 (.agg (cellsOf S).toArray) (.agg (cellsOf S).toArray)).run Tryd.prog W = .ok true W from by
        simpa using eq_dig 25 32 Tryd.underlying25 W S S HSD.out.1 HSD.out.1 HSD.out.2 HSD.out.2)
      have HGT := Lib.hid (show Tryd.prog.eqGuardType Tryd.prog.depth 25 = false by kernel_rfl)
      clear hS hhs htl hn hD HQ
      go_upto_region 13 with fail
      refine gen_code (F := DS w g g7 gb vs hs tail n va vl vc) (show DS w g g7 gb vs hs tail n va vl vc _ from HS0.out) ?_
      intro w8 h8
      have HS := Lib.hid h8.drew
      clear h8 HS0
      (try dsimp only [Act.put, List.setIfInBounds_toArray, List.set_cons_zero, List.set_cons_succ])
      refine anyH_begin (S := DS w g g7 gb vs hs tail n va vl vc) (by kernel_rfl) ?_
      refine anyH_pureG 0 (d := 35) (op := .move (.tmp 5)) (gd := none) (.pointer (some ⟨g, 0, none⟩)) (by rfl) (fun o ho => wanted_plain ho _) (by kernel_rfl) (by kernel_rfl) (by kernel_rfl) (fun _ _ _ h => h) (fun o ho W hW => by unfold execOp; simp only [ho]; go_simp) HS.out ?_
      simp only [Act.put, List.setIfInBounds_toArray, List.set_cons_zero, List.set_cons_succ]
      refine anyH_loadG 2 (d := 37) (ty := 88) (x := (.tmp 6)) (gd := none) (p := .pointer (some ⟨g7, 0, none⟩)) (.agg (rsCells hs n (.slice va vl vc)).toArray) (by rfl) (fun o ho => wanted_plain ho _) (by kernel_rfl) (by kernel_rfl) (by kernel_rfl) (fun _ _ _ h => h) (by rfl) HLR.out HS.out ?_
      simp only [Act.put, List.setIfInBounds_toArray, List.set_cons_zero, List.set_cons_succ]
      refine anyH_callG 1 (d := some 36) (f := 47) (xs := #[(.tmp 35)]) (ts := #[75]) (gd := none) (vs := #[.pointer (some ⟨g, 0, none⟩)]) (by kernel_rfl) (by rfl) (fun o ho => wanted_plain ho _) (by go_simp) (by go_simp) (HSU.out _ HS.out) ?_
      rintro e92 w92 ⟨rfl, hb92⟩
      refine ⟨_, rfl, HS.out.below hb92, fun hS92 => ?_⟩
      have HS := Lib.hid hS92
      clear hS92 hb92
      simp only [Act.put, List.setIfInBounds_toArray, List.set_cons_zero, List.set_cons_succ]
      refine anyH_callG 3 (d := some 38) (f := 52) (xs := #[(.tmp 37)]) (ts := #[88]) (gd := none) (vs := #[.agg (rsCells hs n (.slice va vl vc)).toArray]) (by kernel_rfl) (by rfl) (fun o ho => wanted_plain ho _) (by go_simp) (by go_simp) (HCL.out _ HS.out) ?_
      rintro e93 w93 ⟨rfl, hb93⟩
      refine ⟨_, rfl, HS.out.below hb93, fun hS93 => ?_⟩
      have HS := Lib.hid hS93
      clear hS93 hb93
      simp only [Act.put, List.setIfInBounds_toArray, List.set_cons_zero, List.set_cons_succ]
      refine anyH_eqG 4 (d := 39) (t := 25) (t' := 25) (x := (.tmp 36)) (y := (.tmp 38)) (gd := none) ((cellsOf S).toArray) ((cellsOf S).toArray) true (by rfl) (fun o ho => wanted_plain ho _) (by kernel_rfl) (by kernel_rfl) (by kernel_rfl) (fun _ _ _ h => h) (by rfl) (by rfl) HGT.out (fun W => HES.out W) HS.out ?_
      simp only [Act.put, List.setIfInBounds_toArray, List.set_cons_zero, List.set_cons_succ]
      refine anyH_pureG 5 (d := 4) (op := .assign (.tmp 39)) (gd := none) (.bool true) (by rfl) (fun o ho => wanted_plain ho _) (by kernel_rfl) (by kernel_rfl) (by kernel_rfl) (fun _ _ _ h => h) (fun o ho W hW => by unfold execOp; simp only [ho]; go_simp) HS.out ?_
      simp only [Act.put, List.setIfInBounds_toArray, List.set_cons_zero, List.set_cons_succ]
      refine wpAnyH_done (by kernel_rfl) ?_ _
      go_wp2
      go_ret
      exact ⟨rfl, HS.out.1.2.2.2.2⟩
end Go.Proofs.YtealeefkeikcbabDoor
