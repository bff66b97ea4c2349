/-
  The walk over DigestParts.
-/
import Derived.Test.YtealeefkeikcbabDoorDsv
namespace Go.Proofs.YtealeefkeikcbabDoor
open Go.RowKit
set_option linter.unusedVariables false
theorem at4 (hs x : List Nat) : ∀ i, i < hs.length → ((Sha.bytesOf hs ++ x).drop (4 * i)).take 4 = Numm.put (hs.getD i 0) 4 := by
  induction hs with
  | nil => intro i hi; simp at hi
  | cons h hs ih =>
    intro i hi
    have e : Sha.bytesOf (h :: hs) ++ x = Numm.put h 4 ++ (Sha.bytesOf hs ++ x) := by simp [Sha.bytesOf]
    have hl : (Numm.put h 4).length = 4 := Numm.put_len _ _
    rw [e]
    cases i with
    | zero => rw [Nat.mul_zero, List.drop_zero, List.take_append_of_le_length (by omega), List.take_of_length_le (by omega)]; rfl
    | succ i =>
      rw [show 4 * (i + 1) = (Numm.put h 4).length + 4 * i by omega, ← List.drop_drop, List.drop_left, ih i (by simpa using hi)]
      rfl
theorem wordsAt_saved (hs tail : List Nat) (n : Nat) (h8 : Sha.W8 hs) : wordsAt (saved hs tail n) = hs := by
  have hsl : (saved hs tail n).length = 40 + tail.length := by simp only [saved, List.length_append, bytesOf_len, Numm.put_len, h8.1]
  unfold wordsAt
  refine List.ext_getElem (by simp [h8.1]) fun i h1 h2 => ?_
  have hi : i < 8 := by simpa using h1
  rw [List.getElem_map, List.getElem_range, ← four_of _ _ (by omega), saved, List.append_assoc, at4 hs _ i (by rw [h8.1]; exact hi), Numm.num_put, List.getD_eq_getElem?_getD, List.getElem?_eq_getElem h2, Option.getD_some]
  exact Nat.mod_eq_of_lt (h8.2 _ (List.getElem_mem _))
theorem tailAt_saved (hs tail : List Nat) (n : Nat) (h8 : Sha.W8 hs) : (saved hs tail n).drop 40 = tail := by
  have h : (Sha.bytesOf hs ++ Numm.put n 8).length = 40 := by rw [List.length_append, bytesOf_len, Numm.put_len, h8.1]
  unfold saved
  rw [← h, List.drop_left]
theorem numAt_saved (hs tail : List Nat) (n : Nat) (h8 : Sha.W8 hs) (hn : n < 18446744073709551616) : numAt (saved hs tail n) = n := by
  have h : (Sha.bytesOf hs).length = 32 := by rw [bytesOf_len, h8.1]
  unfold numAt saved
  rw [List.append_assoc, ← h, List.drop_left, List.take_append_of_le_length (by rw [Numm.put_len]; omega), List.take_of_length_le (by rw [Numm.put_len]; omega), Numm.num_put]
  exact Nat.mod_eq_of_lt hn
/-- yes and no that came in -/
def BoolsIn (W : World) (a : Option Addr) (len cap : Nat) (B : Nat → Bool) : Prop :=
  (a = none → cap = 0) ∧ len ≤ cap ∧ cap ≤ 9223372036854775807 ∧ (len = 0 ∨ ∃ b off, a = some ⟨b, off, none⟩ ∧ b < W.heap.size ∧ ∀ i, i < len → W.cell? ⟨b, off + i, none⟩ = some (.bool (B i)))
theorem size_bool (W : World) : (Go.sizeOf 4).run Tryd.prog W = .ok 1 W := by kernel_rfl
theorem und_bools : Tryd.prog.underlying 74 = some (.slice (Tryd.prog.elem 74)) := by
  rw [show Tryd.prog.elem 74 = 4 by kernel_rfl]; exact Tryd.underlying74
theorem run_bindex (W : World) (b o len cap i : Nat) (hi : i < len) :
    (Instr.indexAt 74 (.slice (some ⟨b, o, none⟩) len cap) (.int .i64 (i : Int))).run Tryd.prog W = .ok (.pointer (some ⟨b, o + i, none⟩)) W := by
  rw [run_indexAt_slice W 74 ⟨b, o, none⟩ len cap .i64 (i : Int) und_bools, show Tryd.prog.elem 74 = 4 by kernel_rfl, size_bool]
  have h1 : (0 : Int) ≤ (i : Int) ∧ (i : Int) < (len : Int) := by omega
  simp [Result.andThen, h1, Addr.add]
section
variable {P : Program} {ops : Array Oper} {Q : Exit → Act → World → Prop} {md : Region.Mode} {S : World → Prop}
theorem anyH_neqD (i : Nat) {d : Nat} {t t' : TypeId} {x y : Operand} {gd : Option (Nat × Bool)} (xs ys : Array Value) (b : Bool) {fuel : Nat} {listed : Array Bool} {a : Act} {w : World}
    (hi : (ops[i]?.map fun o => (o.dst, o.op, o.guard)) = some (some d, Op.binOp .neq t x y t', gd)) (hw : ∀ o : Oper, o.guard = gd → Region.wanted o (yielded ops a.tmps) = true) (hs : Region.noSelect ops = true) (hf : Region.free md ops listed i = true) (hr : (Region.ready md ops listed).contains i = true)
    (hQ : ∀ c a w, Q (.panic c) (a.put (some d) (.bool !b)) w → Q (.panic c) a w) (hx : a.eval x = .agg xs) (hy : a.eval y = .agg ys) (hm : P.eqGuardType P.depth t = false)
    (hrun : ∀ W, (Op.equalIn 10000 t (.agg xs) (.agg ys)).run P W = .ok b W) (hS : S w)
    (h : wpAnyH P md ops Q S fuel (listed.setIfInBounds i true) (a.put (some d) (.bool !b)) w) : wpAnyH P md ops Q S (fuel + 1) listed a w :=
  anyH_pureG i (.bool !b) hi hw hs hf hr hQ (fun o ho W hW => by
    unfold execOp
    simp only [ho, hx, hy, Sem.run_bind, run_eqGuard_agg W .neq t x y xs ys hm, run_neq_struct, hrun W, Result.andThen_ok, Sem.run_pure]) hS h
end
/-- a state beside a row of pieces -/
def PB (w : World) (g gb : Nat) (vs : List Value) (hs tail : List Nat) (n : Nat) (W : World) : Prop := StM W g hs tail n ∧ g < W.heap.size ∧ RowK gb vs W ∧ Below w.heap.size w W
theorem PB.below {w W W' : World} {g gb : Nat} {vs : List Value} {hs tail : List Nat} {n : Nat} (h : PB w g gb vs hs tail n W) (hb : Below W.heap.size W W') : PB w g gb vs hs tail n W' :=
  ⟨h.1.below hb h.2.1, Nat.lt_of_lt_of_le h.2.1 hb.size, h.2.2.1.below hb, h.2.2.2.trans (hb.mono h.2.2.2.size)⟩
theorem PB.drew {w W : World} {g gb : Nat} {vs : List Value} {hs tail : List Nat} {n : Nat} (h : PB w g gb vs hs tail n W) : PB w g gb vs hs tail n W.drew := h.below (Below.refl _ _).drew
theorem PB.only {w W W' : World} {g g1 gb : Nat} {vs : List Value} {hs tail : List Nat} {n : Nat} (h : PB w g gb vs hs tail n W) (ho : Only g1 W W') (h1 : g ≠ g1) (h2 : gb ≠ g1) (h3 : w.heap.size ≤ g1) : PB w g gb vs hs tail n W' := by
  refine ⟨?_, Nat.lt_of_lt_of_le h.2.1 ho.size, h.2.2.1.only ho h2, h.2.2.2.trans (ho.below h3 h.2.2.2.size)⟩
  obtain ⟨bs, h4, h5⟩ := h.1
  exact ⟨bs, h4.only ho h1, h5⟩
theorem StM.lt {w : World} {g : Nat} {hs tail : List Nat} {n : Nat} (h : StM w g hs tail n) : g < w.heap.size := by
  obtain ⟨_, h1, _⟩ := h
  exact h1.lt
set_option maxRecDepth 100000 in
set_option maxHeartbeats 1000000 in
theorem parts_c (a : Option Addr) (len cap : Nat) (zs : List Nat) (a1 : Option Addr) (len1 cap1 : Nat) (cs : List Int) (aS : Option Addr) (lS cS : Nat) (B : Nat → Bool) (w : World) (r1 : BytesIn w a len cap zs) (r2 : IntsIn w a1 len1 cap1 cs) (r3 : BoolsIn w aS lS cS B) (ht : Tab w) :
    Calls Tryd.prog 11 #[.slice a len cap, .slice a1 len1 cap1, .slice aS lS cS] w fun e w' => e = .returned (.bool true) ∧ Below w.heap.size w w' := by
  have HT := Lib.hid ht
  have hpos := ht.pos
  have hlc := r1.2.2.1
  have hcm := r1.2.2.2
  have hcm63 : cap ≤ 9223372036854775807 := by omega
  have HR := Lib.hid r1.1
  have HZL := Lib.hid (show zs.length = len from r1.1.1)
  have HBO := Lib.hid r3.2.2.2
  have HPC := Lib.hid (fun W (hW : Below w.heap.size w W) => pieces_c a len cap zs a1 len1 cap1 cs w W r1 r2 hW)
  clear r1 r2 r3 ht
  go_enter Tryd.func11, Tryd.ntmps11
  go_wp2_with fail
  refine (awake2_c w HT.out).mono ?_
  rintro e0 w0 ⟨rfl, hb0⟩
  have HB0 := Lib.hid hb0
  have hs0 := hb0.size
  clear hb0
  go_wp2_with fail
  refine (new_c w0).mono ?_
  rintro e1 w1 ⟨g0, rfl, hgw, hst, hb1⟩
  have HST := Lib.hid (show StM w1 g0 Sha.H0 [] 0 from ⟨_, hst, rfl⟩)
  have hg1 : g0 < w1.heap.size := hst.lt
  have HBc := Lib.hid (HB0.out.trans (hb1.mono hs0))
  clear hst hb1 HB0
  go_wp2_with fail
  refine (HPC.out _ HBc.out).mono ?_
  rintro e4 w4 ⟨v, vs, zss, rfl, hov4, hpcs, hv0, hv41, hfl, hb4⟩
  obtain ⟨gb, cb, rfl, hgb, hgb2⟩ := OwnS.form hov4 hv0
  have HRW := Lib.hid (OwnS.rowK hov4 rfl hgb2)
  have HPS := Lib.hid hpcs
  have HFL := Lib.hid hfl
  have hbg : gb ≠ g0 := by omega
  have HD := Lib.hid (show PB w g0 gb vs (Sha.run Sha.H0 ([] : List Nat)) (Sha.rest ([] : List Nat)) ([] : List Nat).length w4 from by rw [run_nil0]; exact ⟨HST.out.below hb4 hg1, Nat.lt_of_lt_of_le hg1 hb4.size, HRW.out, HBc.out.trans (hb4.mono HBc.out.size)⟩)
  have hg0w : w.heap.size ≤ g0 := by omega
  obtain ⟨m, hm⟩ : ∃ m, m = vs.length := ⟨_, rfl⟩
  rw [← hm] at hv0 hv41 ⊢
  have HM := Lib.hid hm
  clear hov4 hpcs hfl hb4 HRW hm HST HBc
  go_wp2_with fail
  go_loopw [7, 8, 20] (fun sv at_ i wr => ∃ k : Nat, k ≤ m ∧ i = .int .i64 k ∧ ∃ g, sv = .pointer (some ⟨g, 0, none⟩) ∧ w.heap.size ≤ g ∧ gb ≠ g ∧ at_ = .int .i64 (((zss.take k).flatten.length : Nat) : Int) ∧ Hid (PB w g gb vs (Sha.run Sha.H0 (zss.take k).flatten) (Sha.rest (zss.take k).flatten) (zss.take k).flatten.length wr)) (fun _ _ i _ => m - (intOf i).toNat)
  case atStart => exact ⟨0, Nat.zero_le _, rfl, g0, rfl, hg0w, hbg, rfl, HD.out⟩
  case round =>
    clear HD hg0w hbg hgw hg1
    obtain ⟨k, hk, rfl, g, rfl, hgw, hgb', hat, HQ⟩ := hrel
    obtain ⟨q, hq⟩ : ∃ q, q = (zss.take k).flatten := ⟨_, rfl⟩
    obtain ⟨n, hn⟩ : ∃ n, n = q.length := ⟨_, rfl⟩
    have HS := Lib.hid HQ.out
    rw [← hq, ← hn] at HS
    rw [← hq, ← hn] at hat
    subst hat
    clear HQ
    by_cases hkm : k < m
    · obtain ⟨z, hz⟩ : ∃ z, z = zss.getD k [] := ⟨_, rfl⟩
      have HQZ := Lib.hid (show (zss.take (k + 1)).flatten = q ++ z from by
        have hkl : k < zss.length := by rw [← HPS.out.1, ← HM.out]; exact hkm
        rw [hq, hz, List.take_succ_eq_append_getElem hkl, List.flatten_append, List.getD_eq_getElem?_getD, List.getElem?_eq_getElem hkl]
        simp)
      have HZS := Lib.hid (show zs = (q ++ z) ++ (zss.drop (k + 1)).flatten from by rw [← HQZ.out, ← List.flatten_append, List.take_append_drop, HFL.out])
      have hql : q.length + z.length ≤ len := by
        rw [← HZL.out, HZS.out]
        simp only [List.length_append]; omega
      obtain ⟨pa, pn, pc, hpv, hpr, hpnc, hpcm, hpnil⟩ := HPS.out.2 k (by rw [← HM.out]; exact hkm)
      rw [← hz] at hpr
      have hcell : wr.cell? ⟨gb, k, none⟩ = some (.slice pa pn pc) := by
        refine HS.out.2.2.1.2 k _ ?_
        rw [← hpv, List.getD_eq_getElem?_getD, List.getElem?_eq_getElem (by rw [← HM.out]; exact hkm)]
        rfl
      have HPR := Lib.hid hpr
      have hpn : pn = z.length := hpr.1.symm
      obtain ⟨hs, hhs⟩ : ∃ hs, hs = Sha.run Sha.H0 q := ⟨_, rfl⟩
      obtain ⟨tail, htl⟩ : ∃ tail, tail = Sha.rest q := ⟨_, rfl⟩
      rw [← hhs, ← htl] at HS
      have HW8 := Lib.hid (show Sha.W8 hs from by rw [hhs]; exact Sha.W8.H0.run _)
      obtain ⟨hs2, hhs2⟩ : ∃ x, x = Sha.run hs (tail ++ z) := ⟨_, rfl⟩
      obtain ⟨tail2, htl2⟩ : ∃ x, x = Sha.rest (tail ++ z) := ⟨_, rfl⟩
      obtain ⟨n2, hn2⟩ : ∃ x, x = n + pn := ⟨_, rfl⟩
      have HE := Lib.hid (show hs2 = Sha.run Sha.H0 (q ++ z) ∧ tail2 = Sha.rest (q ++ z) ∧ n2 = (q ++ z).length from by
        rw [hhs2, htl2, hn2, hhs, htl, hn, (Sha.run_run Sha.H0 q z).1, (Sha.run_run Sha.H0 q z).2, List.length_append, hpn]
        exact ⟨rfl, rfl, rfl⟩)
      have hn2l : n2 ≤ len := by omega
      have hn2c : n2 ≤ cap := by omega
      have hpm : n + pn ≤ len := by omega
      have HR2 := Lib.hid (show Rd w a n2 (q ++ z) from by
        have h := HR.out.take n2 hn2l
        rw [HZS.out, HE.out.2.2, List.take_left] at h
        rw [HE.out.2.2]
        exact h)
      have HW2 := Lib.hid (show Sha.W8 hs2 from by rw [hhs2]; exact HW8.out.run _)
      have HTB2 := Lib.hid (show ∀ x ∈ tail2, x < 256 from by
        rw [HE.out.2.1]; intro x hx
        exact HR2.out.2.1 x (List.mem_of_mem_drop hx))
      have HTL2 := Lib.hid (show tail2.length = n2 % 64 from by rw [HE.out.2.1, Sha.rest_len, HE.out.2.2])
      have HWR := Lib.hid (write_c wr g hs tail n HS.out.1 pa pn pc z (HPR.out.below HS.out.2.2.2) hpnc (by omega) (by omega) (HPR.out.blk g hgw) (HT.out.below HS.out.2.2.2 hpos) (by omega))
      rw [← hhs2, ← htl2, ← hn2] at HWR
      obtain ⟨S, hS⟩ : ∃ S, S = Sha.close hs2 tail2 n2 := ⟨_, rfl⟩
      have HSS := Lib.hid (show S = Sha.close hs2 tail2 n2 ∧ S = Sha.sum (q ++ z) from ⟨hS, by rw [hS, HE.out.1, HE.out.2.1, HE.out.2.2]; rfl⟩)
      have HSD := Lib.hid (show D32 S from by rw [hS]; unfold Sha.close; exact ⟨by rw [bytesOf_len, (HW2.out.run _).1], bytesOf_byte _⟩)
      have HES := Lib.hid (fun W => show (Op.equalIn 10000 25 (.agg (cellsOf S).toArray) (.agg (cellsOf S).toArray)).run Tryd.prog W = .ok true W from by
        simpa using eq_dig 25 32 Tryd.underlying25 W S S HSD.out.1 HSD.out.1 HSD.out.2 HSD.out.2)
      have HGT := Lib.hid (show Tryd.prog.eqGuardType Tryd.prog.depth 25 = false by kernel_rfl)
      have kI := fun W => run_sindex W gb m cb k hkm
      have kH := fun W => run_headAt W a len cap n2 hn2c
      have HWN := Lib.hid (show (n : Int) + (pn : Int) = (n2 : Int) from by omega)
      clear hpr hpv hhs htl hz hq hhs2 htl2 hn2 hn hpn hql hS
      go_wp2_with fail
      refine HWR.out.mono ?_
      rintro e5 w5 ⟨rfl, hst5, ho5⟩
      have hg5 : g < w5.heap.size := hst5.lt
      have HS5 := Lib.hid (show PB w g gb vs hs2 tail2 n2 w5 from ⟨hst5, hg5, HS.out.2.2.1.only ho5 hgb', HS.out.2.2.2.trans (ho5.below hgw HS.out.2.2.2.size)⟩)
      clear hst5 ho5 HS HWR hcell kI
      by_cases hks : k < lS
      · obtain ⟨sb, so, rfl, hsb, hsc⟩ : ∃ b off, aS = some ⟨b, off, none⟩ ∧ b < w.heap.size ∧ ∀ i, i < lS → w.cell? ⟨b, off + i, none⟩ = some (.bool (B i)) := by
          rcases HBO.out with h | h
          · omega
          · exact h
        have hcs : w5.cell? ⟨sb, so + k, none⟩ = some (.bool (B k)) := by
          rw [← hsc k hks]
          exact HS5.out.2.2.2.cell (p := ⟨sb, so + k, none⟩) hsb
        have kB := fun W => run_bindex W sb so lS cS k hks
        have t1 : decide ((k : Int) < (lS : Int)) = true := decide_eq_true (by omega)
        clear hsc
        cases hB : B k with
        | true =>
          rw [hB] at hcs
          have HB' := Lib.hid hB
          clear hB
          obtain ⟨X, hX⟩ : ∃ X, X = saved hs2 tail2 n2 := ⟨_, rfl⟩
          have HXW := Lib.hid (show wordsAt X = hs2 ∧ X.drop 40 = tail2 ∧ numAt X = n2 from by rw [hX]; exact ⟨wordsAt_saved _ _ _ HW2.out, tailAt_saved _ _ _ HW2.out, numAt_saved _ _ _ HW2.out (by omega)⟩)
          have HXL := Lib.hid (show X.length = 40 + n2 % 64 from by rw [hX, ← HTL2.out]; simp only [saved, List.length_append, bytesOf_len, Numm.put_len, HW2.out.1])
          have HSA := Lib.hid ((save_c w5 g hs2 tail2 n2 HS5.out.1).mono (RetB.form (saved_byte _ _ _ HTB2.out)))
          rw [← hX] at HSA
          clear hX
          have hwn := HWN.out
          go_wp2_with fail
          refine HSA.out.mono ?_
          rintro e6 w6 ⟨fa, fn, fc, rfl, hfl, hfc, hfm, _, hfr, _, hb6⟩
          clear hwn
          have HLD := Lib.hid (dload_ok fa fn fc X w6 hfr (by have := HXL.out; omega) hfc hfm (by have := HXL.out; omega) (by rw [HXW.out.2.2]; omega) (by rw [HXW.out.2.2]; have := HXL.out; omega))
          unfold DlRet at HLD
          rw [HXW.out.1, HXW.out.2.1, HXW.out.2.2] at HLD
          have HS6 := Lib.hid (HS5.out.below hb6)
          clear hfl hfc hfm hfr hb6 HSA HS5 hcs
          go_wp2_with fail
          refine HLD.out.mono ?_
          rintro e7 w7 ⟨g', rfl, hg', hst7, hb7⟩
          have hg6 := HS6.out.2.1
          have hgb6 := HS6.out.2.2.1.1
          have HS7 := Lib.hid (HS6.out.below hb7)
          have hgg : g' ≠ g := by omega
          have hgb2' : gb ≠ g' := by omega
          have hgw2 : w.heap.size ≤ g' := by have := HS6.out.2.2.2.size; omega
          have HP7 := Lib.hid (show PB w g' gb vs hs2 tail2 n2 w7 from ⟨hst7, hst7.lt, HS7.out.2.2.1, HS7.out.2.2.2⟩)
          have HEL := Lib.hid (show ∀ W, Below w7.heap.size w7 W → Rd W (some ⟨w7.heap.size, 0, none⟩) 4 [101, 108, 115, 101] → Calls Tryd.prog 43 #[.pointer (some ⟨g, 0, none⟩), .slice (some ⟨w7.heap.size, 0, none⟩) 4 4] W (WrtRet g W (Sha.run hs2 (tail2 ++ [101, 108, 115, 101])) (Sha.rest (tail2 ++ [101, 108, 115, 101])) (n2 + 4)) from fun W hW hr =>
            write_c W g hs2 tail2 n2 (HS7.out.below hW).1 _ 4 4 _ hr (by omega) (by omega) (by omega) (by
              intro _ hb
              have h9 : w7.heap.size = g := by simpa [blkOf] using hb
              have := HS7.out.2.1
              omega) (HT.out.below (HS7.out.below hW).2.2.2 hpos) (by omega))
          have HRL := Lib.hid (rd_lit w7 [101, 108, 115, 101] (4, 5) (by decide))
          have kC := convA w7
          clear HLD HS6 hst7 hb7 hg'
          go_wp2_with fail
          refine (HEL.out _ ((Below.refl _ _).alloc (Nat.le_refl _) _) HRL.out).mono ?_
          rintro e8 w9 ⟨rfl, _, ho9⟩
          have HP9 := Lib.hid ((HP7.out.below ((Below.refl _ _).alloc (Nat.le_refl _) _)).only ho9 hgg hgb' hgw)
          clear HP7 HS7 ho9 HEL HRL kC
          have HSZ := Lib.hid (show ∀ W, PB w g' gb vs hs2 tail2 n2 W → Calls Tryd.prog 46 #[.pointer (some ⟨g', 0, none⟩)] W (fun e w' => e = .returned (.int .i64 (n2 : Int)) ∧ W = w') from fun W hW => by
            obtain ⟨bs, h1, _⟩ := hW.1
            exact size_c W g' hs2 bs n2 h1)
          have HSU := Lib.hid (show ∀ W, PB w g' gb vs hs2 tail2 n2 W → Calls Tryd.prog 47 #[.pointer (some ⟨g', 0, none⟩)] W (DigRet S W) from fun W hW => by rw [HSS.out.1]; exact ssum_c W g' _ _ _ hW.1 (HT.out.below hW.2.2.2 hpos))
          have HDS := Lib.hid (show ∀ W, PB w g' gb vs hs2 tail2 n2 W → Calls Tryd.prog 39 #[.slice a n2 cap] W (DigRet S W) from fun W hW => by rw [HSS.out.2]; exact dsum_c a n2 cap (q ++ z) W (HR2.out.below hW.2.2.2) hn2c hcm63 (by omega) (HT.out.below hW.2.2.2 hpos))
          have hwn := HWN.out
          go_upto_region 17 with fail
          clear hwn
          refine gen_code (F := PB w g' gb vs hs2 tail2 n2) (show PB w g' gb vs hs2 tail2 n2 _ from HP9.out) ?_
          intro w8 h8
          have HS := Lib.hid h8.drew
          clear h8
          (try dsimp only [Act.put, List.setIfInBounds_toArray, List.set_cons_zero, List.set_cons_succ])
          refine anyH_begin (S := PB w g' gb vs hs2 tail2 n2) (by kernel_rfl) ?_
          refine anyH_pureG 0 (d := 56) (op := .move (.tmp 7)) (gd := none) (.pointer (some ⟨g', 0, none⟩)) (by rfl) (fun o ho => wanted_plain ho _) (by kernel_rfl) (by kernel_rfl) (by kernel_rfl) (fun _ _ _ h => h) (fun o ho W hW => by unfold execOp; simp only [ho]; go_simp) HS.out ?_
          simp only [Act.put, List.setIfInBounds_toArray, List.set_cons_zero, List.set_cons_succ]
          refine anyH_pureG 2 (d := 58) (op := .move (.tmp 8)) (gd := none) (.int .i64 (n2 : Int)) (by rfl) (fun o ho => wanted_plain ho _) (by kernel_rfl) (by kernel_rfl) (by kernel_rfl) (fun _ _ _ h => h) (fun o ho W hW => by unfold execOp; simp only [ho]; go_simp) HS.out ?_
          simp only [Act.put, List.setIfInBounds_toArray, List.set_cons_zero, List.set_cons_succ]
          refine anyH_callG 1 (d := some 57) (f := 46) (xs := #[(.tmp 56)]) (ts := #[75]) (gd := none) (vs := #[.pointer (some ⟨g', 0, none⟩)]) (by kernel_rfl) (by rfl) (fun o ho => wanted_plain ho _) (by go_simp) (by go_simp) (HSZ.out _ HS.out) ?_
          rintro e91 w91 ⟨rfl, rfl⟩
          refine ⟨_, rfl, HS.out, fun hS91 => ?_⟩
          have HS := Lib.hid hS91
          clear hS91 
          simp only [Act.put, List.setIfInBounds_toArray, List.set_cons_zero, List.set_cons_succ]
          refine anyH_pureG 3 (d := 59) (op := .binOp .neq 3 (.tmp 57) (.tmp 58) 3) (gd := none) (.bool false) (by rfl) (fun o ho => wanted_plain ho _) (by kernel_rfl) (by kernel_rfl) (by kernel_rfl) (fun _ _ _ h => h) (fun o ho W hW => by unfold execOp; simp only [ho]; go_simp) HS.out ?_
          simp only [Act.put, List.setIfInBounds_toArray, List.set_cons_zero, List.set_cons_succ]
          refine anyH_pureG 4 (d := 60) (op := .move (.tmp 59)) (gd := none) (.bool false) (by rfl) (fun o ho => wanted_plain ho _) (by kernel_rfl) (by kernel_rfl) (by kernel_rfl) (fun _ _ _ h => h) (fun o ho W hW => by unfold execOp; simp only [ho]; go_simp) HS.out ?_
          simp only [Act.put, List.setIfInBounds_toArray, List.set_cons_zero, List.set_cons_succ]
          refine anyH_pureG 5 (d := 61) (op := .move (.tmp 7)) (gd := some (4, false)) (.pointer (some ⟨g', 0, none⟩)) (by rfl) (fun o ho => by simp only [Region.wanted, ho]; rfl) (by kernel_rfl) (by kernel_rfl) (by kernel_rfl) (fun _ _ _ h => h) (fun o ho W hW => by unfold execOp; simp only [ho]; go_simp) HS.out ?_
          simp only [Act.put, List.setIfInBounds_toArray, List.set_cons_zero, List.set_cons_succ]
          refine anyH_pureG 7 (d := 63) (op := .move (.tmp 0)) (gd := some (4, false)) (.slice a len cap) (by rfl) (fun o ho => by simp only [Region.wanted, ho]; rfl) (by kernel_rfl) (by kernel_rfl) (by kernel_rfl) (fun _ _ _ h => h) (fun o ho W hW => by unfold execOp; simp only [ho]; go_simp) HS.out ?_
          simp only [Act.put, List.setIfInBounds_toArray, List.set_cons_zero, List.set_cons_succ]
          refine anyH_pureG 8 (d := 64) (op := .move (.tmp 8)) (gd := some (4, false)) (.int .i64 (n2 : Int)) (by rfl) (fun o ho => by simp only [Region.wanted, ho]; rfl) (by kernel_rfl) (by kernel_rfl) (by kernel_rfl) (fun _ _ _ h => h) (fun o ho W hW => by unfold execOp; simp only [ho]; go_simp) HS.out ?_
          simp only [Act.put, List.setIfInBounds_toArray, List.set_cons_zero, List.set_cons_succ]
          refine anyH_pureG 9 (d := 65) (op := .slice 63 (.tmp 63) none (some (.tmp 64)) none) (gd := some (4, false)) (.slice a n2 cap) (by rfl) (fun o ho => by simp only [Region.wanted, ho]; rfl) (by kernel_rfl) (by kernel_rfl) (by kernel_rfl) (fun _ _ _ h => h) (fun o ho W hW => by unfold execOp; simp only [ho]; go_simp) HS.out ?_
          simp only [Act.put, List.setIfInBounds_toArray, List.set_cons_zero, List.set_cons_succ]
          refine anyH_callG 6 (d := some 62) (f := 47) (xs := #[(.tmp 61)]) (ts := #[75]) (gd := some (4, false)) (vs := #[.pointer (some ⟨g', 0, none⟩)]) (by kernel_rfl) (by rfl) (fun o ho => by simp only [Region.wanted, ho]; rfl) (by go_simp) (by go_simp) (HSU.out _ HS.out) ?_
          rintro e92 w92 ⟨rfl, hb92⟩
          refine ⟨_, rfl, HS.out.below hb92, fun hS92 => ?_⟩
          have HS := Lib.hid hS92
          clear hS92 hb92
          simp only [Act.put, List.setIfInBounds_toArray, List.set_cons_zero, List.set_cons_succ]
          refine anyH_callG 10 (d := some 66) (f := 39) (xs := #[(.tmp 65)]) (ts := #[63]) (gd := some (4, false)) (vs := #[.slice a n2 cap]) (by kernel_rfl) (by rfl) (fun o ho => by simp only [Region.wanted, ho]; rfl) (by go_simp) (by go_simp) (HDS.out _ HS.out) ?_
          rintro e93 w93 ⟨rfl, hb93⟩
          refine ⟨_, rfl, HS.out.below hb93, fun hS93 => ?_⟩
          have HS := Lib.hid hS93
          clear hS93 hb93
          simp only [Act.put, List.setIfInBounds_toArray, List.set_cons_zero, List.set_cons_succ]
          refine anyH_neqD 11 (d := 67) (t := 25) (t' := 25) (x := (.tmp 62)) (y := (.tmp 66)) (gd := some (4, false)) ((cellsOf S).toArray) ((cellsOf S).toArray) true (by rfl) (fun o ho => by simp only [Region.wanted, ho]; rfl) (by kernel_rfl) (by kernel_rfl) (by kernel_rfl) (fun _ _ _ h => h) (by rfl) (by rfl) HGT.out (fun W => HES.out W) HS.out ?_
          simp only [Act.put, List.setIfInBounds_toArray, List.set_cons_zero, List.set_cons_succ]
          refine anyH_pureG 12 (d := 68) (op := .pick (.tmp 60) (.const (.bool true)) (.tmp 67)) (gd := none) (.bool false) (by rfl) (fun o ho => wanted_plain ho _) (by kernel_rfl) (by kernel_rfl) (by kernel_rfl) (fun _ _ _ h => h) (fun o ho W hW => by unfold execOp; simp only [ho]; go_simp) HS.out ?_
          simp only [Act.put, List.setIfInBounds_toArray, List.set_cons_zero, List.set_cons_succ]
          refine wpAnyH_done (by kernel_rfl) ?_ _
          have HN := Lib.hid (show PB w g' gb vs (Sha.run Sha.H0 (q ++ z)) (Sha.rest (q ++ z)) (q ++ z).length _ from by
            rw [← HE.out.1, ← HE.out.2.1, ← HE.out.2.2]
            exact HS.out)
          rw [← HQZ.out] at HN
          have HAT := Lib.hid (show Value.int .i64 (n2 : Int) = .int .i64 (((zss.take (k + 1)).flatten.length : Nat) : Int) from by rw [HQZ.out, ← HE.out.2.2])
          clear HSZ HSU HDS HS
          go_wp2
          go_roundw
          case rel => exact ⟨k + 1, by omega, by go_num, g', rfl, hgw2, hgb2', HAT.out, HN.out⟩
          case measure => simp [intOf]; omega
        | false =>
          rw [hB] at hcs
          have HB' := Lib.hid hB
          clear hB
          have HSZ := Lib.hid (show ∀ W, PB w g gb vs hs2 tail2 n2 W → Calls Tryd.prog 46 #[.pointer (some ⟨g, 0, none⟩)] W (fun e w' => e = .returned (.int .i64 (n2 : Int)) ∧ W = w') from fun W hW => by
            obtain ⟨bs, h1, _⟩ := hW.1
            exact size_c W g hs2 bs n2 h1)
          have HSU := Lib.hid (show ∀ W, PB w g gb vs hs2 tail2 n2 W → Calls Tryd.prog 47 #[.pointer (some ⟨g, 0, none⟩)] W (DigRet S W) from fun W hW => by rw [HSS.out.1]; exact ssum_c W g _ _ _ hW.1 (HT.out.below hW.2.2.2 hpos))
          have HDS := Lib.hid (show ∀ W, PB w g gb vs hs2 tail2 n2 W → Calls Tryd.prog 39 #[.slice a n2 cap] W (DigRet S W) from fun W hW => by rw [HSS.out.2]; exact dsum_c a n2 cap (q ++ z) W (HR2.out.below hW.2.2.2) hn2c hcm63 (by omega) (HT.out.below hW.2.2.2 hpos))
          have hwn := HWN.out
          go_upto_region 17 with fail
          clear hwn
          refine gen_code (F := PB w g gb vs hs2 tail2 n2) (show PB w g gb vs hs2 tail2 n2 _ from HS5.out) ?_
          intro w8 h8
          have HS := Lib.hid h8.drew
          clear h8
          (try dsimp only [Act.put, List.setIfInBounds_toArray, List.set_cons_zero, List.set_cons_succ])
          refine anyH_begin (S := PB w g gb vs hs2 tail2 n2) (by kernel_rfl) ?_
          refine anyH_pureG 0 (d := 56) (op := .move (.tmp 7)) (gd := none) (.pointer (some ⟨g, 0, none⟩)) (by rfl) (fun o ho => wanted_plain ho _) (by kernel_rfl) (by kernel_rfl) (by kernel_rfl) (fun _ _ _ h => h) (fun o ho W hW => by unfold execOp; simp only [ho]; go_simp) HS.out ?_
          simp only [Act.put, List.setIfInBounds_toArray, List.set_cons_zero, List.set_cons_succ]
          refine anyH_pureG 2 (d := 58) (op := .move (.tmp 8)) (gd := none) (.int .i64 (n2 : Int)) (by rfl) (fun o ho => wanted_plain ho _) (by kernel_rfl) (by kernel_rfl) (by kernel_rfl) (fun _ _ _ h => h) (fun o ho W hW => by unfold execOp; simp only [ho]; go_simp) HS.out ?_
          simp only [Act.put, List.setIfInBounds_toArray, List.set_cons_zero, List.set_cons_succ]
          refine anyH_callG 1 (d := some 57) (f := 46) (xs := #[(.tmp 56)]) (ts := #[75]) (gd := none) (vs := #[.pointer (some ⟨g, 0, none⟩)]) (by kernel_rfl) (by rfl) (fun o ho => wanted_plain ho _) (by go_simp) (by go_simp) (HSZ.out _ HS.out) ?_
          rintro e91 w91 ⟨rfl, rfl⟩
          refine ⟨_, rfl, HS.out, fun hS91 => ?_⟩
          have HS := Lib.hid hS91
          clear hS91 
          simp only [Act.put, List.setIfInBounds_toArray, List.set_cons_zero, List.set_cons_succ]
          refine anyH_pureG 3 (d := 59) (op := .binOp .neq 3 (.tmp 57) (.tmp 58) 3) (gd := none) (.bool false) (by rfl) (fun o ho => wanted_plain ho _) (by kernel_rfl) (by kernel_rfl) (by kernel_rfl) (fun _ _ _ h => h) (fun o ho W hW => by unfold execOp; simp only [ho]; go_simp) HS.out ?_
          simp only [Act.put, List.setIfInBounds_toArray, List.set_cons_zero, List.set_cons_succ]
          refine anyH_pureG 4 (d := 60) (op := .move (.tmp 59)) (gd := none) (.bool false) (by rfl) (fun o ho => wanted_plain ho _) (by kernel_rfl) (by kernel_rfl) (by kernel_rfl) (fun _ _ _ h => h) (fun o ho W hW => by unfold execOp; simp only [ho]; go_simp) HS.out ?_
          simp only [Act.put, List.setIfInBounds_toArray, List.set_cons_zero, List.set_cons_succ]
          refine anyH_pureG 5 (d := 61) (op := .move (.tmp 7)) (gd := some (4, false)) (.pointer (some ⟨g, 0, none⟩)) (by rfl) (fun o ho => by simp only [Region.wanted, ho]; rfl) (by kernel_rfl) (by kernel_rfl) (by kernel_rfl) (fun _ _ _ h => h) (fun o ho W hW => by unfold execOp; simp only [ho]; go_simp) HS.out ?_
          simp only [Act.put, List.setIfInBounds_toArray, List.set_cons_zero, List.set_cons_succ]
          refine anyH_pureG 7 (d := 63) (op := .move (.tmp 0)) (gd := some (4, false)) (.slice a len cap) (by rfl) (fun o ho => by simp only [Region.wanted, ho]; rfl) (by kernel_rfl) (by kernel_rfl) (by kernel_rfl) (fun _ _ _ h => h) (fun o ho W hW => by unfold execOp; simp only [ho]; go_simp) HS.out ?_
          simp only [Act.put, List.setIfInBounds_toArray, List.set_cons_zero, List.set_cons_succ]
          refine anyH_pureG 8 (d := 64) (op := .move (.tmp 8)) (gd := some (4, false)) (.int .i64 (n2 : Int)) (by rfl) (fun o ho => by simp only [Region.wanted, ho]; rfl) (by kernel_rfl) (by kernel_rfl) (by kernel_rfl) (fun _ _ _ h => h) (fun o ho W hW => by unfold execOp; simp only [ho]; go_simp) HS.out ?_
          simp only [Act.put, List.setIfInBounds_toArray, List.set_cons_zero, List.set_cons_succ]
          refine anyH_pureG 9 (d := 65) (op := .slice 63 (.tmp 63) none (some (.tmp 64)) none) (gd := some (4, false)) (.slice a n2 cap) (by rfl) (fun o ho => by simp only [Region.wanted, ho]; rfl) (by kernel_rfl) (by kernel_rfl) (by kernel_rfl) (fun _ _ _ h => h) (fun o ho W hW => by unfold execOp; simp only [ho]; go_simp) HS.out ?_
          simp only [Act.put, List.setIfInBounds_toArray, List.set_cons_zero, List.set_cons_succ]
          refine anyH_callG 6 (d := some 62) (f := 47) (xs := #[(.tmp 61)]) (ts := #[75]) (gd := some (4, false)) (vs := #[.pointer (some ⟨g, 0, none⟩)]) (by kernel_rfl) (by rfl) (fun o ho => by simp only [Region.wanted, ho]; rfl) (by go_simp) (by go_simp) (HSU.out _ HS.out) ?_
          rintro e92 w92 ⟨rfl, hb92⟩
          refine ⟨_, rfl, HS.out.below hb92, fun hS92 => ?_⟩
          have HS := Lib.hid hS92
          clear hS92 hb92
          simp only [Act.put, List.setIfInBounds_toArray, List.set_cons_zero, List.set_cons_succ]
          refine anyH_callG 10 (d := some 66) (f := 39) (xs := #[(.tmp 65)]) (ts := #[63]) (gd := some (4, false)) (vs := #[.slice a n2 cap]) (by kernel_rfl) (by rfl) (fun o ho => by simp only [Region.wanted, ho]; rfl) (by go_simp) (by go_simp) (HDS.out _ HS.out) ?_
          rintro e93 w93 ⟨rfl, hb93⟩
          refine ⟨_, rfl, HS.out.below hb93, fun hS93 => ?_⟩
          have HS := Lib.hid hS93
          clear hS93 hb93
          simp only [Act.put, List.setIfInBounds_toArray, List.set_cons_zero, List.set_cons_succ]
          refine anyH_neqD 11 (d := 67) (t := 25) (t' := 25) (x := (.tmp 62)) (y := (.tmp 66)) (gd := some (4, false)) ((cellsOf S).toArray) ((cellsOf S).toArray) true (by rfl) (fun o ho => by simp only [Region.wanted, ho]; rfl) (by kernel_rfl) (by kernel_rfl) (by kernel_rfl) (fun _ _ _ h => h) (by rfl) (by rfl) HGT.out (fun W => HES.out W) HS.out ?_
          simp only [Act.put, List.setIfInBounds_toArray, List.set_cons_zero, List.set_cons_succ]
          refine anyH_pureG 12 (d := 68) (op := .pick (.tmp 60) (.const (.bool true)) (.tmp 67)) (gd := none) (.bool false) (by rfl) (fun o ho => wanted_plain ho _) (by kernel_rfl) (by kernel_rfl) (by kernel_rfl) (fun _ _ _ h => h) (fun o ho W hW => by unfold execOp; simp only [ho]; go_simp) HS.out ?_
          simp only [Act.put, List.setIfInBounds_toArray, List.set_cons_zero, List.set_cons_succ]
          refine wpAnyH_done (by kernel_rfl) ?_ _
          have HN := Lib.hid (show PB w g gb vs (Sha.run Sha.H0 (q ++ z)) (Sha.rest (q ++ z)) (q ++ z).length _ from by
            rw [← HE.out.1, ← HE.out.2.1, ← HE.out.2.2]
            exact HS.out)
          rw [← HQZ.out] at HN
          have HAT := Lib.hid (show Value.int .i64 (n2 : Int) = .int .i64 (((zss.take (k + 1)).flatten.length : Nat) : Int) from by rw [HQZ.out, ← HE.out.2.2])
          clear HSZ HSU HDS HS
          go_wp2
          go_roundw
          case rel => exact ⟨k + 1, by omega, by go_num, g, rfl, hgw, hgb', HAT.out, HN.out⟩
          case measure => simp [intOf]; omega
      · have t1 : decide ((k : Int) < (lS : Int)) = false := decide_eq_false (by omega)
        have t2 : ¬ (k : Int) < (lS : Int) := by omega
        have HSZ := Lib.hid (show ∀ W, PB w g gb vs hs2 tail2 n2 W → Calls Tryd.prog 46 #[.pointer (some ⟨g, 0, none⟩)] W (fun e w' => e = .returned (.int .i64 (n2 : Int)) ∧ W = w') from fun W hW => by
          obtain ⟨bs, h1, _⟩ := hW.1
          exact size_c W g hs2 bs n2 h1)
        have HSU := Lib.hid (show ∀ W, PB w g gb vs hs2 tail2 n2 W → Calls Tryd.prog 47 #[.pointer (some ⟨g, 0, none⟩)] W (DigRet S W) from fun W hW => by rw [HSS.out.1]; exact ssum_c W g _ _ _ hW.1 (HT.out.below hW.2.2.2 hpos))
        have HDS := Lib.hid (show ∀ W, PB w g gb vs hs2 tail2 n2 W → Calls Tryd.prog 39 #[.slice a n2 cap] W (DigRet S W) from fun W hW => by rw [HSS.out.2]; exact dsum_c a n2 cap (q ++ z) W (HR2.out.below hW.2.2.2) hn2c hcm63 (by omega) (HT.out.below hW.2.2.2 hpos))
        have hwn := HWN.out
        go_upto_region 17 with fail
        clear hwn
        refine gen_code (F := PB w g gb vs hs2 tail2 n2) (show PB w g gb vs hs2 tail2 n2 _ from HS5.out) ?_
        intro w8 h8
        have HS := Lib.hid h8.drew
        clear h8
        (try dsimp only [Act.put, List.setIfInBounds_toArray, List.set_cons_zero, List.set_cons_succ])
        refine anyH_begin (S := PB w g gb vs hs2 tail2 n2) (by kernel_rfl) ?_
        refine anyH_pureG 0 (d := 56) (op := .move (.tmp 7)) (gd := none) (.pointer (some ⟨g, 0, none⟩)) (by rfl) (fun o ho => wanted_plain ho _) (by kernel_rfl) (by kernel_rfl) (by kernel_rfl) (fun _ _ _ h => h) (fun o ho W hW => by unfold execOp; simp only [ho]; go_simp) HS.out ?_
        simp only [Act.put, List.setIfInBounds_toArray, List.set_cons_zero, List.set_cons_succ]
        refine anyH_pureG 2 (d := 58) (op := .move (.tmp 8)) (gd := none) (.int .i64 (n2 : Int)) (by rfl) (fun o ho => wanted_plain ho _) (by kernel_rfl) (by kernel_rfl) (by kernel_rfl) (fun _ _ _ h => h) (fun o ho W hW => by unfold execOp; simp only [ho]; go_simp) HS.out ?_
        simp only [Act.put, List.setIfInBounds_toArray, List.set_cons_zero, List.set_cons_succ]
        refine anyH_callG 1 (d := some 57) (f := 46) (xs := #[(.tmp 56)]) (ts := #[75]) (gd := none) (vs := #[.pointer (some ⟨g, 0, none⟩)]) (by kernel_rfl) (by rfl) (fun o ho => wanted_plain ho _) (by go_simp) (by go_simp) (HSZ.out _ HS.out) ?_
        rintro e91 w91 ⟨rfl, rfl⟩
        refine ⟨_, rfl, HS.out, fun hS91 => ?_⟩
        have HS := Lib.hid hS91
        clear hS91 
        simp only [Act.put, List.setIfInBounds_toArray, List.set_cons_zero, List.set_cons_succ]
        refine anyH_pureG 3 (d := 59) (op := .binOp .neq 3 (.tmp 57) (.tmp 58) 3) (gd := none) (.bool false) (by rfl) (fun o ho => wanted_plain ho _) (by kernel_rfl) (by kernel_rfl) (by kernel_rfl) (fun _ _ _ h => h) (fun o ho W hW => by unfold execOp; simp only [ho]; go_simp) HS.out ?_
        simp only [Act.put, List.setIfInBounds_toArray, List.set_cons_zero, List.set_cons_succ]
        refine anyH_pureG 4 (d := 60) (op := .move (.tmp 59)) (gd := none) (.bool false) (by rfl) (fun o ho => wanted_plain ho _) (by kernel_rfl) (by kernel_rfl) (by kernel_rfl) (fun _ _ _ h => h) (fun o ho W hW => by unfold execOp; simp only [ho]; go_simp) HS.out ?_
        simp only [Act.put, List.setIfInBounds_toArray, List.set_cons_zero, List.set_cons_succ]
        refine anyH_pureG 5 (d := 61) (op := .move (.tmp 7)) (gd := some (4, false)) (.pointer (some ⟨g, 0, none⟩)) (by rfl) (fun o ho => by simp only [Region.wanted, ho]; rfl) (by kernel_rfl) (by kernel_rfl) (by kernel_rfl) (fun _ _ _ h => h) (fun o ho W hW => by unfold execOp; simp only [ho]; go_simp) HS.out ?_
        simp only [Act.put, List.setIfInBounds_toArray, List.set_cons_zero, List.set_cons_succ]
        refine anyH_pureG 7 (d := 63) (op := .move (.tmp 0)) (gd := some (4, false)) (.slice a len cap) (by rfl) (fun o ho => by simp only [Region.wanted, ho]; rfl) (by kernel_rfl) (by kernel_rfl) (by kernel_rfl) (fun _ _ _ h => h) (fun o ho W hW => by unfold execOp; simp only [ho]; go_simp) HS.out ?_
        simp only [Act.put, List.setIfInBounds_toArray, List.set_cons_zero, List.set_cons_succ]
        refine anyH_pureG 8 (d := 64) (op := .move (.tmp 8)) (gd := some (4, false)) (.int .i64 (n2 : Int)) (by rfl) (fun o ho => by simp only [Region.wanted, ho]; rfl) (by kernel_rfl) (by kernel_rfl) (by kernel_rfl) (fun _ _ _ h => h) (fun o ho W hW => by unfold execOp; simp only [ho]; go_simp) HS.out ?_
        simp only [Act.put, List.setIfInBounds_toArray, List.set_cons_zero, List.set_cons_succ]
        refine anyH_pureG 9 (d := 65) (op := .slice 63 (.tmp 63) none (some (.tmp 64)) none) (gd := some (4, false)) (.slice a n2 cap) (by rfl) (fun o ho => by simp only [Region.wanted, ho]; rfl) (by kernel_rfl) (by kernel_rfl) (by kernel_rfl) (fun _ _ _ h => h) (fun o ho W hW => by unfold execOp; simp only [ho]; go_simp) HS.out ?_
        simp only [Act.put, List.setIfInBounds_toArray, List.set_cons_zero, List.set_cons_succ]
        refine anyH_callG 6 (d := some 62) (f := 47) (xs := #[(.tmp 61)]) (ts := #[75]) (gd := some (4, false)) (vs := #[.pointer (some ⟨g, 0, none⟩)]) (by kernel_rfl) (by rfl) (fun o ho => by simp only [Region.wanted, ho]; rfl) (by go_simp) (by go_simp) (HSU.out _ HS.out) ?_
        rintro e92 w92 ⟨rfl, hb92⟩
        refine ⟨_, rfl, HS.out.below hb92, fun hS92 => ?_⟩
        have HS := Lib.hid hS92
        clear hS92 hb92
        simp only [Act.put, List.setIfInBounds_toArray, List.set_cons_zero, List.set_cons_succ]
        refine anyH_callG 10 (d := some 66) (f := 39) (xs := #[(.tmp 65)]) (ts := #[63]) (gd := some (4, false)) (vs := #[.slice a n2 cap]) (by kernel_rfl) (by rfl) (fun o ho => by simp only [Region.wanted, ho]; rfl) (by go_simp) (by go_simp) (HDS.out _ HS.out) ?_
        rintro e93 w93 ⟨rfl, hb93⟩
        refine ⟨_, rfl, HS.out.below hb93, fun hS93 => ?_⟩
        have HS := Lib.hid hS93
        clear hS93 hb93
        simp only [Act.put, List.setIfInBounds_toArray, List.set_cons_zero, List.set_cons_succ]
        refine anyH_neqD 11 (d := 67) (t := 25) (t' := 25) (x := (.tmp 62)) (y := (.tmp 66)) (gd := some (4, false)) ((cellsOf S).toArray) ((cellsOf S).toArray) true (by rfl) (fun o ho => by simp only [Region.wanted, ho]; rfl) (by kernel_rfl) (by kernel_rfl) (by kernel_rfl) (fun _ _ _ h => h) (by rfl) (by rfl) HGT.out (fun W => HES.out W) HS.out ?_
        simp only [Act.put, List.setIfInBounds_toArray, List.set_cons_zero, List.set_cons_succ]
        refine anyH_pureG 12 (d := 68) (op := .pick (.tmp 60) (.const (.bool true)) (.tmp 67)) (gd := none) (.bool false) (by rfl) (fun o ho => wanted_plain ho _) (by kernel_rfl) (by kernel_rfl) (by kernel_rfl) (fun _ _ _ h => h) (fun o ho W hW => by unfold execOp; simp only [ho]; go_simp) HS.out ?_
        simp only [Act.put, List.setIfInBounds_toArray, List.set_cons_zero, List.set_cons_succ]
        refine wpAnyH_done (by kernel_rfl) ?_ _
        have HN := Lib.hid (show PB w g gb vs (Sha.run Sha.H0 (q ++ z)) (Sha.rest (q ++ z)) (q ++ z).length _ from by
          rw [← HE.out.1, ← HE.out.2.1, ← HE.out.2.2]
          exact HS.out)
        rw [← HQZ.out] at HN
        have HAT := Lib.hid (show Value.int .i64 (n2 : Int) = .int .i64 (((zss.take (k + 1)).flatten.length : Nat) : Int) from by rw [HQZ.out, ← HE.out.2.2])
        clear HSZ HSU HDS HS
        go_wp2
        go_roundw
        case rel => exact ⟨k + 1, by omega, by go_num, g, rfl, hgw, hgb', HAT.out, HN.out⟩
        case measure => simp [intOf]; omega
    · have hkm' : k = m := by omega
      have HNL := Lib.hid (show n = len from by
        rw [hn, hq, hkm', ← HZL.out, ← HFL.out, List.take_of_length_le (by rw [← HPS.out.1, ← HM.out]; exact Nat.le_refl _)])
      clear hn hq
      have hnl : (n : Int) = (len : Int) := by rw [HNL.out]
      go_wp2_with fail
      go_ret
      exact ⟨rfl, HS.out.2.2.2⟩
end Go.Proofs.YtealeefkeikcbabDoor
