/-
  A disk in memory is the document's: Crash.
-/
import Derived.Test.YtmomdfmilelilaaDkw0
namespace Go.Proofs.Ytmomdfmilelilaa
open Go.RowKit Go.Maps
set_option linter.unusedVariables false
attribute [local go_sem] Oper.semAt_some
set_option maxRecDepth 100000 in
set_option maxHeartbeats 8000000 in
theorem acrash {B d N : Nat} {S : Dsk} {A : Ad} {w : World} (h : DK B d S w) (ra : RA N S A) (keep part : Int) (hN : N < 1000000000) :
    Calls Try.prog 16 #[.pointer (some ⟨d, 0, none⟩), .int .i64 keep, .int .i64 part] w fun e w' => e = .returned (.int .i64 0) ∧ Did B d N S w (A.crash keep part) w' := by
  have hlo : S.loose.length ≤ 1000000000 := by have := ra.big; omega
  obtain ⟨la, n, lc, hlv⟩ : ∃ la n lc, S.lv = .slice la n lc := by
    rcases h.rest.hl.2 with ⟨h1, _⟩ | ⟨g, cap, cur, h1, _⟩
    · exact ⟨_, _, _, h1⟩
    · exact ⟨_, _, _, h1⟩
  have hnl : n ≤ lc ∧ n = S.loose.length := by
    rcases h.rest.hl.2 with ⟨h1, h2⟩ | ⟨g, cap, cur, h1, _, _, h3, _⟩
    · rw [hlv] at h1
      obtain ⟨_, e2, e3⟩ := Value.slice.inj h1
      omega
    · rw [hlv] at h1
      obtain ⟨_, e2, e3⟩ := Value.slice.inj h1
      omega
  obtain ⟨hnl, hnn⟩ := hnl
  have c3 := h.cells.2.2.2.1.trans (congrArg some hlv)
  have hdR := h.lt
  obtain ⟨kk, hkk0, hkk⟩ : ∃ kk : Nat, min (max keep 0) (n : Int) = (kk : Int) ∧ kk ≤ n := by
    by_cases hc : max keep 0 ≤ (n : Int)
    · exact ⟨(max keep 0).toNat, by omega, by omega⟩
    · exact ⟨n, by omega, Nat.le_refl _⟩
  obtain ⟨R, hR⟩ : ∃ R, R = w.heap.size := ⟨_, rfl⟩
  obtain ⟨w1, hw1⟩ : ∃ w1, w1 = (w.alloc (.cells #[.pointer (some ⟨d, 0, none⟩)] 23)).alloc (.cells #[.int .i64 part] 3) := ⟨_, rfl⟩
  have hb1 : Below w.heap.size w w1 := by rw [hw1]; exact ((Below.refl _ _).alloc (Nat.le_refl _) _).alloc (by simp) _
  have d0 : w1.cell? ⟨R, 0, none⟩ = some (.pointer (some ⟨d, 0, none⟩)) := by rw [hw1, hR]; simp
  have d1 : w1.cell? ⟨R + 1, 0, none⟩ = some (.int .i64 part) := by rw [hw1, hR]; simp
  have hs1 : w1.heap.size = R + 2 := by rw [hw1, hR]; simp
  have hk1 := h.below hb1
  have c31 : w1.cell? ⟨d, 3, none⟩ = some (.slice la n lc) := (hb1.cell (p := ⟨d, 3, none⟩) hdR).trans c3
  have hn9 : n ≤ 1000000000 := by omega
  have HK1 := Lib.hid hk1
  have HM1 := Lib.hid (Mov.ofBelow (S := S) (d := d) hb1)
  have HDK := Lib.hid h
  have HLV := Lib.hid hlv
  have HRA := Lib.hid ra
  have HNN := Lib.hid hnn
  have HKK := Lib.hid (show kk = (min (max keep 0) (A.loose.length : Int)).toNat from by rw [← ra.loose, ← hnn, hkk0]; omega)
  have HRW := Lib.hid hR.symm
  have HBK := Lib.hid (fun w => back_c (slc la lc kk) (n - kk) (lc - kk) w)
  refine (callsIn_wide (n := 3)).1 ?_
  refine callsIn_of_wp_marks Try.func16 rfl trivial ?_ rfl
  simp only [Try.ntmps16, List.size_toArray, List.length_cons, List.length_nil, Nat.reduceAdd, Nat.reduceSub, Array.replicate_succ, Array.replicate_zero, List.push_toArray, List.append_toArray, List.nil_append, List.cons_append]
  clear h hk1 hb1 hlv ra hnn c3 hlo
  gi_wp2_with fail
  rw [← hR, ← hw1]
  clear hR hw1
  have HS := Lib.hid (show World.cell? (World.drew w1) ⟨R, 0, none⟩ = some (.pointer (some ⟨d, 0, none⟩)) ∧ World.cell? (World.drew w1) ⟨d, 3, none⟩ = some (.slice la n lc) from ⟨d0, c31⟩)
  have HL0 := Lib.hid (fun W (hW : World.cell? W ⟨R, 0, none⟩ = some (.pointer (some ⟨d, 0, none⟩)) ∧ World.cell? W ⟨d, 3, none⟩ = some (.slice la n lc)) => run_cell_disk W ⟨R, 0, none⟩ _ hW.1)
  have HL3 := Lib.hid (fun W (hW : World.cell? W ⟨R, 0, none⟩ = some (.pointer (some ⟨d, 0, none⟩)) ∧ World.cell? W ⟨d, 3, none⟩ = some (.slice la n lc)) => run_cell_chgs W ⟨d, 3, none⟩ _ _ _ hW.2)
  (try dsimp only [Act.put, List.setIfInBounds_toArray, List.set_cons_zero, List.set_cons_succ])
  refine wpIn_wide.2 (wp_safe ?_)
  refine anyH_begin (S := fun W => World.cell? W ⟨R, 0, none⟩ = some (.pointer (some ⟨d, 0, none⟩)) ∧ World.cell? W ⟨d, 3, none⟩ = some (.slice la n lc)) (by kernel_rfl) ?_
  refine anyH_loadG 0 (d := 13) (ty := 23) (x := (.tmp 3)) (gd := none) (p := .pointer (some ⟨R, 0, none⟩)) (.pointer (some ⟨d, 0, none⟩)) (by rfl) (fun o ho => wanted_plain ho _) (by kernel_rfl) (by kernel_rfl) (by kernel_rfl) (fun _ _ _ h => h) (by rfl) HL0.out HS.out ?_
  simp only [Act.put, List.setIfInBounds_toArray, List.set_cons_zero, List.set_cons_succ]
  refine anyH_pureG 1 (d := 14) (op := .nilCheck (.tmp 13)) (gd := none) (.pointer (some ⟨d, 0, none⟩)) (by rfl) (fun o ho => wanted_plain ho _) (by kernel_rfl) (by kernel_rfl) (by kernel_rfl) (fun _ _ _ h => h) (fun o ho W hW => by unfold execOp; simp only [ho]; go_simp) HS.out ?_
  simp only [Act.put, List.setIfInBounds_toArray, List.set_cons_zero, List.set_cons_succ]
  refine anyH_pureG 2 (d := 15) (op := .fieldAddr 76 (.tmp 14) 3) (gd := none) (.pointer (some ⟨d, 3, none⟩)) (by rfl) (fun o ho => wanted_plain ho _) (by kernel_rfl) (by kernel_rfl) (by kernel_rfl) (fun _ _ _ h => h) (fun o ho W hW => by unfold execOp; simp only [ho]; go_simp) HS.out ?_
  simp only [Act.put, List.setIfInBounds_toArray, List.set_cons_zero, List.set_cons_succ]
  refine anyH_loadG 3 (d := 16) (ty := 74) (x := (.tmp 15)) (gd := none) (p := .pointer (some ⟨d, 3, none⟩)) (.slice la n lc) (by rfl) (fun o ho => wanted_plain ho _) (by kernel_rfl) (by kernel_rfl) (by kernel_rfl) (fun _ _ _ h => h) (by rfl) HL3.out HS.out ?_
  simp only [Act.put, List.setIfInBounds_toArray, List.set_cons_zero, List.set_cons_succ]
  refine anyH_pureG 4 (d := 17) (op := .move (.tmp 1)) (gd := none) (.int .i64 keep) (by rfl) (fun o ho => wanted_plain ho _) (by kernel_rfl) (by kernel_rfl) (by kernel_rfl) (fun _ _ _ h => h) (fun o ho W hW => by unfold execOp; simp only [ho]; go_simp) HS.out ?_
  simp only [Act.put, List.setIfInBounds_toArray, List.set_cons_zero, List.set_cons_succ]
  refine anyH_pureG 5 (d := 18) (op := .call { callee := .builtin .max, args := #[(.tmp 17), (.const (.int .i64 0))], argTypes := #[3, 3] }) (gd := none) (.int .i64 (max keep 0)) (by rfl) (fun o ho => wanted_plain ho _) (by kernel_rfl) (by kernel_rfl) (by kernel_rfl) (fun _ _ _ h => h) (fun o ho W1 hW => by unfold execOp; simp only [ho]; go_simp) HS.out ?_
  simp only [Act.put, List.setIfInBounds_toArray, List.set_cons_zero, List.set_cons_succ]
  refine anyH_loadG 6 (d := 19) (ty := 23) (x := (.tmp 3)) (gd := none) (p := .pointer (some ⟨R, 0, none⟩)) (.pointer (some ⟨d, 0, none⟩)) (by rfl) (fun o ho => wanted_plain ho _) (by kernel_rfl) (by kernel_rfl) (by kernel_rfl) (fun _ _ _ h => h) (by rfl) HL0.out HS.out ?_
  simp only [Act.put, List.setIfInBounds_toArray, List.set_cons_zero, List.set_cons_succ]
  refine anyH_pureG 7 (d := 20) (op := .nilCheck (.tmp 19)) (gd := none) (.pointer (some ⟨d, 0, none⟩)) (by rfl) (fun o ho => wanted_plain ho _) (by kernel_rfl) (by kernel_rfl) (by kernel_rfl) (fun _ _ _ h => h) (fun o ho W hW => by unfold execOp; simp only [ho]; go_simp) HS.out ?_
  simp only [Act.put, List.setIfInBounds_toArray, List.set_cons_zero, List.set_cons_succ]
  refine anyH_pureG 8 (d := 21) (op := .fieldAddr 76 (.tmp 20) 3) (gd := none) (.pointer (some ⟨d, 3, none⟩)) (by rfl) (fun o ho => wanted_plain ho _) (by kernel_rfl) (by kernel_rfl) (by kernel_rfl) (fun _ _ _ h => h) (fun o ho W hW => by unfold execOp; simp only [ho]; go_simp) HS.out ?_
  simp only [Act.put, List.setIfInBounds_toArray, List.set_cons_zero, List.set_cons_succ]
  refine anyH_loadG 9 (d := 22) (ty := 74) (x := (.tmp 21)) (gd := none) (p := .pointer (some ⟨d, 3, none⟩)) (.slice la n lc) (by rfl) (fun o ho => wanted_plain ho _) (by kernel_rfl) (by kernel_rfl) (by kernel_rfl) (fun _ _ _ h => h) (by rfl) HL3.out HS.out ?_
  simp only [Act.put, List.setIfInBounds_toArray, List.set_cons_zero, List.set_cons_succ]
  refine anyH_pureG 10 (d := 23) (op := .call { callee := .builtin .len, args := #[(.tmp 22)], argTypes := #[74] }) (gd := none) (.int .i64 (n : Int)) (by rfl) (fun o ho => wanted_plain ho _) (by kernel_rfl) (by kernel_rfl) (by kernel_rfl) (fun _ _ _ h => h) (fun o ho W hW => by unfold execOp; simp only [ho]; go_simp) HS.out ?_
  simp only [Act.put, List.setIfInBounds_toArray, List.set_cons_zero, List.set_cons_succ]
  refine anyH_pureG 11 (d := 24) (op := .call { callee := .builtin .min, args := #[(.tmp 18), (.tmp 23)], argTypes := #[3, 3] }) (gd := none) (.int .i64 (kk : Int)) (by rfl) (fun o ho => wanted_plain ho _) (by kernel_rfl) (by kernel_rfl) (by kernel_rfl) (fun _ _ _ h => h) (fun o ho W1 hW => by unfold execOp; simp only [ho]; go_simp; try exact hkk0) HS.out ?_
  simp only [Act.put, List.setIfInBounds_toArray, List.set_cons_zero, List.set_cons_succ]
  refine anyH_pureG 12 (d := 25) (op := .slice 74 (.tmp 16) (some (.tmp 24)) none none) (gd := none) (.slice (slc la lc kk) (n - kk) (lc - kk)) (by rfl) (fun o ho => wanted_plain ho _) (by kernel_rfl) (by kernel_rfl) (by kernel_rfl) (fun _ _ _ h => h) (fun o ho W1 hW => exec_lastN hkk hnl (x := .tmp 16) (y := .tmp 24) (by rfl) (by rfl) o ho W1) HS.out ?_
  simp only [Act.put, List.setIfInBounds_toArray, List.set_cons_zero, List.set_cons_succ]
  refine anyH_pureG 13 (d := 7) (op := .assign (.tmp 25)) (gd := none) (.slice (slc la lc kk) (n - kk) (lc - kk)) (by rfl) (fun o ho => wanted_plain ho _) (by kernel_rfl) (by kernel_rfl) (by kernel_rfl) (fun _ _ _ h => h) (fun o ho W hW => by unfold execOp; simp only [ho]; go_simp) HS.out ?_
  simp only [Act.put, List.setIfInBounds_toArray, List.set_cons_zero, List.set_cons_succ]
  refine wpAnyH_done (by kernel_rfl) ?_ _
  obtain ⟨w2, hw2⟩ : ∃ w2, w2 = w1.drew := ⟨_, rfl⟩
  rw [← hw2]
  have e0 : w2.cell? ⟨R, 0, none⟩ = some (.pointer (some ⟨d, 0, none⟩)) := by rw [hw2]; exact d0
  have e1 : w2.cell? ⟨R + 1, 0, none⟩ = some (.int .i64 part) := by rw [hw2]; exact d1
  have hs2 : w2.heap.size = R + 2 := by rw [hw2]; exact hs1
  have HK2 := Lib.hid (show DK B d S w2 from by rw [hw2]; exact HK1.out.below (Below.refl _ _).drew)
  have HM2 := Lib.hid (show Mov S d S w w2 from by rw [hw2]; exact HM1.out.trans (Mov.ofBelow (Below.refl _ _).drew))
  clear hw2 d0 d1 c31 hs1 HK1 HM1 HS HL0 HL3 hkk0
  have E0 := Lib.hid e0
  have E1 := Lib.hid e1
  clear e0 e1
  gi_wp2_with (refine ⟨trivial, ?_⟩; gi_at_call 45; refine (callsIn_wide.2 (HBK.out _)).mono ?_; rintro e w3 ⟨rfl, hw3⟩; have HW3 := Lib.hid hw3; clear hw3)
  (try rw [hs2])
  have HI := Lib.hid (show CP B d S A (A.fin keep part) part w n kk la lc R [] w3 from by
    have hb : Below w2.heap.size w2 w3 := by rw [HW3.out]; exact (Below.refl _ _).alloc (Nat.le_refl _) _
    refine ⟨n - kk, Nat.le_refl _, (outs_end _ _).symm, (hb.cell (p := ⟨R, 0, none⟩) (by show R < _; omega)).trans E0.out, (hb.cell (p := ⟨R + 1, 0, none⟩) (by show R + 1 < _; omega)).trans E1.out, by rw [HW3.out, ← hs2]; simp, by rw [HW3.out]; simp [hs2], ?_⟩
    exact CJ.start (HK2.out.below hb) (HM2.out.trans (Mov.ofBelow hb)) HDK.out HRW.out HRA.out hkk HNN.out HKK.out)
  have hsz3 : w3.heap.size = R + 3 := by rw [HW3.out]; simp [hs2]
  clear HW3 HBK HK2 HM2 E0 E1 hs2
  refine range_mem (F := Fence.wide) (n := 3) rfl (by omega) (gf := 82) (lb := #[.pointer (some ⟨R + 2, 0, none⟩)]) rfl trivial (enters_of Try.func82 (by kernel_rfl) rfl)
    (enc := encI) (outs (chE S kk) (n - kk) 0) (fun pre x => ∃ q, q < n - kk ∧ pre = outs (chE S kk) (n - kk) (q + 1) ∧ x = (q, chE S kk q)) (fun W1 => ItN (R + 2) (slc la lc kk) (n - kk) (lc - kk) (chE S kk) W1) (fun x => rfl)
    (fun l J Jx W1 hIt hY h0 => backN_c l (R + 2) (n - kk) (lc - kk) (slc la lc kk) (chE S kk) (by omega) J Jx W1 (fun s W2 h => hIt s W2 h) (fun q hq W2 h => by
      have := hY _ (q, chE S kk q) W2 h ⟨q, hq, rfl, rfl⟩
      rw [← outs_step _ _ _ hq] at this
      exact this) h0)
    (fun pre W1 => CP B d S A (A.fin keep part) part w n kk la lc R pre W1) (fun _ _ => False) (fun s W1 W2 hk h => h.keepL HRW.out HDK.out (by rw [← hsz3]; exact hk)) (fun _ _ _ _ h => h) (fun s W1 h => by
      obtain ⟨q, _, _, h⟩ := h
      obtain ⟨S', l', k1, _, _, k2, k3, _⟩ := h.ex
      exact k1.itn HLV.out k2 k3 hkk h.bx) HI.out
    (fun pre x a1 W1 => ∃ (X : Nat) (c : Chg) (rp : Option Addr), a1 = { tmps := #[.pointer (some ⟨d, 0, none⟩), .int .i64 keep, .int .i64 part, .pointer (some ⟨R, 0, none⟩), undef, .pointer (some ⟨R + 1, 0, none⟩), .int .i64 0, .slice (slc la lc kk) (n - kk) (lc - kk), .int .i64 (x.1 : Int), .pointer (some ⟨X, 0, none⟩), undef, .pointer (some ⟨d, 0, none⟩), .bool false, .pointer (some ⟨d, 0, none⟩), .pointer (some ⟨d, 0, none⟩), .pointer (some ⟨d, 3, none⟩), .slice la n lc, .int .i64 keep, .int .i64 (max keep 0), .pointer (some ⟨d, 0, none⟩), .pointer (some ⟨d, 0, none⟩), .pointer (some ⟨d, 3, none⟩), .slice la n lc, .int .i64 (n : Int), .int .i64 (kk : Int), .slice (slc la lc kk) (n - kk) (lc - kk), .slice (slc la lc kk) (n - kk) (lc - kk), .func (.func 82) #[] #[.pointer (some ⟨R + 2, 0, none⟩)], .int .i64 (x.1 : Int), .agg x.2.toArray, undef, undef, undef, undef, undef, undef, undef, undef, undef, undef, undef, undef, undef, undef, undef, undef, undef, undef], defers := [] } ∧ S.loose[kk + x.1]? = some c ∧ rp = c.repl.map (fun b => ⟨b, 0, none⟩) ∧ x.2 = [.int .i64 c.kind, .pointer (some ⟨c.file, 0, none⟩), .int .i64 c.size, .string c.name, .pointer rp] ∧ R + 4 < X ∧ X < W1.heap.size ∧ CX5 X c rp W1 ∧ CP B d S A (A.fin keep part) part w n kk la lc R pre W1)
    (fun s x a W1 W2 hk h => by obtain ⟨X, c, rp, h1, h2, h3, h4, h5, h6, h7, h8⟩ := h; exact ⟨X, c, rp, h1, h2, h3, h4, h5, Nat.lt_of_lt_of_le h6 hk.size, h7.keepL (by rw [← hsz3]; exact hk) h5, h8.keepL HRW.out HDK.out (by rw [← hsz3]; exact hk)⟩) ?assign ?body ?done ?stop
  case assign =>
    rintro l pre x W1 hi ⟨q, hq, rfl, rfl⟩ hlt
    rw [hsz3] at hlt
    have HI1 := Lib.hid hi
    clear hi HI
    have hlen : kk + q < S.loose.length := by have := HNN.out; omega
    obtain ⟨c, hc⟩ : ∃ c, S.loose[kk + q]? = some c := ⟨_, List.getElem?_eq_getElem hlen⟩
    obtain ⟨rp, hrp⟩ : ∃ rp : Option Addr, rp = c.repl.map (fun b => ⟨b, 0, none⟩) := ⟨_, rfl⟩
    have hE : chE S kk q = [.int .i64 c.kind, .pointer (some ⟨c.file, 0, none⟩), .int .i64 c.size, .string c.name, .pointer rp] := by
      unfold chE
      rw [hc, hrp]
      rfl
    have HC := Lib.hid hc
    have HRP := Lib.hid hrp
    clear hc hrp
    simp only [encI, hE]
    gi_wp2
    have hb := (Below.refl W1.heap.size W1).alloc (Nat.le_refl _) (.cells #[.int .i64 c.kind, .pointer (some ⟨c.file, 0, none⟩), .int .i64 c.size, .string c.name, .pointer rp] 90)
    exact ⟨hb.block _ (by omega), hb.block _ (by omega), _, c, rp, rfl, HC.out, HRP.out, rfl, by omega, by simp, ⟨by simp, by simp, by simp, by simp, by simp⟩, HI1.out.later hb⟩
  case body =>
    rintro l pre x a1 W1 ⟨X, c, rp, rfl, hc, hrp, hx2, hX, hXs, ⟨c0, c1, c2, c3, c4⟩, hi⟩ ⟨q, hq, rfl, rfl⟩ hlt
    rw [hsz3] at hlt
    have hcj := hi.at hq
    have i0 := hcj.box
    have i1 := hcj.prt
    simp only at hx2 hc
    have HI1 := Lib.hid hcj
    have HSTEP := Lib.hid (outs_step (chE S kk) (n - kk) q hq)
    rw [hx2] at HSTEP
    clear hi
    simp only [hx2]
    by_cases hq0 : q = 0
    · subst hq0
      obtain ⟨st, hst, hs1⟩ : ∃ st : Nat, min (max part 0) 1048576 = (st : Int) ∧ st ≤ 1048576 := ⟨(min (max part 0) 1048576).toNat, by omega, by omega⟩
      have HU := Lib.hid (CJ.undo HRW.out HDK.out hcj HRA.out hq HNN.out HKK.out (by omega) hc rp hrp st hs1 (.inl ⟨rfl, hst⟩) hN)
      clear hcj HI hc hrp
      gi_wp2_with (refine ⟨trivial, ?_⟩; gi_at_call 46; refine (CallsIn.inRound l (callsIn_wide.2 HU.out)).mono ?_; rintro e w2 ⟨rfl, hci, hkp⟩; have HCI := Lib.hid hci; have HKP := Lib.hid hkp; clear hci hkp c0 c1 c2 c3 c4 i0 i1)
      exact ⟨by rw [hsz3]; exact HKP.out _ (by omega) (by omega), by rw [hsz3]; exact HKP.out _ (by omega) (by omega), 0, Nat.zero_le _, HSTEP.out.symm, HCI.out⟩
    · have hq1 : ((q : Int) == 0) = false := beq_eq_false_iff_ne.2 (by omega)
      have HU := Lib.hid (CJ.undo HRW.out HDK.out hcj HRA.out hq HNN.out HKK.out (by omega) hc rp hrp 0 (by omega) (.inr ⟨hq0, rfl⟩) hN)
      clear hcj HI hc hrp
      gi_wp2_with (refine ⟨trivial, ?_⟩; gi_at_call 46; refine (CallsIn.inRound l (callsIn_wide.2 HU.out)).mono ?_; rintro e w2 ⟨rfl, hci, hkp⟩; have HCI := Lib.hid hci; have HKP := Lib.hid hkp; clear hci hkp c0 c1 c2 c3 c4 i0 i1)
      exact ⟨by rw [hsz3]; exact HKP.out _ (by omega) (by omega), by rw [hsz3]; exact HKP.out _ (by omega) (by omega), q, by omega, HSTEP.out.symm, HCI.out⟩
  case done =>
    rintro D W1 hD hi hK
    rw [hsz3] at hD
    subst hD
    have hcj := hi.end
    obtain ⟨S', l', h1, h2, h3, h4, h5, h6, h7, h8, h9, h10, h11, h12, h13⟩ := hcj.ex
    have k0 := h1.below (Below.refl _ _).drew
    have m0 := h2.trans (Mov.ofBelow (S := S') (d := d) (Below.refl _ _).drew)
    obtain ⟨k1, m1⟩ := k0.sync
    obtain ⟨k2, m2, t1⟩ := k1.cellSet 4 (.int .i64 (-1)) { S'.sure with fuse := -1 } rfl (by omega) rfl ⟨rfl, rfl, rfl⟩
    obtain ⟨k3, m3, t2⟩ := k2.cellSet 5 (.bool false) { S'.sure with fuse := -1, down := false } rfl (by omega) rfl ⟨rfl, rfl, rfl⟩
    have hown : ∀ k, ({ S'.sure with fuse := -1, down := false } : Dsk).own d k → S'.own d k := fun k ho => by
      rcases ho with ho | ho | ho | ho | ho
      · exact .inl ho
      · exact .inr (.inl ho)
      · exact .inr (.inr (.inl ho))
      · exact .inr (.inr (.inr (.inl ho)))
      · cases ho
    have hnR : ∀ k, ({ S'.sure with fuse := -1, down := false } : Dsk).own d k → k ≠ R + 3 := fun k ho => by
      have h14 := h3 k (hown k ho)
      omega
    have HT0 := Lib.hid (row_there k0.hd (o := 3) (by show 3 < 6; omega))
    have HTH0 := Lib.hid HT0.out
    have HTH1 := Lib.hid t1
    have HTH2 := Lib.hid t2
    have HZ := Lib.hid k3
    have HMZ := Lib.hid (((m0.trans m1).trans m2).trans m3)
    have HNR := Lib.hid hnR
    have HEX := Lib.hid (CJ.over HRA.out h4 h5 h6 h7 h8 h9 h10 h11 (h12 rfl) HNN.out)
    have HK := Lib.hid (show W1.drew.heap[R + 3]? = some (.deferred (some [])) from hK)
    have hb0 := hcj.box
    have HS := Lib.hid (show W1.drew.cell? ⟨R, 0, none⟩ = some (.pointer (some ⟨d, 0, none⟩)) from hb0)
    have HL0 := Lib.hid (fun W2 (hW : W2.cell? ⟨R, 0, none⟩ = some (.pointer (some ⟨d, 0, none⟩))) => run_cell_disk W2 _ _ hW)
    clear hi hcj HI h1 h2 h3 h4 h5 h6 h7 h8 h9 h10 h11 h12 h13 k0 m0 k1 m1 k2 m2 t1 k3 m3 t2 hown hnR hK hb0
    have hRW := HRW.out
    have hdR' : d < R := by omega
    gi_wp2
    (try dsimp only [Act.put, List.setIfInBounds_toArray, List.set_cons_zero, List.set_cons_succ])
    refine wpIn_wide.2 (wp_safe ?_)
    refine anyH_begin (S := fun W2 => W2.cell? ⟨R, 0, none⟩ = some (.pointer (some ⟨d, 0, none⟩))) (by kernel_rfl) ?_
    refine anyH_loadG 0 (d := 39) (ty := 23) (x := (.tmp 3)) (gd := none) (p := .pointer (some ⟨R, 0, none⟩)) (.pointer (some ⟨d, 0, none⟩)) (by rfl) (fun o ho => wanted_plain ho _) (by kernel_rfl) (by kernel_rfl) (by kernel_rfl) (fun _ _ _ h => h) (by rfl) HL0.out HS.out ?_
    simp only [Act.put, List.setIfInBounds_toArray, List.set_cons_zero, List.set_cons_succ]
    refine anyH_loadG 1 (d := 40) (ty := 23) (x := (.tmp 3)) (gd := none) (p := .pointer (some ⟨R, 0, none⟩)) (.pointer (some ⟨d, 0, none⟩)) (by rfl) (fun o ho => wanted_plain ho _) (by kernel_rfl) (by kernel_rfl) (by kernel_rfl) (fun _ _ _ h => h) (by rfl) HL0.out HS.out ?_
    simp only [Act.put, List.setIfInBounds_toArray, List.set_cons_zero, List.set_cons_succ]
    refine anyH_loadG 2 (d := 41) (ty := 23) (x := (.tmp 3)) (gd := none) (p := .pointer (some ⟨R, 0, none⟩)) (.pointer (some ⟨d, 0, none⟩)) (by rfl) (fun o ho => wanted_plain ho _) (by kernel_rfl) (by kernel_rfl) (by kernel_rfl) (fun _ _ _ h => h) (by rfl) HL0.out HS.out ?_
    simp only [Act.put, List.setIfInBounds_toArray, List.set_cons_zero, List.set_cons_succ]
    refine anyH_pureG 3 (d := 42) (op := .nilCheck (.tmp 39)) (gd := none) (.pointer (some ⟨d, 0, none⟩)) (by rfl) (fun o ho => wanted_plain ho _) (by kernel_rfl) (by kernel_rfl) (by kernel_rfl) (fun _ _ _ h => h) (fun o ho W hW => by unfold execOp; simp only [ho]; go_simp) HS.out ?_
    simp only [Act.put, List.setIfInBounds_toArray, List.set_cons_zero, List.set_cons_succ]
    refine anyH_pureG 4 (d := 43) (op := .fieldAddr 76 (.tmp 42) 3) (gd := none) (.pointer (some ⟨d, 3, none⟩)) (by rfl) (fun o ho => wanted_plain ho _) (by kernel_rfl) (by kernel_rfl) (by kernel_rfl) (fun _ _ _ h => h) (fun o ho W hW => by unfold execOp; simp only [ho]; go_simp) HS.out ?_
    simp only [Act.put, List.setIfInBounds_toArray, List.set_cons_zero, List.set_cons_succ]
    refine wpAnyH_all (rs := [5]) (by kernel_rfl) (by simp) ?_
    intro k hk; simp only [List.mem_cons, List.not_mem_nil, or_false] at hk; subst hk
    refine op_atJ 5 (d := none) (op := .store 74 (.tmp 43) (.const (.slice none 0 0))) (by rfl) ?_
    intro o0 hod0 hoo0
    refine wp_store_one 74 (.tmp 43) (.const (.slice none 0 0)) hoo0 d 3 (.slice none 0 0) (by rfl) (by rfl) HTH0.out (by kernel_rfl) (by rfl) (by rfl) ?_
    rw [hod0]
    simp only [Act.put, List.setIfInBounds_toArray, List.set_cons_zero, List.set_cons_succ]
    have HS := Lib.hid ((one_cell (o := 3) (v := .slice none 0 0) (show R ≠ d by omega)).trans HS.out)
    refine ⟨HS.out, ?_⟩
    refine anyH_pureG 6 (d := 44) (op := .nilCheck (.tmp 40)) (gd := none) (.pointer (some ⟨d, 0, none⟩)) (by rfl) (fun o ho => wanted_plain ho _) (by kernel_rfl) (by kernel_rfl) (by kernel_rfl) (fun _ _ _ h => h) (fun o ho W hW => by unfold execOp; simp only [ho]; go_simp) HS.out ?_
    simp only [Act.put, List.setIfInBounds_toArray, List.set_cons_zero, List.set_cons_succ]
    refine anyH_pureG 7 (d := 45) (op := .fieldAddr 76 (.tmp 44) 4) (gd := none) (.pointer (some ⟨d, 4, none⟩)) (by rfl) (fun o ho => wanted_plain ho _) (by kernel_rfl) (by kernel_rfl) (by kernel_rfl) (fun _ _ _ h => h) (fun o ho W hW => by unfold execOp; simp only [ho]; go_simp) HS.out ?_
    simp only [Act.put, List.setIfInBounds_toArray, List.set_cons_zero, List.set_cons_succ]
    refine wpAnyH_all (rs := [8]) (by kernel_rfl) (by simp) ?_
    intro k hk; simp only [List.mem_cons, List.not_mem_nil, or_false] at hk; subst hk
    refine op_atJ 8 (d := none) (op := .store 3 (.tmp 45) (.const (.int IntKind.i64 (-1)))) (by rfl) ?_
    intro o1 hod1 hoo1
    refine wp_store_one 3 (.tmp 45) (.const (.int .i64 (-1))) hoo1 d 4 (.int .i64 (-1)) (by rfl) (by rfl) HTH1.out (by kernel_rfl) (by rfl) (by rfl) ?_
    rw [hod1]
    simp only [Act.put, List.setIfInBounds_toArray, List.set_cons_zero, List.set_cons_succ]
    have HS := Lib.hid ((one_cell (o := 4) (v := .int .i64 (-1)) (show R ≠ d by omega)).trans HS.out)
    refine ⟨HS.out, ?_⟩
    refine anyH_pureG 9 (d := 46) (op := .nilCheck (.tmp 41)) (gd := none) (.pointer (some ⟨d, 0, none⟩)) (by rfl) (fun o ho => wanted_plain ho _) (by kernel_rfl) (by kernel_rfl) (by kernel_rfl) (fun _ _ _ h => h) (fun o ho W hW => by unfold execOp; simp only [ho]; go_simp) HS.out ?_
    simp only [Act.put, List.setIfInBounds_toArray, List.set_cons_zero, List.set_cons_succ]
    refine anyH_pureG 10 (d := 47) (op := .fieldAddr 76 (.tmp 46) 5) (gd := none) (.pointer (some ⟨d, 5, none⟩)) (by rfl) (fun o ho => wanted_plain ho _) (by kernel_rfl) (by kernel_rfl) (by kernel_rfl) (fun _ _ _ h => h) (fun o ho W hW => by unfold execOp; simp only [ho]; go_simp) HS.out ?_
    simp only [Act.put, List.setIfInBounds_toArray, List.set_cons_zero, List.set_cons_succ]
    refine wpAnyH_all (rs := [11]) (by kernel_rfl) (by simp) ?_
    intro k hk; simp only [List.mem_cons, List.not_mem_nil, or_false] at hk; subst hk
    refine op_atJ 11 (d := none) (op := .store 4 (.tmp 47) (.const (.bool false))) (by rfl) ?_
    intro o2 hod2 hoo2
    refine wp_store_one 4 (.tmp 47) (.const (.bool false)) hoo2 d 5 (.bool false) (by rfl) (by rfl) HTH2.out (by kernel_rfl) (by rfl) (by rfl) ?_
    rw [hod2]
    simp only [Act.put, List.setIfInBounds_toArray, List.set_cons_zero, List.set_cons_succ]
    have HS := Lib.hid ((one_cell (o := 5) (v := .bool false) (show R ≠ d by omega)).trans HS.out)
    refine ⟨HS.out, ?_⟩
    refine wpAnyH_done (by kernel_rfl) ?_ _
    clear HL0 HS HT0 HTH0 HTH1 HTH2
    have HK3 := Lib.hid (show (((W1.drew.setCells d 3 [.slice none 0 0]).setCells d 4 [.int .i64 (-1)]).setCells d 5 [.bool false]).heap[R + 3]? = some (.deferred (some [])) from by
      rw [one_heap (by omega), one_heap (by omega), one_heap (by omega)]; exact HK.out)
    obtain ⟨w9, hw9⟩ : ∃ w9, w9 = ((W1.drew.setCells d 3 [.slice none 0 0]).setCells d 4 [.int .i64 (-1)]).setCells d 5 [.bool false] := ⟨_, rfl⟩
    have HZ9 := Lib.hid (show DK B d { S'.sure with fuse := -1, down := false } w9 from by rw [hw9]; exact HZ.out)
    have HM9 := Lib.hid (show Mov S d { S'.sure with fuse := -1, down := false } w w9 from by rw [hw9]; exact HMZ.out)
    rw [← hw9] at HK3 ⊢
    clear hw9 HK HZ HMZ
    gi_wp2
    refine ⟨by simp, .inl ⟨_, _, rfl, run_takeDeferred HK3.out, ?_⟩⟩
    refine ⟨.int .i64 0, ?_, rfl, { S'.sure with fuse := -1, down := false }, ?_, HEX.out, ?_⟩
    · simp [results, Try.f16, go_sem]
    · exact HZ9.out.keep (fun k ho => World.putObj_heap_other (HNR.out k ho))
    · have m := HM9.out
      exact ⟨m.os, m.tape, m.output, by show w.heap.size ≤ (w9.putObj (R + 3) _).heap.size; simp only [World.putObj, Array.size_setIfInBounds]; exact m.size, fun k hk hn => (World.putObj_heap_other (by omega)).trans (m.block k hk hn), m.own⟩
  case stop =>
    rintro D pre W1 hD hf
    exact hf.elim
end Go.Proofs.Ytmomdfmilelilaa
