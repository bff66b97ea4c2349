/-
  The walk over the document's Close.
-/
import Derived.Test.YthnfbdmkdpokcaaDoorRwr
import Derived.Test.YthnfbdmkdpokcaaDoorRgl
import Derived.Test.YthnfbdmkdpokcaaDoorPut
namespace Go.Proofs.YthnfbdmkdpokcaaDoor
open Go.RowKit
set_option linter.unusedVariables false

/-- the document's state behind the bytes q -/
def CQ (w : World) (hs q : List Nat) (n : Nat) (W : World) : Prop := ∃ a c, RS W w.heap.size (Sha.run hs q) n (.slice a (Sha.rest q).length c) ∧ Own W (w.heap.size + 2) (.slice a (Sha.rest q).length c) (Sha.rest q) ∧
  Brow W (w.heap.size + 1) 26 zs32 ∧ Below w.heap.size w W ∧ w.heap.size + 2 ≤ W.heap.size
/-- a state was handed back and is stored -/
theorem CQ.store {w W W' : World} {hs H q : List Nat} {n n0 : Nat} {v0 v : Value} (h8 : Sha.W8 hs) (hr : RS W w.heap.size H n0 v0) (hb : Brow W (w.heap.size + 1) 26 zs32) (hB : Below w.heap.size w W) (hs2 : w.heap.size + 2 ≤ W.heap.size)
    (ho : Own W' W.heap.size v (Sha.rest q)) (hw : Below W.heap.size W W') : CQ w hs q n (W'.setRow w.heap.size (rsCells (Sha.run hs q) n v).toArray) := by
  obtain ⟨a, l, c, rfl⟩ := ho.isSlice
  have hl : l = (Sha.rest q).length := by
    rcases ho.2 with ⟨h, hn⟩ | ⟨b, cap, cur, h, _⟩
    · cases h; exact hn.symm
    · cases h; rfl
  subst hl
  have o : Only w.heap.size W' (W'.setRow w.heap.size (rsCells (Sha.run hs q) n (.slice a (Sha.rest q).length c)).toArray) := (Only.refl _ _).setRow _
  have hsz := hw.size
  exact ⟨a, c, (hr.below hw (by omega)).setAll (h8.run q).1, (ho.base (by omega)).only o (by omega), (hb.below hw (by omega)).only o (by omega), (hB.trans (hw.mono (by omega))).trans (o.below (Nat.le_refl _) (by omega)), Nat.le_trans (Nat.le_trans hs2 hw.size) o.size⟩
theorem CQ.stored {w W W' : World} {hs H q : List Nat} {n n0 : Nat} {v0 v : Value} (h8 : Sha.W8 hs) (hr : RS W w.heap.size H n0 v0) (hb : Brow W (w.heap.size + 1) 26 zs32) (hB : Below w.heap.size w W) (hs2 : w.heap.size + 2 ≤ W.heap.size)
    (ho : Own W' W.heap.size v (Sha.rest q)) (hw : Below W.heap.size W W') : CQ w hs q n (W'.setCells w.heap.size 0 (rsCells (Sha.run hs q) n v)) := by
  obtain ⟨a, l, c, rfl⟩ := ho.isSlice
  have hl : l = (Sha.rest q).length := by
    rcases ho.2 with ⟨h, hn⟩ | ⟨b, cap, cur, h, _⟩
    · cases h; exact hn.symm
    · cases h; rfl
  subst hl
  have o : Only w.heap.size W' (W'.setCells w.heap.size 0 (rsCells (Sha.run hs q) n (.slice a (Sha.rest q).length c))) := Only.setCells _ _ (Only.refl _ _)
  have hsz := hw.size
  have hr' := hr.below hw (by omega)
  have hl1 : (rsCells (Sha.run hs q) n (.slice a (Sha.rest q).length c)).length = (rsCells H n0 v0).length := by rw [rsCells_len (h8.run q).1, rsCells_len hr.l8]
  have hrow := setCells_row w.heap.size _ (rsCells (Sha.run hs q) n (.slice a (Sha.rest q).length c)) 0 _ _ hr'.row (by omega)
  rw [show splice (rsCells H n0 v0) 0 (rsCells (Sha.run hs q) n (.slice a (Sha.rest q).length c)) = rsCells (Sha.run hs q) n (.slice a (Sha.rest q).length c) from by
    unfold splice
    rw [List.take_zero, List.nil_append, List.drop_eq_nil_of_le (by omega), List.append_nil]] at hrow
  exact ⟨a, c, ⟨hrow, (h8.run q).1⟩, (ho.base (by omega)).only o (by omega), (hb.below hw (by omega)).only o (by omega), (hB.trans (hw.mono (by omega))).trans (o.below (Nat.le_refl _) (by omega)), Nat.le_trans (Nat.le_trans hs2 hw.size) o.size⟩
theorem rs_one {B : Nat} {W : World} {v : Value} {T : List Nat} (ho : Own W B v T) (H : List Nat) (n : Nat) : (rsCells H n v).toArray.all (·.oneCell') = true := by
  obtain ⟨a, l, c, rfl⟩ := ho.isSlice
  exact rsCells_one _ _ _ _ _
theorem rs_info {H : List Nat} {n : Nat} {v : Value} (h : H.length = 8) : (Tryd.prog.info? 106).map (·.size) = some (rsCells H n v).toArray.size := by rw [List.size_toArray, rsCells_len h]; exact info_rs
theorem rs_size {H H' : List Nat} {n n' : Nat} {v v' : Value} (h : H.length = 8) (h' : H'.length = 8) : (rsCells H n v).toArray.size = (rsCells H' n' v').toArray.size := by rw [List.size_toArray, List.size_toArray, rsCells_len h, rsCells_len h']
theorem rd_one (W : World) (x : Nat) (hx : x < 256) : Rd (W.alloc (.cells #[.int .u8 (x : Int)] 5)) (some ⟨W.heap.size, 0, none⟩) 1 [x] := by
  refine ⟨rfl, by simpa using hx, .inr ⟨W.heap.size, 0, rfl, by simp, fun i hi => ?_⟩⟩
  obtain rfl : i = 0 := by omega
  rw [cell_of_row _ _ _ _ _ _ (heap_new _ _)]
  rfl
theorem gen_exit {Q : Exit → Act → World → Prop} {x : Exit} {a : Act} {W : World} {F : World → Prop} (h : F W) (k : ∀ w, F w → Q x a w) : Q x a W := k W h
/-- while the bytes of the words are put -/
def DA (w : World) (D : Nat) (M : List Nat) (n : Nat) (v : Value) (ys : List Nat) (wr : World) : Prop :=
  RS wr w.heap.size M n v ∧ Brow wr (w.heap.size + 1) 26 zs32 ∧ Brow wr D 26 (ys ++ List.replicate (32 - ys.length) 0) ∧ Below w.heap.size w wr ∧ w.heap.size + 2 ≤ D
theorem DA.step {w wr w' : World} {D n : Nat} {M ys : List Nat} {v : Value} (h : DA w D M n v ys wr) (hb : Below wr.heap.size wr w') : DA w D M n v ys w' :=
  ⟨h.1.below hb h.1.lt, h.2.1.below hb h.2.1.lt, h.2.2.1.below hb h.2.2.1.lt, h.2.2.2.1.trans (hb.mono (by have := h.2.2.1.lt; have := h.2.2.2.2; omega)), h.2.2.2.2⟩
theorem DA.snoc {w wr : World} {D n : Nat} {M ys : List Nat} {v : Value} (h : DA w D M n v ys wr) (z : Nat) (hy : ys.length < 32) : DA w D M n v (ys ++ [z]) (wr.setCell ⟨D, ys.length, none⟩ (.int .u8 (z : Int))) := by
  have o : Only D wr (wr.setCell ⟨D, ys.length, none⟩ (.int .u8 (z : Int))) := (Only.refl _ _).setCell _ _
  have hD := h.2.2.2.2
  refine ⟨h.1.only o (by omega), h.2.1.only o (by omega), ?_, h.2.2.2.1.trans (o.below (by omega) (by have := h.2.2.1.lt; omega)), hD⟩
  have h3 := h.2.2.1.set ys.length z
  rw [List.set_append_right _ _ (Nat.le_refl _), Nat.sub_self, show 32 - ys.length = (32 - (ys.length + 1)) + 1 by omega, List.replicate_succ, List.set_cons_zero] at h3
  rw [List.length_append, List.length_singleton, List.append_assoc]
  exact h3
theorem info_a32b : (Tryd.prog.info? 26).map (·.size) = some 32 := by kernel_rfl
/-- how many zeros come in -/
def zeros (t : Nat) : Nat := if t < 56 then 55 - t else 119 - t
theorem padded_zeros (tail : List Nat) (n : Nat) : Sha.padded tail n = tail ++ [128] ++ List.replicate (zeros tail.length) 0 ++ Numm.put (8 * n) 8 := by
  unfold Sha.padded zeros
  split <;> rfl
theorem zeros_on (t j : Nat) (ht : t < 64) (hj : j ≤ zeros t) : (t + 1 + j) % 64 = 56 ↔ j = zeros t := by
  unfold zeros at *
  split at hj <;> split <;> omega
set_option maxRecDepth 100000 in
set_option maxHeartbeats 2000000 in
theorem rclose_c (hs tail : List Nat) (n : Nat) (ta : Option Addr) (tl tc : Nat) (w : World) (h8 : Sha.W8 hs) (hrt : Rd w ta tl tail) (htl : tl < 64) (hn : n ≤ 2305843009213693951) :
    Calls Tryd.prog 66 #[.agg (rsCells hs n (.slice ta tl tc)).toArray] w (DigRet (Sha.close hs tail n) w) := by
  have H8 := Lib.hid h8
  have HRT := Lib.hid hrt
  clear h8 hrt
  go_enter Tryd.func66, Tryd.ntmps66
  go_upto_region 1 with fail
  refine gen_code (F := fun W => RS W w.heap.size hs n (.slice ta tl tc) ∧ Brow W (w.heap.size + 1) 26 zs32 ∧ Below w.heap.size w W ∧ w.heap.size + 2 ≤ W.heap.size) ⟨⟨(heap_new2 _ _ _).1, H8.out.1⟩, (heap_new2 _ _ _).2, ((Below.refl _ _).alloc (Nat.le_refl _) _).alloc (by simp) _, by simp⟩ ?_
  rintro wA ⟨ha, hb, hB, hsz⟩
  have HA := Lib.hid ha
  have HB := Lib.hid hb
  have HBB := Lib.hid hB
  have HSZ := Lib.hid hsz
  have hc8 := ha.num
  clear ha hb hB hsz
  go_upto_region 2 with fail
  clear hc8
  go_wp2_with (first | (refine wpList_load_row (by rfl) 106 _ (by rfl) w.heap.size (by rfl) _ (rsCells hs n (.slice ta tl tc)).toArray (0, 0) _ HA.out.row Tryd.underlying106 (by rfl) (rs_info HA.out.l8) ?_))
  have HAL := Lib.hid (show Below wA.heap.size wA (wA.alloc (.cells #[.int .u8 ((128 : Nat) : Int)] 5)) from (Below.refl _ _).alloc (Nat.le_refl _) _)
  refine (rwrite_c hs tail [128] n ta (some ⟨wA.heap.size, 0, none⟩) tl tc 1 1 _ H8.out ((HRT.out.below HBB.out).below HAL.out) htl (rd_one wA 128 (by decide)) (by decide) (by omega)).mono ?_
  rintro en wB ⟨v, rfl, hov, hbv⟩
  have hbA : Below wA.heap.size wA wB := HAL.out.trans (hbv.mono HAL.out.size)
  have HOV := Lib.hid (hov.base (B' := wA.heap.size) HAL.out.size)
  have HQ := Lib.hid (CQ.store (n := n + 1) H8.out HA.out HB.out HBB.out HSZ.out HOV.out hbA)
  have HROW := Lib.hid (HA.out.below hbA (by have := HSZ.out; omega)).row
  have HI1 := Lib.hid (rs_info (n := n + 1) (v := v) (H8.out.run (tail ++ [128])).1)
  have HS1 := Lib.hid (rs_size (n := n) (n' := n + 1) (v := .slice ta tl tc) (v' := v) H8.out.1 (H8.out.run (tail ++ [128])).1)
  have HO1 := Lib.hid (rs_one HOV.out (Sha.run hs (tail ++ [128])) (n + 1))
  obtain ⟨C, hC⟩ : ∃ C, C = (rsCells (Sha.run hs (tail ++ [128])) (n + 1) v).toArray := ⟨_, rfl⟩
  rw [← hC] at HQ HI1 HS1 HO1 ⊢
  clear hC hov hbv hbA HAL HOV
  go_wp2_with (first | (refine wpList_store_row (by rfl) 106 _ _ (by rfl) w.heap.size C (by rfl) (by rfl) 106 (rsCells hs n (.slice ta tl tc)).toArray HROW.out HI1.out HS1.out HO1.out ?_))
  clear HROW HI1 HS1 HO1 HA HB HBB HSZ
  simp only [Act.put]
  go_loopw [] (fun wr => ∃ j : Nat, j ≤ zeros tl ∧ Hid (CQ w hs (tail ++ [128] ++ List.replicate j 0) (n + 1 + j) wr)) (fun wr => zeros tl + n + 1 - (intOf ((wr.cell? ⟨w.heap.size, 8, none⟩).getD undef)).toNat)
  case atStart => exact ⟨0, Nat.zero_le _, by rw [List.replicate_zero, List.append_nil]; exact HQ⟩
  case round =>
    clear HQ
    obtain ⟨j, hj, HQ⟩ := hrel
    obtain ⟨q, hq⟩ : ∃ q, q = tail ++ [128] ++ List.replicate j 0 := ⟨_, rfl⟩
    have hql : q.length = tl + 1 + j := by rw [hq, List.length_append, List.length_append, List.length_replicate, HRT.out.1]; rfl
    rw [← hq] at HQ
    obtain ⟨a, c, hrs, hown, hbr, hbel, hsz⟩ := HQ.out
    obtain ⟨L, hL⟩ : ∃ L, L = (Sha.rest q).length := ⟨_, rfl⟩
    have hLm : L = (tl + 1 + j) % 64 := by rw [hL, Sha.rest_len, hql]
    have h56 := zeros_on tl j htl hj
    rw [← hLm] at h56
    rw [← hL] at hrs hown
    have hc9 := hrs.tail
    have hc8 := hrs.num
    have hqb : ∀ z ∈ Sha.rest q, z < 256 := by
      intro z hz
      have := List.mem_of_mem_drop hz
      rw [hq] at this
      simp only [List.mem_append, List.mem_singleton, List.mem_replicate] at this
      rcases this with (h | rfl) | ⟨_, rfl⟩
      · exact HRT.out.2.1 z h
      · decide
      · decide
    have hrd : Rd wr a L (Sha.rest q) := by
      obtain ⟨a', L', c', h1, h2, _, _, _, h3, _⟩ := hown.form hqb
      cases h1
      exact h3
    have hL64 : L < 64 := by omega
    have hj64 : j ≤ 64 := by unfold zeros at hj; split at hj <;> omega
    have HRS := Lib.hid hrs
    have HOW := Lib.hid hown
    have HBR := Lib.hid hbr
    have HBEL := Lib.hid hbel
    have HSZ := Lib.hid hsz
    have HRD := Lib.hid hrd
    have HL := Lib.hid hL
    have HQE := Lib.hid hq
    have HC8 := Lib.hid hc8
    clear hrs hown hbr hbel hsz hrd hL hq hc8 hqb hql HQ
    clear hLm
    by_cases hJ : j = zeros tl
    · have hL56 := h56.2 hJ
      subst hL56
      clear h56 hL64
      go_wp2_with fail
      rw [show ((n : Int) * 8) = ((8 * n : Nat) : Int) by omega]
      refine wp_region_any (by kernel_rfl) ?_
      change wpAny _ _ _ _ _ _ _ wr.drew
      refine any_pure 1 (d := 22) (op := .move (.tmp 3)) (.int .u64 ((8 * n : Nat) : Int)) (by rfl) (by kernel_rfl) (by kernel_rfl) (by kernel_rfl) (fun _ _ _ h => h) (fun o ho W => by unfold execOp; simp only [ho]; go_simp) ?_
      simp only [Act.put, List.setIfInBounds_toArray, List.set_cons_zero, List.set_cons_succ]
      have HRUN := Lib.hid (show ∀ W, Below wr.heap.size wr W → (Instr.loadAt 106 (.pointer (some ⟨w.heap.size, 0, none⟩))).run Tryd.prog W = .ok (.agg (rsCells (Sha.run hs q) (n + 1 + j) (.slice a 56 c)).toArray) W from fun W hW =>
        run_loadAt_mid W w.heap.size 0 106 (rsCells (Sha.run hs q) (n + 1 + j) (.slice a 56 c)) _ (fun i v hv => by rw [Nat.zero_add, (HRS.out.below hW (by have := HSZ.out; omega)).cellq]; exact hv) Tryd.underlying106 rfl (by rw [rsCells_len HRS.out.l8]; exact info_rs))
      refine any_load_call 0 2 (d1 := 21) (d2 := 23) (t1 := 106) (x1 := .tmp 1) (p1 := .pointer (some ⟨w.heap.size, 0, none⟩)) (v1 := .agg (rsCells (Sha.run hs q) (n + 1 + j) (.slice a 56 c)).toArray) (f := 73) (xs := #[.tmp 22, .const (.int .i64 8)]) (ts := #[90, 3]) (vs := #[.int .u64 ((8 * n : Nat) : Int), .int .i64 8])
        (by kernel_rfl) (by kernel_rfl) (by kernel_rfl) (by omega) (by omega) (by rfl) (by rfl) (by rfl) (fun _ => by rfl) (by go_simp) (by go_simp) (by go_simp) (refPut_in (8 * n) 8 wr.drew (by omega) (by omega) (by omega)) (HRUN.out _ (Below.refl _ _).drew) ?_
      rintro e w1 ⟨v, rfl, hov, hbv⟩
      have hb1 : Below wr.heap.size wr w1 := (Below.refl _ _).drew.trans hbv
      refine ⟨v, rfl, HRUN.out _ hb1, ?_⟩
      obtain ⟨pa, pl, pc, rfl, hpl, _, hpc, _, hprd, _⟩ := hov.form (Numm.put_byte _ _)
      rw [Numm.put_len] at hpl
      subst hpl
      have HPR := Lib.hid hprd
      have HB1 := Lib.hid hb1
      clear hov hbv hb1 hprd
      simp only [Act.put, List.setIfInBounds_toArray, List.set_cons_zero, List.set_cons_succ]
      refine any_call 3 (d := some 24) (f := 67) (xs := #[.tmp 21, .tmp 23]) (ts := #[106, 23]) (vs := #[.agg (rsCells (Sha.run hs q) (n + 1 + j) (.slice a 56 c)).toArray, .slice pa 8 pc]) (by kernel_rfl) (by rfl) (by go_simp) (by go_simp)
        (rwrite_c (Sha.run hs q) (Sha.rest q) (Numm.put (8 * n) 8) (n + 1 + j) a pa 56 c 8 pc w1 (H8.out.run q) (HRD.out.below HB1.out) (by omega) HPR.out (by omega) (by omega)) ?_
      rintro e w2 ⟨v2, rfl, hov, hbv⟩
      refine ⟨_, rfl, ?_⟩
      rw [(Sha.run_run hs q _).2] at hov
      rw [(Sha.run_run hs q _).1]
      have hbA : Below wr.heap.size wr w2 := HB1.out.trans (hbv.mono HB1.out.size)
      have HOV := Lib.hid (hov.base (B' := wr.heap.size) HB1.out.size)
      have HQ := Lib.hid (CQ.stored (n := n + 1 + j + 8) H8.out HRS.out HBR.out HBEL.out HSZ.out HOV.out hbA)
      have HRS2 := Lib.hid (HRS.out.below hbA (by have := HSZ.out; omega))
      have HI1 := Lib.hid (rs_info (n := n + 1 + j + 8) (v := v2) (H8.out.run (q ++ Numm.put (8 * n) 8)).1)
      have HO1 := Lib.hid (rs_one HOV.out (Sha.run hs (q ++ Numm.put (8 * n) 8)) (n + 1 + j + 8))
      have HLEN := Lib.hid (show (rsCells (Sha.run hs (q ++ Numm.put (8 * n) 8)) (n + 1 + j + 8) v2).toArray.size = 10 by rw [List.size_toArray]; exact rsCells_len (H8.out.run _).1)
      have HPAD := Lib.hid (show q ++ Numm.put (8 * n) 8 = Sha.padded tail n by rw [padded_zeros, HQE.out, hJ, HRT.out.1])
      have hQ : CQ w hs (q ++ Numm.put (8 * n) 8) (n + 1 + j + 8) (w2.setCells w.heap.size 0 (rsCells (Sha.run hs (q ++ Numm.put (8 * n) 8)) (n + 1 + j + 8) v2).toArray.toList) := by rw [List.toList_toArray]; exact HQ.out
      obtain ⟨C', hC⟩ : ∃ C, C = (rsCells (Sha.run hs (q ++ Numm.put (8 * n) 8)) (n + 1 + j + 8) v2).toArray := ⟨_, rfl⟩
      rw [← hC] at hQ HI1 HO1 HLEN ⊢
      rw [HPAD.out] at hQ
      have HQF := Lib.hid hQ
      clear hQ HQ
      clear hC hov hbv hbA HOV
      simp only [Act.put, List.setIfInBounds_toArray, List.set_cons_zero, List.set_cons_succ]
      refine any_store_mid 4 (ty := 106) (x := .tmp 1) (y := .tmp 24) w.heap.size 0 C' (by kernel_rfl) (by rfl) (by rfl) (by rfl) (by rw [HLEN.out]; exact HRS2.out.there 0 10 (by omega)) HI1.out HO1.out ?_
      refine wpAny_done (by kernel_rfl) ?_ _
      refine gen_exit (F := CQ w hs (Sha.padded tail n) (n + 1 + j + 8)) HQF.out ?_
      intro w3 hw3
      obtain ⟨M, hM⟩ : ∃ M, M = Sha.run hs (Sha.padded tail n) := ⟨_, rfl⟩
      have hM8 : Sha.W8 M := by rw [hM]; exact H8.out.run _
      obtain ⟨a3, c3, hrs3, _, hbr3, hbel3, hsz3⟩ := hw3
      rw [← hM] at hrs3
      have HM := Lib.hid hM
      have HM8 := Lib.hid hM8
      have HRS3 := Lib.hid hrs3
      have HBR3 := Lib.hid hbr3
      have HBEL3 := Lib.hid hbel3
      have HSZ3 := Lib.hid hsz3
      clear hJ hM hM8 hrs3 hbr3 hbel3 hsz3 HQF HPAD HLEN HO1 HI1 HRS2 HB1 HPR HRUN
      obtain ⟨e8, he8⟩ : ∃ e : Int, e = ((8 * n : Nat) : Int) := ⟨_, rfl⟩
      rw [← he8]
      clear he8
      go_wp2_with fail
      have HDA := Lib.hid (show ∀ X : Obj, X = .cells (cellsOf zs32).toArray 26 (0, 0) → DA w w3.heap.size M (n + 1 + j + 8) (.slice a3 (Sha.rest (Sha.padded tail n)).length c3) (Sha.bytesOf (M.take 0)) (w3.alloc X) from fun X hX => by
        have hb : Below w3.heap.size w3 (w3.alloc X) := (Below.refl _ _).alloc (Nat.le_refl _) _
        exact ⟨HRS3.out.below hb HRS3.out.lt, HBR3.out.below hb HBR3.out.lt, by rw [hX]; exact Brow.new _ _ _, HBEL3.out.trans (hb.mono (by have := HSZ3.out; omega)), HSZ3.out⟩)
      go_loopw [5] (fun i wr => ∃ k : Nat, k ≤ 8 ∧ i = .int .i64 k ∧ Hid (DA w w3.heap.size M (n + 1 + j + 8) (.slice a3 (Sha.rest (Sha.padded tail n)).length c3) (Sha.bytesOf (M.take k)) wr)) (fun i _ => 8 - (intOf i).toNat)
      case atStart => exact ⟨0, by omega, rfl, Lib.hid (HDA.out _ rfl)⟩
      case round =>
        clear HDA HRS3 HBR3 HBEL3 HSZ3
        obtain ⟨k, hk, rfl, HD⟩ := hrel
        by_cases hk8 : k < 8
        · obtain ⟨x, hx⟩ : ∃ x, x = M.getD k 0 := ⟨_, rfl⟩
          have hx32 : x < 4294967296 := by rw [hx, getD_at M k (by rw [HM8.out.1]; exact hk8)]; exact HM8.out.2 _ (List.getElem_mem _)
          have hck : wr.cell? ⟨w.heap.size, k, none⟩ = some (.int .u32 (x : Int)) := by
            have := HD.out.1.words k (.int .u32 (x : Int)) (by have := wordsOf_get M k (by rw [HM8.out.1]; exact hk8); rw [← hx] at this; simpa using this)
            rwa [Nat.zero_add] at this
          have hsn := bytesOf_snoc M k (by rw [HM8.out.1]; exact hk8)
          rw [← getD_at M k (by rw [HM8.out.1]; exact hk8), ← hx] at hsn
          have hyl : (Sha.bytesOf (M.take k)).length = 4 * k := by rw [bytesOf_len, List.length_take, HM8.out.1]; omega
          have HSN := Lib.hid hsn
          have HYL := Lib.hid hyl
          clear hx hsn hyl
          go_wp2_with fail
          refine (refPut_in x 4 _ (by omega) (by omega) (by omega)).mono ?_
          rintro en wp ⟨pv, rfl, hop, hbp⟩
          obtain ⟨pa, pl, pc, rfl, hpl, _, hpc, _, _, hop⟩ := hop.form (Numm.put_byte _ _)
          rw [Numm.put_len] at hpl
          subst hpl
          have HD1 := Lib.hid (HD.out.step hbp)
          have HOP := Lib.hid hop
          have HDL := Lib.hid (show w3.heap.size < wr.heap.size from HD.out.2.2.1.lt)
          clear hop hbp HD hck
          obtain ⟨b0, hb0⟩ : ∃ b, b = wr.heap.size := ⟨_, rfl⟩
          rw [← hb0] at HOP HDL
          clear hb0
          go_wp2_with fail
          go_loopw [7] (fun jv wq => ∃ m : Nat, m ≤ 4 ∧ jv = .int .i64 m ∧ Hid (DA w w3.heap.size M (n + 1 + j + 8) (.slice a3 (Sha.rest (Sha.padded tail n)).length c3) (Sha.bytesOf (M.take k) ++ (Numm.put x 4).take m) wq) ∧ Hid (Own wq b0 (.slice pa 4 pc) (Numm.put x 4))) (fun jv _ => 4 - (intOf jv).toNat)
          case atStart => exact ⟨0, by omega, rfl, by rw [List.take_zero, List.append_nil]; exact HD1, HOP⟩
          case round =>
            clear HD1 HOP
            obtain ⟨m, hm, rfl, HDm, HOm⟩ := hrel
            by_cases hm4 : m < 4
            · obtain ⟨e, he⟩ : ∃ e, 4 * k + m = e := ⟨_, rfl⟩
              obtain ⟨z, hz⟩ : ∃ z, z = (Numm.put x 4).getD m 0 := ⟨_, rfl⟩
              obtain ⟨pa', L', pc', h1, h2, _, _, _, hrd, _⟩ := HOm.out.form (Numm.put_byte _ _)
              cases h1
              have htk : (Numm.put x 4).take (m + 1) = (Numm.put x 4).take m ++ [z] := by rw [take_snoc _ _ (by rw [Numm.put_len]; exact hm4), hz, getD_at _ m (by rw [Numm.put_len]; exact hm4)]
              have hyl : (Sha.bytesOf (M.take k) ++ (Numm.put x 4).take m).length = e := by rw [List.length_append, HYL.out, List.length_take, Numm.put_len]; omega
              have hce : wr.cell? ⟨w3.heap.size, e, none⟩ = some (.int .u8 (((Sha.bytesOf (M.take k) ++ (Numm.put x 4).take m ++ List.replicate (32 - (Sha.bytesOf (M.take k) ++ (Numm.put x 4).take m).length) 0).getD e 0 : Nat) : Int)) := HDm.out.2.2.1.cell e (by rw [List.length_append, List.length_replicate, hyl]; omega)
              obtain ⟨o, ho⟩ : ∃ o, o = (Sha.bytesOf (M.take k) ++ (Numm.put x 4).take m ++ List.replicate (32 - (Sha.bytesOf (M.take k) ++ (Numm.put x 4).take m).length) 0).getD e 0 := ⟨_, rfl⟩
              rw [← ho] at hce
              have hfe : wr.frozen? ⟨w3.heap.size, e, none⟩ = false := HDm.out.2.2.1.frozen e
              have hsn := HDm.out.snoc z (by rw [hyl]; omega)
              rw [hyl, List.append_assoc, ← htk] at hsn
              have HSNC := Lib.hid hsn
              have HOO := Lib.hid (HOm.out.only (show Only w3.heap.size wr (wr.setCell ⟨w3.heap.size, e, none⟩ (.int .u8 (z : Int))) from (Only.refl _ _).setCell _ _) HDL.out)
              obtain ⟨_, _, h0 | ⟨pb, po, rfl, _, hc⟩⟩ := hrd
              · omega
              have hcm := hc m hm4
              rw [← hz] at hcm
              clear hz htk hyl ho hsn hc HDm HOm h2
              have hie : 4 * (k : Int) + (m : Int) = (e : Int) := by omega
              have he0 : (0 : Int) ≤ (e : Int) := by omega
              have he1 : (e : Int) < 32 := by omega
              clear he
              go_wp2
              go_roundw
              case rel => exact ⟨m + 1, by omega, by go_num, HSNC, HOO⟩
              case measure => simp [intOf]; omega
            · obtain rfl : m = 4 := by omega
              have HDn : Hid (DA w w3.heap.size M (n + 1 + j + 8) (.slice a3 (Sha.rest (Sha.padded tail n)).length c3) (Sha.bytesOf (M.take (k + 1))) wr) := by
                have := HDm.out
                rw [show (Numm.put x 4).take 4 = Numm.put x 4 from List.take_of_length_le (by rw [Numm.put_len]; omega), ← HSN.out] at this
                exact Lib.hid this
              clear HDm
              go_wp2
              go_roundw
              case rel => exact ⟨k + 1, by omega, by go_num, HDn⟩
              case measure => simp [intOf]; omega
        · obtain rfl : k = 8 := by omega
          obtain ⟨S, hS⟩ : ∃ S, S = Sha.bytesOf M := ⟨_, rfl⟩
          have hrow : wr.heap[w3.heap.size]? = some (.cells (cellsOf S).toArray 26 (0, 0)) := by
            have := HD.out.2.2.1
            rw [List.take_of_length_le (by rw [HM8.out.1]; omega), bytesOf_len, HM8.out.1, ← hS, List.replicate_zero, List.append_nil] at this
            exact this
          have hSl : S.length = 32 := by rw [hS, bytesOf_len, HM8.out.1]
          have HROW := Lib.hid hrow
          have HI := Lib.hid (show (Tryd.prog.info? 26).map (·.size) = some (cellsOf S).toArray.size by rw [cellsOf_size, hSl]; exact info_a32b)
          have HSS := Lib.hid (show (cellsOf zs32).toArray.size = (cellsOf S).toArray.size by rw [cellsOf_size, cellsOf_size, hSl]; rfl)
          have HS := Lib.hid hS
          clear hrow hSl hS
          go_wp2_with (first | (refine wpList_load_row (by rfl) 26 _ (by rfl) w3.heap.size (by rfl) _ (cellsOf S).toArray (0, 0) _ HROW.out Tryd.underlying26 (by rfl) HI.out ?_) | (refine wpList_store_row (by rfl) 26 _ _ (by rfl) (w.heap.size + 1) (cellsOf S).toArray (by rfl) (by rfl) 26 (cellsOf zs32).toArray HD.out.2.1 HI.out HSS.out (cellsOf_all _) ?_))
          refine bodyPost_ret (results_cell_row (by rfl) _ _ (w.heap.size + 1) _ (cellsOf S).toArray (0, 0) _ (by rfl) (setRow_heap _ _ _ _ _ _ HD.out.2.1) Tryd.underlying26 (by rfl) HI.out) ?_ ?_
          · rfl
          · refine ⟨?_, HD.out.2.2.2.1.setRow (by omega) _⟩
            unfold Sha.close
            rw [← HM.out, ← HS.out]
    · have hL56 : ¬ (L : Int) = 56 := by
        intro h
        exact hJ (h56.1 (by omega))
      clear h56
      go_upto_region 4 with fail
      clear hc9
      go_wp2_with (first | (refine wpList_load_row (by rfl) 106 _ (by rfl) w.heap.size (by rfl) _ (rsCells (Sha.run hs q) (n + 1 + j) (.slice a L c)).toArray (0, 0) _ HRS.out.row Tryd.underlying106 (by rfl) (rs_info HRS.out.l8) ?_))
      have HAL := Lib.hid (show Below wr.heap.size wr (wr.alloc (.cells #[.int .u8 ((0 : Nat) : Int)] 5)) from (Below.refl _ _).alloc (Nat.le_refl _) _)
      refine (rwrite_c (Sha.run hs q) (Sha.rest q) [0] (n + 1 + j) a (some ⟨wr.heap.size, 0, none⟩) L c 1 1 _ (H8.out.run q) (HRD.out.below HAL.out) hL64 (rd_one wr 0 (by decide)) (by decide) (by omega)).mono ?_
      rintro en wB ⟨v, rfl, hov, hbv⟩
      rw [(Sha.run_run hs q [0]).2] at hov
      rw [(Sha.run_run hs q [0]).1]
      have hbA : Below wr.heap.size wr wB := HAL.out.trans (hbv.mono HAL.out.size)
      have HOV := Lib.hid (hov.base (B' := wr.heap.size) HAL.out.size)
      have HQ := Lib.hid (CQ.store (n := n + 1 + j + 1) H8.out HRS.out HBR.out HBEL.out HSZ.out HOV.out hbA)
      have HROW := Lib.hid (HRS.out.below hbA (by have := HSZ.out; omega)).row
      have HI1 := Lib.hid (rs_info (n := n + 1 + j + 1) (v := v) (H8.out.run (q ++ [0])).1)
      have HS1 := Lib.hid (rs_size (n := n + 1 + j) (n' := n + 1 + j + 1) (v := .slice a L c) (v' := v) (H8.out.run q).1 (H8.out.run (q ++ [0])).1)
      have HO1 := Lib.hid (rs_one HOV.out (Sha.run hs (q ++ [0])) (n + 1 + j + 1))
      have HN8 := Lib.hid (show (World.setRow wB w.heap.size (rsCells (Sha.run hs (q ++ [0])) (n + 1 + j + 1) v).toArray).cell? ⟨w.heap.size, 8, none⟩ = some (.int .u64 ((n + 1 + j + 1 : Nat) : Int)) from by
        obtain ⟨_, _, h, _⟩ := HQ.out
        exact h.num)
      obtain ⟨C', hC⟩ : ∃ C, C = (rsCells (Sha.run hs (q ++ [0])) (n + 1 + j + 1) v).toArray := ⟨_, rfl⟩
      rw [← hC] at HQ HI1 HS1 HO1 HN8 ⊢
      clear hC hov hbv hbA HAL HOV
      go_wp2_with (first | (refine wpList_store_row (by rfl) 106 _ _ (by rfl) w.heap.size C' (by rfl) (by rfl) 106 (rsCells (Sha.run hs q) (n + 1 + j) (.slice a L c)).toArray HROW.out HI1.out HS1.out HO1.out ?_))
      have HQ2 : Hid (CQ w hs (tail ++ [128] ++ List.replicate (j + 1) 0) (n + 1 + (j + 1)) (wB.setRow w.heap.size C')) := by
        rw [List.replicate_succ', ← List.append_assoc, ← HQE.out]
        exact HQ
      clear HROW HI1 HS1 HO1
      simp only [Act.put]
      go_roundw
      case rel => exact ⟨j + 1, by omega, HQ2⟩
      case measure =>
        rw [HC8.out, HN8.out]
        simp [intOf]; omega
end Go.Proofs.YthnfbdmkdpokcaaDoor
