/-
  The walks over Public, Sign, Recover and join of one-time keys.
-/
import Derived.Test.YtlnblfdddellmaaDoorCha
namespace Go.Proofs.YtlnblfdddellmaaDoor
open Go.RowKit
set_option linter.unusedVariables false
/-- the first k of 67 sums by f, the others as they were -/
def pre (f : Nat → List Nat) (base : Ds) (k : Nat) : Ds := (List.range 67).map fun c => if c < k then f c else base.getD c []
theorem pre_at (f : Nat → List Nat) (base : Ds) (k c : Nat) (hc : c < 67) : (pre f base k)[c]? = some (if c < k then f c else base.getD c []) := by
  unfold pre
  rw [List.getElem?_map, List.getElem?_range hc]; rfl
theorem pre_len (f : Nat → List Nat) (base : Ds) (k : Nat) : (pre f base k).length = 67 := by simp [pre]
theorem pre_zero (f : Nat → List Nat) (base : Ds) (h : base.length = 67) : pre f base 0 = base := by
  apply List.ext_getElem?
  intro c
  by_cases hc : c < 67
  · rw [pre_at f base 0 c hc, if_neg (by omega), List.getD_eq_getElem?_getD, List.getElem?_eq_getElem (by omega)]; rfl
  · rw [List.getElem?_eq_none (by rw [pre_len]; omega), List.getElem?_eq_none (by omega)]
theorem pre_all (f : Nat → List Nat) (base : Ds) : pre f base 67 = (List.range 67).map f := by
  unfold pre
  apply List.map_congr_left
  intro c hc
  rw [if_pos (by simpa using hc)]
theorem pre_set (f : Nat → List Nat) (base : Ds) (k : Nat) (hk : k < 67) : (pre f base k).set k (f k) = pre f base (k + 1) := by
  apply List.ext_getElem?
  intro c
  by_cases hc : c < 67
  · rw [pre_at f base (k + 1) c hc]
    by_cases hck : c = k
    · subst hck
      rw [List.getElem?_set_self (by rw [pre_len]; omega), if_pos (by omega)]
    · rw [List.getElem?_set_ne (by omega), pre_at f base k c hc]
      by_cases h : c < k
      · rw [if_pos h, if_pos (by omega)]
      · rw [if_neg h, if_neg (by omega)]
  · rw [List.getElem?_eq_none (by rw [List.length_set, pre_len]; omega), List.getElem?_eq_none (by rw [pre_len]; omega)]
theorem pre_get (f : Nat → List Nat) (base : Ds) (k : Nat) (hk : k < 67) : (pre f base k).getD k [] = base.getD k [] := by
  rw [List.getD_eq_getElem?_getD, pre_at f base k k hk, if_neg (by omega)]; rfl
theorem pre_67 (f : Nat → List Nat) (base : Ds) (k : Nat) (hf : ∀ c, c < 67 → D32 (f c)) (hb : D67 base) : D67 (pre f base k) := by
  refine ⟨pre_len _ _ _, fun d hd => ?_⟩
  obtain ⟨c, hc, rfl⟩ := List.mem_map.1 hd
  have hc' : c < 67 := by simpa using hc
  split
  · exact hf c hc'
  · exact hb.get c hc'
theorem map_67 (f : Nat → List Nat) (hf : ∀ c, c < 67 → D32 (f c)) : D67 ((List.range 67).map f) := by
  rw [← pre_all f zs7]
  exact pre_67 f zs7 67 hf d67_zero
def E3 (w : World) (t0 t1 t2 : TypeId) (x0 x1 x2 : List Nat) (W : World) : Prop := Brow W w.heap.size t0 x0 ∧ Brow W (w.heap.size + 1) t1 x1 ∧ Brow W (w.heap.size + 1 + 1) t2 x2 ∧ Below w.heap.size w W
theorem E3.new (w : World) (t0 t1 t2 : TypeId) (x0 x1 x2 : List Nat) : E3 w t0 t1 t2 x0 x1 x2 (((w.alloc (.cells (cellsOf x0).toArray t0)).alloc (.cells (cellsOf x1).toArray t1)).alloc (.cells (cellsOf x2).toArray t2)) :=
  ⟨(heap_new3 _ _ _ _).1, (heap_new3 _ _ _ _).2.1, (heap_new3 _ _ _ _).2.2, (((Below.refl _ _).alloc (Nat.le_refl _) _).alloc (by simp) _).alloc (by simp; omega) _⟩
theorem E3.below {w W W' : World} {t0 t1 t2 : TypeId} {x0 x1 x2 : List Nat} (h : E3 w t0 t1 t2 x0 x1 x2 W) (hb : Below W.heap.size W W') : E3 w t0 t1 t2 x0 x1 x2 W' :=
  ⟨h.1.below hb h.1.lt, h.2.1.below hb h.2.1.lt, h.2.2.1.below hb h.2.2.1.lt, h.2.2.2.trans (hb.mono h.2.2.2.size)⟩
theorem E3.only {w W W' : World} {t0 t1 t2 : TypeId} {x0 x1 x2 : List Nat} {g : Nat} (h : E3 w t0 t1 t2 x0 x1 x2 W) (ho : Only g W W') (hg : w.heap.size + 1 + 1 < g) : E3 w t0 t1 t2 x0 x1 x2 W' :=
  ⟨h.1.only ho (by omega), h.2.1.only ho (by omega), h.2.2.1.only ho (by omega), h.2.2.2.trans (ho.below (by omega) h.2.2.2.size)⟩
theorem E3.drew {w W : World} {t0 t1 t2 : TypeId} {x0 x1 x2 : List Nat} (h : E3 w t0 t1 t2 x0 x1 x2 W) : E3 w t0 t1 t2 x0 x1 x2 W.drew := ⟨h.1.drew, h.2.1.drew, h.2.2.1.drew, h.2.2.2.drew⟩
theorem E3.at2 {w W W' : World} {t0 t1 t2 : TypeId} {x0 x1 x2 y : List Nat} (h : E3 w t0 t1 t2 x0 x1 x2 W) (ho : Only (w.heap.size + 1 + 1) W W') (hb : Brow W' (w.heap.size + 1 + 1) t2 y) : E3 w t0 t1 t2 x0 x1 y W' :=
  ⟨h.1.only ho (by omega), h.2.1.only ho (by omega), hb, h.2.2.2.trans (ho.below (by omega) h.2.2.2.size)⟩
theorem E3.at1 {w W W' : World} {t0 t1 t2 : TypeId} {x0 x1 x2 y : List Nat} (h : E3 w t0 t1 t2 x0 x1 x2 W) (ho : Only (w.heap.size + 1) W W') (hb : Brow W' (w.heap.size + 1) t1 y) : E3 w t0 t1 t2 x0 y x2 W' :=
  ⟨h.1.only ho (by omega), hb, h.2.2.1.only ho (by omega), h.2.2.2.trans (ho.below (by omega) h.2.2.2.size)⟩
theorem ztA : Tryd.zeroCells53 = (cellsOf zs7.flatten).toArray := by kernel_rfl
theorem ztR : Tryd.zeroCells49 = (cellsOf zs7.flatten).toArray := by kernel_rfl
theorem there_at {w : World} {g : Nat} {t : TypeId} {ds : Ds} (h : Brow w g t ds.flatten) (hd : D67 ds) (i : Nat) (hi : i < 67) {d : List Nat} (hdd : D32 d) : w.there g (i * 32) (cellsOf d).toArray.size :=
  h.thereMid _ _ (by rw [hd.flat, cellsOf_size, hdd.1]; omega)
theorem set_at {w : World} {g : Nat} {t : TypeId} {ds : Ds} (h : Brow w g t ds.flatten) (hd : D67 ds) (i : Nat) (hi : i < 67) {d : List Nat} (hdd : D32 d) : Brow (w.setCells g (i * 32) (cellsOf d).toArray.toList) g t (ds.set i d).flatten ∧ Only g w (w.setCells g (i * 32) (cellsOf d).toArray.toList) := by
  rw [List.toList_toArray, Nat.mul_comm]
  exact ⟨h.setMid hd.2 i (by rw [hd.1]; exact hi) d hdd.1, Only.setCells _ _ (Only.refl _ _)⟩
set_option maxRecDepth 100000 in
set_option maxHeartbeats 2000000 in
theorem join_c (ds : Ds) (w : World) (hd : D67 ds) (ht : Tab w) :
    Calls Tryd.prog 46 #[.agg (cellsOf ds.flatten).toArray] w (DigRet (Ch.pressS ds) w) := by
  have HD := Lib.hid hd
  have HT := Lib.hid ht
  have hpos := ht.pos
  have HI7 := Lib.hid (info_ds7 53 info_a7 hd)
  clear hd ht
  go_enter Tryd.func46, Tryd.ntmps46
  go_wp2_with fail
  refine gen_calls (F := fun W => Brow W w.heap.size 53 ds.flatten ∧ Brow W (w.heap.size + 1) 32 zs32 ∧ Below w.heap.size w W) ⟨(heap_new2 _ _ _).1, (heap_new2 _ _ _).2, ((Below.refl _ _).alloc (Nat.le_refl _) _).alloc (by simp) _⟩ ?_
  rintro w0 ⟨ha0, hd0, hb0⟩
  refine (new_c w0).mono ?_
  rintro e1 w1 ⟨g, rfl, hg, hst, hb1⟩
  have hgl := hst.lt
  have hd0l := hd0.lt
  have hgN : w.heap.size + 1 < g := by omega
  have HA1 := Lib.hid (ha0.below hb1 ha0.lt)
  have HD1 := Lib.hid (hd0.below hb1 hd0.lt)
  have HB1 := Lib.hid (hb0.trans (hb1.mono hb0.size))
  have HST1 := Lib.hid (show StM w1 g Sha.H0 [] 0 from ⟨_, hst, rfl⟩)
  clear hst hb1 ha0 hd0 hb0
  go_wp2_with fail
  refine gen_calls (F := fun W => Rd W (some ⟨w1.heap.size, 0, none⟩) 1 [3] ∧ Below w1.heap.size w1 W) ⟨rd_one w1 3 (by decide), (Below.refl _ _).alloc (Nat.le_refl _) _⟩ ?_
  rintro w1b ⟨hr1, hb1⟩
  have HB1b := Lib.hid (HB1.out.trans (hb1.mono HB1.out.size))
  refine (write_c w1b g Sha.H0 [] 0 (HST1.out.below hb1 hgl) (some ⟨w1.heap.size, 0, none⟩) 1 1 [3] hr1 (by omega) (by omega) (by omega) (fun _ => by simp [blkOf]; omega) (HT.out.below HB1b.out hpos) (by omega)).mono ?_
  rintro e2 w2 ⟨rfl, hst2, ho2⟩
  have HJ := Lib.hid (show Brow w2 w.heap.size 53 ds.flatten ∧ Brow w2 (w.heap.size + 1) 32 zs32 ∧ Below w.heap.size w w2 from
    ⟨(HA1.out.below hb1 HA1.out.lt).only ho2 (by omega), (HD1.out.below hb1 HD1.out.lt).only ho2 (by omega), HB1b.out.trans (ho2.below (by omega) HB1b.out.size)⟩)
  have HST2 := Lib.hid (show StM w2 g (Sha.run Sha.H0 (3 :: (ds.take 0).flatten)) (Sha.rest (3 :: (ds.take 0).flatten)) (1 + 32 * 0) from hst2)
  have hgl2 : g < w2.heap.size := by
    obtain ⟨_, h, _⟩ := hst2
    exact h.lt
  clear hst2 ho2 hr1 hb1 HB1b HA1 HD1 HB1 HST1
  go_wp2_with (first | (refine wpList_load_row (by rfl) 53 _ (by rfl) w.heap.size (by rfl) _ (cellsOf ds.flatten).toArray (0, 0) _ HJ.out.1 Tryd.underlying53 (by rfl) HI7.out ?_))
  go_loopw [11] (fun i wr => ∃ k : Nat, k ≤ 67 ∧ i = .int .i64 k ∧ Hid (Brow wr w.heap.size 53 ds.flatten ∧ Brow wr (w.heap.size + 1) 32 zs32 ∧ Below w.heap.size w wr) ∧ Hid (StM wr g (Sha.run Sha.H0 (3 :: (ds.take k).flatten)) (Sha.rest (3 :: (ds.take k).flatten)) (1 + 32 * k)) ∧ g < wr.heap.size) (fun i _ => 67 - (intOf i).toNat)
  case atStart => exact ⟨0, by omega, rfl, HJ, HST2, hgl2⟩
  case round =>
    clear HJ HST2 hgl2
    obtain ⟨k, hk, rfl, HJ, HST, hgw⟩ := hrel
    by_cases hk67 : k < 67
    · obtain ⟨d, hdd⟩ : ∃ d, d = ds.getD k [] := ⟨_, rfl⟩
      have HDD := Lib.hid (show D32 d from by rw [hdd]; exact HD.out.get k hk67)
      have hix : ∀ W : World, (Instr.index 53 (.agg (cellsOf ds.flatten).toArray) (.int .i64 (k : Int))).run Tryd.prog W = .ok (.agg (cellsOf d).toArray) W := fun W => by rw [hdd]; exact index_a ds HD.out k hk67 W
      have HNX := Lib.hid (show (3 :: (ds.take k).flatten) ++ d = 3 :: (ds.take (k + 1)).flatten from by
        rw [List.take_succ_eq_append_getElem (by rw [HD.out.1]; exact hk67), List.flatten_append, List.cons_append]
        congr 2
        rw [hdd, List.getD_eq_getElem?_getD, List.getElem?_eq_getElem (by rw [HD.out.1]; exact hk67)]; simp)
      have HI := Lib.hid (info_d32 d HDD.out)
      have HZ := Lib.hid (zs_size d HDD.out)
      have kD := fun W => run_digAll W wr.heap.size 0
      have K1 := Lib.hid (fun (V : Obj) (hV : V = .cells (cellsOf zs32).toArray 32 (0, 0)) => show Brow ((wr.alloc V).setRow wr.heap.size (cellsOf d).toArray) wr.heap.size 32 d ∧ Below wr.heap.size wr ((wr.alloc V).setRow wr.heap.size (cellsOf d).toArray) from by
        subst hV
        exact ⟨(Brow.new wr 32 zs32).setRow, ((Below.refl _ _).alloc (Nat.le_refl _) _).setRow (Nat.le_refl _) _⟩)
      clear hdd
      go_wp2_with (first | (refine wpList_store_row (by rfl) 32 _ _ (by rfl) wr.heap.size (cellsOf d).toArray (by rfl) (by rfl) 32 (cellsOf zs32).toArray (by exact heap_new _ _) HI.out HZ.out (cellsOf_all _) ?_))
      refine gen_calls (F := fun W => Brow W wr.heap.size 32 d ∧ Below wr.heap.size wr W) (K1.out _ rfl) ?_
      rintro w3 ⟨hr3, hb3⟩
      have hrd := hr3.rd HDD.out.2
      rw [HDD.out.1] at hrd
      have HB3 := Lib.hid (HJ.out.2.2.trans (hb3.mono HJ.out.2.2.size))
      have HWR := Lib.hid (write_c w3 g _ _ _ (HST.out.below hb3 hgw) (some ⟨wr.heap.size, 0, none⟩) 32 32 d hrd (by omega) (by omega) (by omega) (fun _ => by simp [blkOf]; omega) (HT.out.below HB3.out hpos) (by omega))
      rw [(Sha.run_run Sha.H0 _ d).1, (Sha.run_run Sha.H0 _ d).2, HNX.out, show 1 + 32 * k + 32 = 1 + 32 * (k + 1) by omega] at HWR
      refine HWR.out.mono ?_
      rintro e4 w4 ⟨rfl, hst4, ho4⟩
      have HJ4 := Lib.hid (show Brow w4 w.heap.size 53 ds.flatten ∧ Brow w4 (w.heap.size + 1) 32 zs32 ∧ Below w.heap.size w w4 from
        ⟨(HJ.out.1.below hb3 HJ.out.1.lt).only ho4 (by omega), (HJ.out.2.1.below hb3 HJ.out.2.1.lt).only ho4 (by omega), HB3.out.trans (ho4.below (by omega) HB3.out.size)⟩)
      have HST4 := Lib.hid hst4
      have hg4 : g < w4.heap.size := by
        obtain ⟨_, h, _⟩ := hst4
        exact h.lt
      clear hst4 ho4 hrd hr3 hb3 HB3 HWR HJ HST hix K1 kD
      go_wp2_with fail
      go_roundw
      case rel => exact ⟨k + 1, by omega, by go_num, HJ4, HST4, hg4⟩
      case measure => simp [intOf]; omega
    · obtain rfl : k = 67 := by omega
      have hta : ds.take 67 = ds := List.take_of_length_le (by rw [HD.out.1]; omega)
      rw [hta] at HST
      obtain ⟨S, hS⟩ : ∃ S, S = Ch.pressS ds := ⟨_, rfl⟩
      have HSUM := Lib.hid (show Calls Tryd.prog 60 #[.pointer (some ⟨g, 0, none⟩)] wr (DigRet S wr) from by
        have h := ssum_c wr g _ _ _ HST.out (HT.out.below HJ.out.2.2 hpos)
        have e : Sha.close (Sha.run Sha.H0 (3 :: ds.flatten)) (Sha.rest (3 :: ds.flatten)) (1 + 32 * 67) = Sha.sum (3 :: ds.flatten) := by
          rw [show 1 + 32 * 67 = (3 :: ds.flatten).length by rw [List.length_cons, HD.out.flat]]
          rfl
        rw [e] at h
        rw [hS]
        exact h)
      have HSD := Lib.hid (show D32 S from by rw [hS]; exact d32_of_sum _)
      have HSE := Lib.hid hS
      have HI := Lib.hid (info_d32 S HSD.out)
      have HZ := Lib.hid (zs_size S HSD.out)
      clear hS hta HST
      go_wp2_with fail
      refine HSUM.out.mono ?_
      rintro e5 w5 ⟨rfl, hb5⟩
      have HR5 := Lib.hid (HJ.out.2.1.below hb5 HJ.out.2.1.lt)
      have HB5 := Lib.hid (HJ.out.2.2.trans (hb5.mono HJ.out.2.2.size))
      clear hb5
      go_wp2_with (first | (refine wpList_store_row (by rfl) 32 _ _ (by rfl) (w.heap.size + 1) (cellsOf S).toArray (by rfl) (by rfl) 32 (cellsOf zs32).toArray HR5.out HI.out HZ.out (cellsOf_all _) ?_))
      refine bodyPost_ret (results_cell_row (by rfl) _ _ (w.heap.size + 1) _ (cellsOf S).toArray (0, 0) _ (by rfl) HR5.out.setRow Tryd.underlying32 (by rfl) HI.out) ?_ ?_
      · rfl
      · exact ⟨by rw [HSE.out], HB5.out.setRow (by omega) _⟩
set_option maxRecDepth 100000 in
set_option maxHeartbeats 2000000 in
theorem public_c (seed : List Nat) (key : Nat) (w : World) (hs : D32 seed) (hk' : key < 4294967296) (ht : Tab w) :
    Calls Tryd.prog 25 #[.agg (cellsOf seed).toArray, .int .u32 (key : Int)] w (DigRet (Ch.pressS (Ch.endsS seed key)) w) := by
  have HS := Lib.hid hs
  have HT := Lib.hid ht
  have hpos := ht.pos
  have HI := Lib.hid (info_d32 seed hs)
  clear hs ht
  go_enter Tryd.func25, Tryd.ntmps25
  go_upto_region 2 with fail
  rw [ztA]
  refine gen_code (F := E3 w 32 32 53 seed zs32 zs7.flatten) (E3.new w _ _ _ _ _ _) ?_
  intro wA h
  have H0 := Lib.hid h
  clear h
  obtain ⟨f, hf⟩ : ∃ f : Nat → List Nat, f = fun c => Ch.climbS key c (Ch.secS seed key c) 0 15 := ⟨_, rfl⟩
  have HFD := Lib.hid (show ∀ c, c < 67 → D32 (f c) from fun c _ => by rw [hf]; exact Ch.d32_climb (Ch.d32_sec _ _ _) _ _)
  have HFE := Lib.hid (show (List.range 67).map f = Ch.endsS seed key from by rw [hf]; rfl)
  have HFC := Lib.hid (show ∀ c, f c = Ch.climbS key c (Ch.secS seed key c) 0 15 from fun c => by rw [hf])
  clear hf
  go_wp2_with fail
  go_loopw [8] (fun i wr => ∃ k : Nat, k ≤ 67 ∧ i = .int .i64 k ∧ Hid (E3 w 32 32 53 seed zs32 (pre f zs7 k).flatten wr)) (fun i _ => 67 - (intOf i).toNat)
  case atStart => exact ⟨0, by omega, rfl, by rw [pre_zero f zs7 (by simp [zs7])]; exact H0⟩
  case round =>
    clear H0
    obtain ⟨k, hk, rfl, HB⟩ := hrel
    obtain ⟨es, hes⟩ : ∃ es, es = pre f zs7 k := ⟨_, rfl⟩
    have HES := Lib.hid (show D67 es from by rw [hes]; exact pre_67 f zs7 k HFD.out d67_zero)
    rw [← hes] at HB
    by_cases hk67 : k < 67
    · have hwr : IntKind.u8.wrap (k : Int) = (k : Int) := by rw [IntKind.wrap_u8]; omega
      obtain ⟨P, hP⟩ : ∃ P, P = Ch.secS seed key k := ⟨_, rfl⟩
      have HPD := Lib.hid (show D32 P from by rw [hP]; exact Ch.d32_sec _ _ _)
      have HSEC := Lib.hid (show ∀ W, Tab W → Calls Tryd.prog 47 #[.agg (cellsOf seed).toArray, .int .u32 (key : Int), .int .u8 (k : Int)] W (DigRet P W) from fun W hW => by rw [hP]; exact secret_c seed key k W HS.out hk' (by omega) hW)
      obtain ⟨Y, hY⟩ : ∃ Y, Y = f k := ⟨_, rfl⟩
      have HYD := Lib.hid (show D32 Y from by rw [hY]; exact HFD.out k hk67)
      have HCL := Lib.hid (show ∀ W, Tab W → Calls Tryd.prog 45 #[.int .u32 (key : Int), .int .u8 (k : Int), .agg (cellsOf P).toArray, .int .u8 0, .int .u8 15] W (DigRet Y W) from fun W hW => by rw [hY, HFC.out, ← hP]; exact climb_c key k 0 15 P W HPD.out hk' (by omega) (by omega) (by omega) hW)
      have HNX := Lib.hid (show es.set k Y = pre f zs7 (k + 1) from by rw [hes, hY]; exact pre_set f zs7 k hk67)
      have HIY := Lib.hid (info_d32 Y HYD.out)
      clear hP hY hes
      go_wp2_with (first | (refine wpList_load_row (by rfl) 32 _ (by rfl) w.heap.size (by rfl) _ (cellsOf seed).toArray (0, 0) _ HB.out.1 Tryd.underlying32 (by rfl) HI.out ?_))
      refine (HSEC.out wr (HT.out.below HB.out.2.2.2 hpos)).mono ?_
      rintro e1 w1 ⟨rfl, hb1⟩
      have H1 := Lib.hid (HB.out.below hb1)
      clear hb1
      go_wp2_with fail
      refine (HCL.out w1 (HT.out.below H1.out.2.2.2 hpos)).mono ?_
      rintro e2 w2 ⟨rfl, hb2⟩
      have H2 := Lib.hid (H1.out.below hb2)
      have HTH := Lib.hid (there_at H2.out.2.2.1 HES.out k hk67 HYD.out)
      have HST := Lib.hid (set_at H2.out.2.2.1 HES.out k hk67 HYD.out)
      have H3 := Lib.hid (H2.out.at2 HST.out.2 HST.out.1)
      rw [HNX.out] at H3
      clear hb2 HB H1 hwr
      go_upto_region 7 with (first | (refine wpList_store_mid (by rfl) 32 (.tmp 21) (.tmp 20) (by rfl) (w.heap.size + 1 + 1) (k * 32) (cellsOf Y).toArray (by rfl) (by rfl) HTH.out HIY.out (cellsOf_all _) ?_))
      refine gen_code (F := E3 w 32 32 53 seed zs32 (pre f zs7 (k + 1)).flatten) H3.out ?_
      intro w4 h4
      have H4 := Lib.hid h4
      clear h4 H2 H3 HTH HST
      go_wp2_with fail
      go_roundw
      case rel => exact ⟨k + 1, by omega, by go_num, H4⟩
      case measure => simp [intOf]; omega
    · obtain rfl : k = 67 := by omega
      have HEE := Lib.hid (show es = Ch.endsS seed key from by rw [hes, pre_all]; exact HFE.out)
      clear hes
      have HI7 := Lib.hid (info_ds7 53 info_a7 HES.out)
      obtain ⟨S, hS⟩ : ∃ S, S = Ch.pressS es := ⟨_, rfl⟩
      have HJN := Lib.hid (show ∀ W, Tab W → Calls Tryd.prog 46 #[.agg (cellsOf es.flatten).toArray] W (DigRet S W) from fun W hW => by rw [hS]; exact join_c es W HES.out hW)
      have HSD := Lib.hid (show D32 S from by rw [hS]; exact d32_of_sum _)
      have HSE := Lib.hid (show S = Ch.pressS (Ch.endsS seed key) from by rw [hS, HEE.out])
      have HIS := Lib.hid (info_d32 S HSD.out)
      have HZ := Lib.hid (zs_size S HSD.out)
      clear hS
      go_wp2_with (first | (refine wpList_load_row (by rfl) 53 _ (by rfl) (w.heap.size + 1 + 1) (by rfl) _ (cellsOf es.flatten).toArray (0, 0) _ HB.out.2.2.1 Tryd.underlying53 (by rfl) HI7.out ?_))
      refine (HJN.out wr (HT.out.below HB.out.2.2.2 hpos)).mono ?_
      rintro e5 w5 ⟨rfl, hb5⟩
      have H5 := Lib.hid (HB.out.below hb5)
      clear hb5
      go_wp2_with (first | (refine wpList_store_row (by rfl) 32 _ _ (by rfl) (w.heap.size + 1) (cellsOf S).toArray (by rfl) (by rfl) 32 (cellsOf zs32).toArray H5.out.2.1 HIS.out HZ.out (cellsOf_all _) ?_))
      refine bodyPost_ret (results_cell_row (by rfl) _ _ (w.heap.size + 1) _ (cellsOf S).toArray (0, 0) _ (by rfl) H5.out.2.1.setRow Tryd.underlying32 (by rfl) HIS.out) ?_ ?_
      · rfl
      · exact ⟨by rw [HSE.out], H5.out.2.2.2.setRow (by omega) _⟩
end Go.Proofs.YtlnblfdddellmaaDoor
