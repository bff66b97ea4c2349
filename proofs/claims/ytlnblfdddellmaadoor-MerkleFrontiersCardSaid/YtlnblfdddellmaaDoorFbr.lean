/-
  The root of a frontier that has leaves: the walk.
-/
import Derived.Test.YtlnblfdddellmaaDoorFbk
import Derived.Sort.CutIn
namespace Go.Proofs.YtlnblfdddellmaaDoor
open Go.RowKit
set_option linter.unusedVariables false
attribute [local go_sem] Oper.semAt_some
theorem run_store_d (W : World) (g : Nat) {t : TypeId} {zs ys : List Nat} (h : Brow W g t zs) (hz : zs.length = 32) (hy : D32 ys) : (Instr.storeAt 32 (.pointer (some ⟨g, 0, none⟩)) (.agg (cellsOf ys).toArray)).run Tryd.prog W = .ok () (W.setCells g 0 (cellsOf ys)) := by
  have h1 := run_storeVar_mid W g 0 32 (cellsOf ys).toArray (P := Tryd.prog) (h.there _ (by rw [cellsOf_size, hy.1, hz])) (info32 dtA hy) (cellsOf_all _)
  simp only [Instr.storeAt, Instr.sureAddr, Sem.run_bind, Sem.run_pure, Result.andThen_ok, h1]
theorem run_load_d (W : World) (g : Nat) {t : TypeId} {x : List Nat} (h : Brow W g t x) (hx : D32 x) : (Instr.loadAt 32 (.pointer (some ⟨g, 0, none⟩))).run Tryd.prog W = .ok (.agg (cellsOf x).toArray) W := run_dload dtA W g 0 x hx h.range
/-- so far as the tops are folded -/
structure FI (w : World) (ga bx : Nat) (bv : Value) (X : List Nat) (W : World) : Prop where
  bel : Below w.heap.size w W
  res : Brow W w.heap.size 32 zs32
  acc : Brow W ga 32 X
  box : W.cell? ⟨bx, 0, none⟩ = some bv
  siz : bx < W.heap.size
theorem lay_d {W : World} {x : List Nat} (V : Obj) (hV : V = .cells (cellsOf zs32).toArray 32 (0, 0)) (hx : D32 x) : Brow ((W.alloc V).setCells W.heap.size 0 (cellsOf x)) W.heap.size 32 x ∧ Below W.heap.size W ((W.alloc V).setCells W.heap.size 0 (cellsOf x)) := by
  subst hV
  have h0 : Brow (W.alloc (.cells (cellsOf zs32).toArray 32)) W.heap.size 32 zs32 := heap_new _ _
  have hb : Below W.heap.size W (W.alloc (.cells (cellsOf zs32).toArray 32)) := (Below.refl _ _).alloc (Nat.le_refl _) _
  exact ⟨h0.setAll (by rw [hx.1, zs32_len]), hb.trans ((Only.setCells (cellsOf x) 0 (Only.refl W.heap.size _)).below (Nat.le_refl _) (by simp))⟩
theorem FI.keepL {w W W' : World} {ga bx D : Nat} {bv : Value} {X : List Nat} (h : FI w ga bx bv X W) (hk : KeepL D W W') (h1 : w.heap.size < ga) (h2 : ga < bx) (h3 : bx < D) : FI w ga bx bv X W' :=
  ⟨⟨hk.os.trans h.bel.os, hk.tape.trans h.bel.tape, hk.output.trans h.bel.output, Nat.le_trans h.bel.size hk.size, fun b hb => (hk.blk b (by omega) (by omega)).trans (h.bel.block b hb)⟩,
   (hk.blk _ (by omega) (by omega)).trans h.res, (hk.blk _ (by omega) (by omega)).trans h.acc, (World.cell?_of_block (w := W) (a := ⟨bx, 0, none⟩) (hk.blk bx (by omega) (by omega))).trans h.box, Nat.lt_of_lt_of_le h.siz hk.size⟩
theorem FI.below {w W W' : World} {ga bx : Nat} {bv : Value} {X : List Nat} (h : FI w ga bx bv X W) (hb : Below W.heap.size W W') (h2 : ga < bx) : FI w ga bx bv X W' :=
  ⟨h.bel.trans (hb.mono h.bel.size), h.res.below hb h.res.lt, h.acc.below hb h.acc.lt, (hb.cell (p := ⟨bx, 0, none⟩) h.siz).trans h.box, Nat.lt_of_lt_of_le h.siz hb.size⟩
theorem FI.put {w W : World} {ga bx : Nat} {bv : Value} {X : List Nat} (h : FI w ga bx bv X W) (h1 : w.heap.size < ga) (h2 : ga < bx) {Y : List Nat} (hl : Y.length = X.length) : FI w ga bx bv Y (W.setCells ga 0 (cellsOf Y)) := by
  have ho : Only ga W (W.setCells ga 0 (cellsOf Y)) := Only.setCells _ 0 (Only.refl _ _)
  exact ⟨h.bel.trans (ho.below (by omega) h.bel.size), h.res.only ho (by omega), h.acc.setAll hl, (World.cell?_of_block (w := W) (a := ⟨bx, 0, none⟩) (ho.block bx h.siz (by omega))).trans h.box, Nat.lt_of_lt_of_le h.siz ho.size⟩
theorem outD_len (ds : Ds) (n k : Nat) : (outD ds n k).length = n - k := by simp [outD]
theorem gen_codeIn {F : Fence} {n : Nat} {P : Program} {Q : Exit → Act → World → Prop} {c : Code} {a : Act} {W : World} {G : World → Prop} (h : G W) (k : ∀ w, G w → c.wpIn F n P Q a w) : c.wpIn F n P Q a W := k W h
set_option maxRecDepth 100000 in
set_option maxHeartbeats 8000000 in
theorem froot_c (g n B : Nat) (v : Value) (ds : Ds) (w : World) (hF : FR w g n v) (hO : OwnD w B 32 v ds) (hd : ∀ d ∈ ds, D32 d) (hl0 : 0 < ds.length) (hlm : ds.length ≤ 1000) (hn0 : n ≠ 0) (ht : Tab w) :
    Calls Tryd.prog 11 #[.pointer (some ⟨g, 0, none⟩)] w (DigRet (foldS ds) w) := by
  obtain ⟨a, L, c, rfl, hL, hLc, hcm, hnil, hr⟩ := OwnD.form hO hd
  obtain ⟨m, rfl⟩ : ∃ m, L = m + 1 := ⟨L - 1, by omega⟩
  obtain ⟨ba, oa, rfl, hba, _⟩ := hr.at m (by omega)
  obtain ⟨last, hlast⟩ : ∃ x, x = ds.getD m [] := ⟨_, rfl⟩
  have HLD := Lib.hid (show D32 last from by rw [hlast]; exact D32.get hd m (by omega))
  have HLE := Lib.hid hlast
  have HR := Lib.hid hr
  have HF := Lib.hid hF
  have HDD := Lib.hid hd
  have HT := Lib.hid ht
  have hglt := hF.lt
  have HLEN := Lib.hid hL
  have hm1 : m ≤ 999 := by omega
  have hnz : ((n : Int) == 0) = false := by rw [beq_eq_false_iff_ne]; omega
  have hni : ¬ (n : Int) = 0 := by omega
  have hsub : ((m + 1 : Nat) : Int) - 1 = (m : Int) := by omega
  have hsub' : (m : Int) + 1 - 1 = (m : Int) := by omega
  have kH := fun W => run_dheadAt dtA W (some ⟨ba, oa, none⟩) (m + 1) c m (by omega)
  refine (callsIn_wide (n := 3)).1 ?_
  refine callsIn_of_wp_marks Tryd.func11 rfl trivial ?_ rfl
  simp only [Tryd.ntmps11, List.size_toArray, List.length_cons, List.length_nil, Nat.reduceAdd, Nat.reduceSub, Array.replicate_succ, Array.replicate_zero, List.push_toArray, List.append_toArray, List.nil_append, List.cons_append]
  clear hr hF hd ht hL hlast hO hl0 hlm hn0
  gi_upto_region 1 with fail
  refine gen_codeIn (G := fun W => Brow W w.heap.size 32 zs32 ∧ Below w.heap.size w W ∧ W.heap.size = w.heap.size + 1) ⟨heap_new _ _, (Below.refl _ _).alloc (Nat.le_refl _) _, by simp⟩ ?_
  rintro w1 ⟨hr1, hb1, hs1⟩
  have HB1 := Lib.hid hb1
  have HR1 := Lib.hid hr1
  have hF1 := HF.out.below hb1 hglt
  have hc0 := hF1.sizec
  have hc1 := hF1.topsc
  have hix := fun W => run_dindex dtA W ba oa (m + 1) c m (by omega)
  have HL1 := Lib.hid (run_dload dtA w1 ba (oa + m * 32) last HLD.out (by
    obtain ⟨b', o', h1, _, h3⟩ := (HR.out.below hb1).at m (by omega)
    simp only [Option.some.injEq, Addr.mk.injEq, and_true] at h1
    obtain ⟨rfl, rfl⟩ := h1
    rw [HLE.out]
    exact h3))
  have HS1 := Lib.hid hs1
  clear hr1 hb1 hF1 hs1
  gi_upto_region 5 with (first | (refine wpListIn_load (by rfl) 32 (.tmp 28) (by rfl) (.pointer (some ⟨ba, oa + m * 32, none⟩)) (.agg (cellsOf last).toArray) (by rfl) HL1.out ?_) | (refine wpListIn_store (by rfl) 32 (.tmp 4) (.tmp 29) (by rfl) (.pointer (some ⟨w1.heap.size, 0, none⟩)) (.agg (cellsOf last).toArray) (by rfl) (by rfl) (run_store_d _ w1.heap.size (zs := zs32) (by exact heap_new _ _) zs32_len HLD.out) ?_))
  obtain ⟨ga, hga⟩ : ∃ ga, ga = w1.heap.size := ⟨_, rfl⟩
  have HLY := Lib.hid (fun V hV => lay_d (W := w1) (x := last) V hV HLD.out)
  refine gen_codeIn (G := fun W => Brow W w.heap.size 32 zs32 ∧ Brow W ga 32 last ∧ Below w.heap.size w W) (by
    have h := HLY.out _ rfl
    rw [hga]
    exact ⟨HR1.out.below h.2 HR1.out.lt, h.1, HB1.out.trans (h.2.mono HB1.out.size)⟩) ?_
  rintro w2 ⟨hr2, ha2, hb2⟩
  have hga1 : w.heap.size < ga := by rw [hga, HS1.out]; omega
  rw [← hga]
  have HR2 := Lib.hid hr2
  have HA2 := Lib.hid ha2
  have HB2 := Lib.hid hb2
  have hF2 := HF.out.below hb2 hglt
  have hc1 := hF2.topsc
  have HBK := Lib.hid (fun w => backF_c (some ⟨ba, oa, none⟩) m c w)
  clear hr2 ha2 hb2 hga HLY HL1 HR1 HB1 HS1 hF2 hc0 hix
  gi_wp2_with (first | (refine ⟨trivial, ?_⟩; gi_at_call 35; refine (callsIn_wide.2 (HBK.out _)).mono ?_; rintro e w3 ⟨rfl, hw3⟩; have HW3 := Lib.hid hw3; clear hw3))
  obtain ⟨bx, hbx⟩ : ∃ bx, bx = w2.heap.size := ⟨_, rfl⟩
  rw [← hbx]
  have hgb : ga < bx := by rw [hbx]; exact HA2.out.lt
  have hbD : bx < w3.heap.size := by rw [HW3.out, hbx]; simp
  obtain ⟨bv, hbv⟩ : ∃ bv : Value, bv = .slice (some ⟨ba, oa, none⟩) m c := ⟨_, rfl⟩
  have HBV := Lib.hid hbv
  have HI := Lib.hid (show FI w ga bx bv (foldS (ds.drop m)) w3 from by
    have hb : Below w2.heap.size w2 w3 := by rw [HW3.out]; exact (Below.refl _ _).alloc (Nat.le_refl _) _
    refine ⟨HB2.out.trans (hb.mono HB2.out.size), HR2.out.below hb HR2.out.lt, by rw [foldS_last ds m HLEN.out, ← HLE.out]; exact HA2.out.below hb HA2.out.lt, ?_, hbD⟩
    rw [HW3.out, hbx, hbv]
    simp)
  have HIT := Lib.hid (show ∀ X W, FI w ga bx bv X W → ItD bx (some ⟨ba, oa, none⟩) m c ds W from fun X W h => by
    refine ⟨h.box.trans (by rw [hbv]), fun i hi => ?_⟩
    obtain ⟨b', o', h1, _, h3⟩ := (HR.out.below h.bel).at i (by omega)
    exact ⟨b', o', h1, D32.get HDD.out i (by rw [HLEN.out]; omega), h3⟩)
  clear hbv hbx HW3 HR2 HA2 HB2 HBK hc1 kH
  refine range_mem (F := Fence.wide) (n := 3) rfl (by omega) (gf := 52) (lb := #[.pointer (some ⟨bx, 0, none⟩)]) rfl trivial (enters_of Tryd.func52 (by kernel_rfl) rfl)
    (enc := encD) (outD ds m 0) (fun pre x => ∃ q, q < m ∧ pre = outD ds m (q + 1) ∧ x = (q, ds.getD q [])) (fun W1 => ItD bx (some ⟨ba, oa, none⟩) m c ds W1) (fun x => rfl)
    (fun l J Jx W1 hIt hY h0 => backD_c l bx m c (some ⟨ba, oa, none⟩) ds (by omega) J Jx W1 (fun s W2 h => hIt s W2 h) (fun q hq W2 h => by
      have := hY _ (q, ds.getD q []) W2 h ⟨q, hq, rfl, rfl⟩
      rw [← outD_step _ _ _ hq] at this
      exact this) h0)
    (fun s W1 => ∃ k, k ≤ m ∧ s = outD ds m k ∧ FI w ga bx bv (foldS (ds.drop k)) W1) (fun _ _ => False) (fun s W1 W2 hk h => by obtain ⟨k, h1, h2, h3⟩ := h; exact ⟨k, h1, h2, h3.keepL hk hga1 hgb hbD⟩) (fun _ _ _ _ h => h) (fun s W1 h => by obtain ⟨k, h1, h2, h3⟩ := h; exact HIT.out _ _ h3) ⟨m, Nat.le_refl _, (outD_end ds m).symm, HI.out⟩
    (fun pre x a1 W1 => ∃ X6, a1 = { tmps := #[.pointer (some ⟨g, 0, none⟩), undef, .pointer (some ⟨w.heap.size, 0, none⟩), .int .i64 (m : Int), .pointer (some ⟨ga, 0, none⟩), undef, .pointer (some ⟨X6, 0, none⟩), .pointer (some ⟨g, 0, none⟩), .bool false, .bool false, .pointer (some ⟨g, 0, none⟩), .pointer (some ⟨g, 0, none⟩), .pointer (some ⟨g, 0, none⟩), .int .i64 (n : Int), .bool false, .bool false, undef, .pointer (some ⟨g, 0, none⟩), .pointer (some ⟨g, 0, none⟩), .pointer (some ⟨g, 1, none⟩), .slice (some ⟨ba, oa, none⟩) (m + 1) c, .int .i64 ((m : Int) + 1), .int .i64 (m : Int), .pointer (some ⟨g, 0, none⟩), .pointer (some ⟨g, 0, none⟩), .pointer (some ⟨g, 1, none⟩), .slice (some ⟨ba, oa, none⟩) (m + 1) c, .int .i64 (m : Int), .pointer (some ⟨ba, oa + m * 32, none⟩), .agg (cellsOf last).toArray, .pointer (some ⟨g, 0, none⟩), .pointer (some ⟨g, 0, none⟩), .pointer (some ⟨g, 1, none⟩), .slice (some ⟨ba, oa, none⟩) (m + 1) c, .int .i64 (m : Int), .slice (some ⟨ba, oa, none⟩) m c, .func (.func 52) #[] #[.pointer (some ⟨bx, 0, none⟩)], .int .i64 (x.1 : Int), .agg (cellsOf x.2).toArray, undef, undef, undef, undef], defers := [] } ∧ w3.heap.size + 1 < X6 ∧ Brow W1 X6 32 x.2 ∧ FI w ga bx bv (foldS (ds.drop (x.1 + 1))) W1)
    (fun s x a W1 W2 hk h => by obtain ⟨X6, h1, h2, h3, h4⟩ := h; exact ⟨X6, h1, h2, (hk.blk X6 (by omega) (by omega)).trans h3, h4.keepL hk hga1 hgb hbD⟩) ?assign ?body ?done ?stop
  case assign =>
    rintro l pre x W1 ⟨k, hk, hpre, hi⟩ ⟨q, hq, rfl, rfl⟩ hlt
    obtain rfl : k = q + 1 := by
      have := congrArg List.length hpre
      rw [outD_len, outD_len] at this
      omega
    obtain ⟨xx, hxx⟩ : ∃ xx, xx = ds.getD q [] := ⟨_, rfl⟩
    have HXD := Lib.hid (show D32 xx from by rw [hxx]; exact D32.get HDD.out q (by rw [HLEN.out]; omega))
    rw [← hxx]
    have HI1 := Lib.hid hi
    have HLY := Lib.hid (fun V hV => lay_d (W := W1) (x := xx) V hV HXD.out)
    clear hi HI hpre hxx
    simp only [encD]
    gi_wp2_with (first | (refine wpListIn_store (by rfl) 32 (.tmp 6) (.tmp 38) (by rfl) (.pointer (some ⟨W1.heap.size, 0, none⟩)) (.agg (cellsOf xx).toArray) (by rfl) (by rfl) (run_store_d _ W1.heap.size (zs := zs32) (by exact heap_new _ _) zs32_len HXD.out) ?_))
    have h := HLY.out _ rfl
    exact ⟨h.2.block _ (by omega), h.2.block _ (by omega), W1.heap.size, rfl, hlt, h.1, HI1.out.below h.2 hgb⟩
  case body =>
    rintro l pre x a1 W1 ⟨X6, rfl, hX6, hb6, hi⟩ ⟨q, hq, rfl, rfl⟩ hlt
    simp only at hb6 hi
    obtain ⟨xx, hxx⟩ : ∃ xx, xx = ds.getD q [] := ⟨_, rfl⟩
    have HXD := Lib.hid (show D32 xx from by rw [hxx]; exact D32.get HDD.out q (by rw [HLEN.out]; omega))
    obtain ⟨Y, hY⟩ : ∃ Y, Y = foldS (ds.drop (q + 1)) := ⟨_, rfl⟩
    have HYD := Lib.hid (show D32 Y from by rw [hY]; exact foldS_d32 _ (d32_drop HDD.out _))
    obtain ⟨Z, hZ⟩ : ∃ Z, Z = nodeS xx Y := ⟨_, rfl⟩
    have HZD := Lib.hid (show D32 Z from by rw [hZ]; exact d32_sum _)
    have HZE := Lib.hid (show Z = foldS (ds.drop q) from by rw [hZ, hxx, hY]; exact (foldS_step ds q (by rw [HLEN.out]; omega)).symm)
    have HN := Lib.hid (show Calls Tryd.prog 33 #[.agg (cellsOf xx).toArray, .agg (cellsOf Y).toArray] W1 (DigRet Z W1) from by rw [hZ]; exact node_c xx Y W1 HXD.out HYD.out (HT.out.below hi.bel HT.out.pos))
    rw [← hxx] at hb6
    rw [← hY] at hi
    simp only [← hxx]
    have HI1 := Lib.hid hi
    have HB6 := Lib.hid hb6
    have HST := Lib.hid (outD_step ds m q hq)
    rw [← hxx] at HST
    clear hi hb6 HI hxx hY hZ
    gi_wp2_with (first | (refine wpListIn_load (by rfl) 32 (.tmp 6) (by rfl) (.pointer (some ⟨X6, 0, none⟩)) (.agg (cellsOf xx).toArray) (by rfl) (run_load_d W1 X6 HB6.out HXD.out) ?_) | (refine wpListIn_load (by rfl) 32 (.tmp 4) (by rfl) (.pointer (some ⟨ga, 0, none⟩)) (.agg (cellsOf Y).toArray) (by rfl) (run_load_d W1 ga HI1.out.acc HYD.out) ?_) | (refine ⟨trivial, ?_⟩; gi_at_call 33; refine (CallsIn.inRound l (callsIn_wide.2 HN.out)).mono ?_; rintro e w4 ⟨rfl, hb4⟩; have HB4 := Lib.hid hb4; have HI4 := Lib.hid (HI1.out.below hb4 hgb); clear hb4) | (refine wpListIn_store (by rfl) 32 (.tmp 4) (.tmp 41) (by rfl) (.pointer (some ⟨ga, 0, none⟩)) (.agg (cellsOf Z).toArray) (by rfl) (by rfl) (run_store_d w4 ga HI4.out.acc HYD.out.1 HZD.out) ?_))
    have ho : Only ga w4 (w4.setCells ga 0 (cellsOf Z)) := Only.setCells _ 0 (Only.refl _ _)
    have h4 := HB4.out.size
    refine ⟨(ho.block _ (by omega) (by omega)).trans (HB4.out.block _ (by omega)), (ho.block _ (by omega) (by omega)).trans (HB4.out.block _ (by omega)), q, by omega, HST.out.symm, ?_⟩
    rw [← HZE.out]
    exact HI4.out.put hga1 hgb (by rw [HZD.out.1, HYD.out.1])
  case done =>
    rintro D W1 hD ⟨k, hk, hpre, hi⟩ hK
    obtain rfl : k = 0 := by
      have := congrArg List.length hpre
      rw [outD_len, outD_len] at this
      omega
    rw [List.drop_zero] at hi
    obtain ⟨X, hX⟩ : ∃ X, X = foldS ds := ⟨_, rfl⟩
    rw [← hX] at hi
    have HXE := Lib.hid hX
    have HXD := Lib.hid (show D32 X from by rw [hX]; exact foldS_d32 _ HDD.out)
    have HI1 := Lib.hid hi
    have HK := Lib.hid hK
    have hDlt := (Array.getElem?_eq_some_iff.1 hK).1
    clear hi HI hpre hX hK
    gi_wp2_with (first | (refine wpListIn_load (by rfl) 32 (.tmp 4) (by rfl) (.pointer (some ⟨ga, 0, none⟩)) (.agg (cellsOf X).toArray) (by rfl) (run_load_d W1 ga HI1.out.acc HXD.out) ?_) | (refine wpListIn_store (by rfl) 32 (.tmp 2) (.tmp 42) (by rfl) (.pointer (some ⟨w.heap.size, 0, none⟩)) (.agg (cellsOf X).toArray) (by rfl) (by rfl) (run_store_d W1 w.heap.size HI1.out.res zs32_len HXD.out) ?_))
    have ho : Only w.heap.size W1 (W1.setCells w.heap.size 0 (cellsOf X)) := Only.setCells _ 0 (Only.refl _ _)
    have hr := HI1.out.res.setAll (ys := X) (by rw [HXD.out.1, zs32_len])
    have hk3 : (W1.setCells w.heap.size 0 (cellsOf X)).heap[D]? = some (.deferred (some [])) := (ho.block D hDlt (by omega)).trans HK.out
    have hbl := HI1.out.bel.trans (ho.below (Nat.le_refl _) HI1.out.bel.size)
    obtain ⟨w9, hw9⟩ : ∃ w9, w9 = W1.setCells w.heap.size 0 (cellsOf X) := ⟨_, rfl⟩
    rw [← hw9] at hr hk3 hbl ⊢
    refine ⟨by simp, .inl ⟨_, _, rfl, run_takeDeferred hk3, ?_⟩⟩
    have hr9 : Brow (w9.putObj D (.deferred none)) w.heap.size 32 X := (World.putObj_heap_other (by omega)).trans hr
    refine ⟨.agg (cellsOf X).toArray, ?_, by rw [HXE.out], ?_⟩
    · exact results_cell_row (by rfl) _ _ w.heap.size _ (cellsOf X).toArray (0, 0) _ (by rfl) hr9 Tryd.underlying32 (by rfl) (info32 dtA HXD.out)
    · exact ⟨hbl.os, hbl.tape, hbl.output, by show w.heap.size ≤ (w9.putObj D _).heap.size; simp only [World.putObj, Array.size_setIfInBounds]; exact hbl.size, fun k hk => (World.putObj_heap_other (by omega)).trans (hbl.block k hk)⟩
  case stop =>
    rintro D pre W1 hD hf
    exact hf.elim
end Go.Proofs.YtlnblfdddellmaaDoor
