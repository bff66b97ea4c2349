/-
  The walks over the document's Press, Ends, Sign, Tops, Public and Recover of one-time keys.
-/
import Derived.Test.YtlnblfdddellmaaDoorChk7
namespace Go.Proofs.YtlnblfdddellmaaDoor
open Go.RowKit
set_option linter.unusedVariables false
theorem load_u8 (W : World) (g : Nat) (t : TypeId) (D : List Nat) (h : Brow W g t D) (k x : Nat) (hk : k < D.length) (hx : D.getD k 0 = x) : (Instr.loadAt 5 (.pointer (some ⟨g, k, none⟩))).run Tryd.prog W = .ok (.int .u8 (x : Int)) W := by
  have hc := h.cell k hk
  rw [hx] at hc
  go_simp
set_option maxRecDepth 100000 in
set_option maxHeartbeats 2000000 in
theorem rpress_c (ds : Ds) (w : World) (hd : D67 ds) :
    Calls Tryd.prog 28 #[.agg (cellsOf ds.flatten).toArray] w (DigRet (Ch.pressS ds) w) := by
  have HD := Lib.hid hd
  clear hd
  go_enter Tryd.func28, Tryd.ntmps28
  go_upto_region 1 with fail
  refine gen_code (F := fun W => Brow W w.heap.size 49 ds.flatten ∧ Brow W (w.heap.size + 1) 31 zs32 ∧ Below w.heap.size w W) ⟨(heap_new2 _ _ _).1, (heap_new2 _ _ _).2, ((Below.refl _ _).alloc (Nat.le_refl _) _).alloc (by simp) _⟩ ?_
  rintro wA ⟨h1, h2, h3⟩
  have H0 := Lib.hid (And.intro h1 (And.intro h2 h3))
  clear h1 h2 h3
  have HO0 := Lib.hid (ownlit wA [3] (by simp))
  have HB0 := Lib.hid (show Below wA.heap.size wA (wA.alloc (.cells (cellsOf [3]).toArray 5)) from (Below.refl _ _).alloc (Nat.le_refl _) _)
  go_wp2_with fail
  go_loopw [3, 4] (fun v i wr => ∃ k : Nat, k ≤ 67 ∧ i = .int .i64 k ∧ Hid (Own wr wA.heap.size v ([3] ++ (ds.take k).flatten)) ∧ Hid (Below wA.heap.size wA wr)) (fun _ i _ => 67 - (intOf i).toNat)
  case atStart => exact ⟨0, Nat.zero_le _, rfl, by rw [List.take_zero]; exact HO0, HB0⟩
  case round =>
    clear HO0 HB0
    obtain ⟨k, hk, rfl, HO, HB⟩ := hrel
    obtain ⟨wo, rfl⟩ : ∃ wo : World, wo = wr := ⟨_, rfl⟩
    by_cases hk67 : k < 67
    · obtain ⟨d, hdd⟩ : ∃ d, d = ds.getD k [] := ⟨_, rfl⟩
      have HDD := Lib.hid (show D32 d from by rw [hdd]; exact HD.out.get k hk67)
      obtain ⟨Q, hQ⟩ : ∃ Q, Q = [3] ++ (ds.take k).flatten := ⟨_, rfl⟩
      rw [← hQ] at HO
      have HQL := Lib.hid (show Q.length ≤ 2145 from by rw [hQ, List.length_append, flat_len _ (d32_take HD.out.2 k), List.length_take]; simp; omega)
      have HNX := Lib.hid (show Q ++ d = [3] ++ (ds.take (k + 1)).flatten from by
        rw [hQ, List.take_succ_eq_append_getElem (by rw [HD.out.1]; exact hk67), List.flatten_append, List.append_assoc]
        congr 2
        rw [hdd, List.getD_eq_getElem?_getD, List.getElem?_eq_getElem (by rw [HD.out.1]; exact hk67)]; simp)
      have HCE := Lib.hid (show ∀ W, Below wA.heap.size wA W → ∀ j, j < 32 → W.cell? ⟨w.heap.size, k * 32 + j, none⟩ = some (.int .u8 ((d.getD j 0 : Nat) : Int)) from fun W hW j hj => by
        have h := (H0.out.1.below hW H0.out.1.lt).part HD.out.2 k (by rw [HD.out.1]; exact hk67) j (.int .u8 ((d.getD j 0 : Nat) : Int)) (by rw [← hdd]; exact cellsOf_get d j (by rw [HDD.out.1]; exact hj))
        rwa [Nat.mul_comm] at h)
      clear hdd hQ
      have hdk : decide ((k : Int) < 67) = true := decide_eq_true (by omega)
      go_wp2_with fail
      go_loopw [3, 5] (fun v i wr => ∃ j : Nat, j ≤ 32 ∧ i = .int .i64 j ∧ Hid (Own wr wA.heap.size v (Q ++ d.take j)) ∧ Hid (Below wA.heap.size wA wr)) (fun _ i _ => 32 - (intOf i).toNat)
      case atStart => exact ⟨0, Nat.zero_le _, rfl, by rw [List.take_zero, List.append_nil]; exact HO, HB⟩
      case round =>
        clear HO HB
        obtain ⟨j, hj, rfl, HO, HB⟩ := hrel
        by_cases hj32 : j < 32
        · have hsz := HB.out.size
          obtain ⟨z, hz⟩ : ∃ z, z = d.getD j 0 := ⟨_, rfl⟩
          have hcx : wr.cell? ⟨w.heap.size, k * 32 + j, none⟩ = some (.int .u8 (z : Int)) := by rw [hz]; exact HCE.out wr HB.out j hj32
          have HZ := Lib.hid hz
          have HLK := Lib.hid (show (Q ++ d.take j).length + 1 ≤ 140737488355328 from by have := HQL.out; rw [List.length_append, List.length_take]; omega)
          clear hz
          go_wp2_with (at_builtin; (refine wpList_push rfl (.tmp 15) (.tmp 21) rfl wA.heap.size _ (Q ++ d.take j) z _ rfl rfl HO.out hsz rfl HLK.out ?_); intro v6 w6 g1 g2; have HO6 := Lib.hid (show Own w6 wA.heap.size v6 (Q ++ d.take (j + 1)) from by rw [← tk_push Q d j (by rw [HDD.out.1]; exact hj32), ← HZ.out]; exact g1); have HB6 := Lib.hid (HB.out.trans g2); clear g1 g2 HO HB hcx hsz HZ)
          go_roundw
          case rel => exact ⟨j + 1, by omega, by go_num, HO6, HB6⟩
          case measure => simp [intOf]; omega
        · obtain rfl : j = 32 := by omega
          have HO1 := Lib.hid (show Own wr wA.heap.size u3 ([3] ++ (ds.take (k + 1)).flatten) from by
            have := HO.out
            rwa [List.take_of_length_le (by rw [HDD.out.1]; omega), HNX.out] at this)
          clear HO
          go_wp2_with fail
          go_roundw
          case rel => exact ⟨k + 1, by omega, by go_num, HO1, HB⟩
          case measure => simp [intOf]; omega
    · obtain rfl : k = 67 := by omega
      obtain ⟨S, hS⟩ : ∃ S, S = Ch.pressS ds := ⟨_, rfl⟩
      have HSD := Lib.hid (show D32 S from by rw [hS]; exact d32_of_sum _)
      have HI := Lib.hid (info_r32 S HSD.out)
      have HZ := Lib.hid (zs_size S HSD.out)
      have HO1 := HO.out
      rw [List.take_of_length_le (by rw [HD.out.1]; omega)] at HO1
      obtain ⟨a4, L4, c4, hv, g1, g2, g3, g4, g5, g6⟩ := HO1.form (by
        intro z hz
        rcases List.mem_append.1 hz with h | h
        · simp at h; omega
        · exact HD.out.bytes z h)
      have HSUM := Lib.hid (rsum_c _ a4 L4 c4 wo g5 (by rw [← g1, List.length_append, HD.out.flat]; simp))
      rw [show Sha.sum ([3] ++ ds.flatten) = S from by rw [hS]; rfl] at HSUM
      have H4 := Lib.hid (show Brow wo (w.heap.size + 1) 31 zs32 ∧ Below w.heap.size w wo from ⟨H0.out.2.1.below HB.out H0.out.2.1.lt, H0.out.2.2.trans (HB.out.mono H0.out.2.2.size)⟩)
      have HSE := Lib.hid hS
      subst hv
      clear g1 g2 g3 g4 g5 g6 HO1 HO HB hS
      go_wp2_with fail
      refine HSUM.out.mono ?_
      rintro e5 w5 ⟨rfl, hb5⟩
      have HR5 := Lib.hid (H4.out.1.below hb5 H4.out.1.lt)
      have HB5 := Lib.hid (H4.out.2.trans (hb5.mono H4.out.2.size))
      clear hb5
      go_wp2_with (first | (refine wpList_store_row (by rfl) 31 _ _ (by rfl) (w.heap.size + 1) (cellsOf S).toArray (by rfl) (by rfl) 31 (cellsOf zs32).toArray HR5.out HI.out HZ.out (cellsOf_all _) ?_))
      refine bodyPost_ret (results_cell_row (by rfl) _ _ (w.heap.size + 1) _ (cellsOf S).toArray (0, 0) _ (by rfl) HR5.out.setRow Tryd.underlying31 (by rfl) HI.out) ?_ ?_
      · rfl
      · exact ⟨by rw [HSE.out], HB5.out.setRow (by omega) _⟩
set_option maxRecDepth 100000 in
set_option maxHeartbeats 2000000 in
theorem rends_c (seed : List Nat) (key : Nat) (w : World) (hs : D32 seed) (hk' : key < 4294967296) :
    Calls Tryd.prog 26 #[.agg (cellsOf seed).toArray, .int .u32 (key : Int)] w (DigRet (Ch.endsS seed key).flatten w) := by
  have HS := Lib.hid hs
  have HI := Lib.hid (info_r32 seed hs)
  clear hs
  go_enter Tryd.func26, Tryd.ntmps26
  go_upto_region 2 with fail
  rw [ztR]
  refine gen_code (F := E3 w 31 49 49 seed zs7.flatten zs7.flatten) (E3.new w _ _ _ _ _ _) ?_
  intro wA h
  have H0 := Lib.hid h
  clear h
  obtain ⟨f, hf⟩ : ∃ f : Nat → List Nat, f = fun c => Ch.climbS key c (Ch.secS seed key c) 0 15 := ⟨_, rfl⟩
  have HFD := Lib.hid (show ∀ c, c < 67 → D32 (f c) from fun c _ => by rw [hf]; exact Ch.d32_climb (Ch.d32_sec _ _ _) _ _)
  have HFE := Lib.hid (show (List.range 67).map f = Ch.endsS seed key from by rw [hf]; rfl)
  have HFC := Lib.hid (show ∀ c, f c = Ch.climbS key c (Ch.secS seed key c) 0 15 from fun c => by rw [hf])
  clear hf
  go_wp2_with fail
  go_loopw [6] (fun i wr => ∃ k : Nat, k ≤ 67 ∧ i = .int .i64 k ∧ Hid (E3 w 31 49 49 seed zs7.flatten (pre f zs7 k).flatten wr)) (fun i _ => 67 - (intOf i).toNat)
  case atStart => exact ⟨0, by omega, rfl, by rw [pre_zero f zs7 (by simp [zs7])]; exact H0⟩
  case round =>
    clear H0
    obtain ⟨k, hk, rfl, HB⟩ := hrel
    obtain ⟨es, hes⟩ : ∃ es, es = pre f zs7 k := ⟨_, rfl⟩
    have HES := Lib.hid (show D67 es from by rw [hes]; exact pre_67 f zs7 k HFD.out d67_zero)
    rw [← hes] at HB
    by_cases hk67 : k < 67
    · have hwr : IntKind.u8.wrap (k : Int) = (k : Int) := by rw [IntKind.wrap_u8]; omega
      obtain ⟨P, hP⟩ : ∃ P, P = Ch.secS seed key k := ⟨_, rfl⟩
      have HPD := Lib.hid (show D32 P from by rw [hP]; exact Ch.d32_sec _ _ _)
      have HSEC := Lib.hid (show ∀ W, Calls Tryd.prog 44 #[.agg (cellsOf seed).toArray, .int .u32 (key : Int), .int .u8 (k : Int)] W (DigRet P W) from fun W => by rw [hP]; exact rsecret_c seed key k W HS.out hk' (by omega))
      obtain ⟨Y, hY⟩ : ∃ Y, Y = f k := ⟨_, rfl⟩
      have HYD := Lib.hid (show D32 Y from by rw [hY]; exact HFD.out k hk67)
      have HCL := Lib.hid (show ∀ W, Calls Tryd.prog 43 #[.int .u32 (key : Int), .int .u8 (k : Int), .agg (cellsOf P).toArray, .int .i64 0, .int .i64 15] W (DigRet Y W) from fun W => by rw [hY, HFC.out, ← hP]; exact rclimb_c key k 0 15 P W HPD.out hk' (by omega) (by omega) (by omega))
      have HNX := Lib.hid (show es.set k Y = pre f zs7 (k + 1) from by rw [hes, hY]; exact pre_set f zs7 k hk67)
      have HIY := Lib.hid (info_r32 Y HYD.out)
      clear hP hY hes
      go_wp2_with (first | (refine wpList_load_row (by rfl) 31 _ (by rfl) w.heap.size (by rfl) _ (cellsOf seed).toArray (0, 0) _ HB.out.1 Tryd.underlying31 (by rfl) HI.out ?_))
      refine (HSEC.out wr).mono ?_
      rintro e1 w1 ⟨rfl, hb1⟩
      have H1 := Lib.hid (HB.out.below hb1)
      clear hb1
      go_wp2_with fail
      refine (HCL.out w1).mono ?_
      rintro e2 w2 ⟨rfl, hb2⟩
      have H2 := Lib.hid (H1.out.below hb2)
      have HTH := Lib.hid (there_at H2.out.2.2.1 HES.out k hk67 HYD.out)
      have HST := Lib.hid (set_at H2.out.2.2.1 HES.out k hk67 HYD.out)
      have H3 := Lib.hid (H2.out.at2 HST.out.2 HST.out.1)
      rw [HNX.out] at H3
      clear hb2 HB H1 hwr
      go_upto_region 4 with (first | (refine wpList_store_mid (by rfl) 31 (.tmp 21) (.tmp 20) (by rfl) (w.heap.size + 1 + 1) (k * 32) (cellsOf Y).toArray (by rfl) (by rfl) HTH.out HIY.out (cellsOf_all _) ?_))
      refine gen_code (F := E3 w 31 49 49 seed zs7.flatten (pre f zs7 (k + 1)).flatten) H3.out ?_
      intro w4 h4
      have H4 := Lib.hid h4
      clear h4 H2 H3 HTH HST
      go_wp2_with fail
      go_roundw
      case rel => exact ⟨k + 1, by omega, by go_num, H4⟩
      case measure => simp [intOf]; omega
    · obtain rfl : k = 67 := by omega
      have HEE := Lib.hid (show es = Ch.endsS seed key from by rw [hes, pre_all]; exact HFE.out)
      clear hes
      have HI7 := Lib.hid (info_ds7 49 info_r7 HES.out)
      have HZ := Lib.hid (size_ds7 d67_zero HES.out)
      go_wp2_with (first | (refine wpList_load_row (by rfl) 49 _ (by rfl) (w.heap.size + 1 + 1) (by rfl) _ (cellsOf es.flatten).toArray (0, 0) _ HB.out.2.2.1 Tryd.underlying49 (by rfl) HI7.out ?_) | (refine wpList_store_row (by rfl) 49 _ _ (by rfl) (w.heap.size + 1) (cellsOf es.flatten).toArray (by rfl) (by rfl) 49 (cellsOf zs7.flatten).toArray HB.out.2.1 HI7.out HZ.out (cellsOf_all _) ?_))
      refine bodyPost_ret (results_cell_row (by rfl) _ _ (w.heap.size + 1) _ (cellsOf es.flatten).toArray (0, 0) _ (by rfl) HB.out.2.1.setRow Tryd.underlying49 (by rfl) HI7.out) ?_ ?_
      · rfl
      · exact ⟨by rw [HEE.out], HB.out.2.2.2.setRow (by omega) _⟩
/-- what came in, the result, and the digits -/
def SG (w : World) (g7 : Nat) (seed m D : List Nat) (W : World) : Prop := E3 w 31 31 49 seed m zs7.flatten W ∧ Brow W g7 59 D
theorem SG.below {w W W' : World} {g7 : Nat} {seed m D : List Nat} (h : SG w g7 seed m D W) (hb : Below W.heap.size W W') : SG w g7 seed m D W' := ⟨h.1.below hb, h.2.below hb h.2.lt⟩
theorem SG.only {w W W' : World} {g7 g : Nat} {seed m D : List Nat} (h : SG w g7 seed m D W) (ho : Only g W W') (hg : w.heap.size + 1 + 1 < g ∧ g7 ≠ g) : SG w g7 seed m D W' := ⟨h.1.only ho hg.1, h.2.only ho hg.2⟩
theorem SG.drew {w W : World} {g7 : Nat} {seed m D : List Nat} (h : SG w g7 seed m D W) : SG w g7 seed m D W.drew := ⟨h.1.drew, h.2.drew⟩
set_option maxRecDepth 100000 in
set_option maxHeartbeats 4000000 in
theorem rsign_c (seed : List Nat) (key : Nat) (m : List Nat) (w : World) (hs : D32 seed) (hm : D32 m) (hk' : key < 4294967296) :
    Calls Tryd.prog 22 #[.agg (cellsOf seed).toArray, .int .u32 (key : Int), .agg (cellsOf m).toArray] w (DigRet (Ch.signS seed key m).flatten w) := by
  have HSD := Lib.hid hs
  have HIM := Lib.hid (info_r32 m hm)
  obtain ⟨D, hD⟩ : ∃ D, D = Dg.digs m := ⟨_, rfl⟩
  have HDL := Lib.hid (show D.length = 67 from by rw [hD, Dg.digs_len, hm.1])
  have HDG := Lib.hid (show ∀ W, Calls Tryd.prog 29 #[.agg (cellsOf m).toArray] W (DigRet D W) from fun W => by rw [hD]; exact rdigits_c m W hm)
  have HDM := Lib.hid (show ∀ c, D.getD c 0 ≤ 15 from fun c => by rw [hD]; exact Ch.dig_le m hm c)
  obtain ⟨f, hf⟩ : ∃ f : Nat → List Nat, f = fun c => Ch.climbS key c (Ch.secS seed key c) 0 (D.getD c 0) := ⟨_, rfl⟩
  have HFD := Lib.hid (show ∀ c, c < 67 → D32 (f c) from fun c _ => by rw [hf]; exact Ch.d32_climb (Ch.d32_sec _ _ _) _ _)
  have HFE := Lib.hid (show (List.range 67).map f = Ch.signS seed key m from by rw [hf, hD]; rfl)
  have HFC := Lib.hid (show ∀ c, f c = Ch.climbS key c (Ch.secS seed key c) 0 (D.getD c 0) from fun c => by rw [hf])
  have HID := Lib.hid (info_d67 D HDL.out)
  have HZD := Lib.hid (zs_67 D HDL.out)
  clear hf hD hs hm
  go_enter Tryd.func22, Tryd.ntmps22
  go_upto_region 1 with fail
  rw [ztR]
  refine gen_code (F := E3 w 31 31 49 seed m zs7.flatten) (E3.new w _ _ _ _ _ _) ?_
  intro wA h
  have H0 := Lib.hid h
  clear h
  go_wp2_with (first | (refine wpList_load_row (by rfl) 31 _ (by rfl) (w.heap.size + 1) (by rfl) _ (cellsOf m).toArray (0, 0) _ H0.out.2.1 Tryd.underlying31 (by rfl) HIM.out ?_))
  refine (HDG.out wA).mono ?_
  rintro e0 w0 ⟨rfl, hb0⟩
  have HA := Lib.hid (H0.out.below hb0)
  clear hb0 H0
  obtain ⟨g7, hg7⟩ : ∃ g, g = w0.heap.size := ⟨_, rfl⟩
  have hg7N : w.heap.size + 1 + 1 < g7 := by rw [hg7]; exact HA.out.2.2.1.lt
  go_upto_region 2 with (first | (refine wpList_store_row (by rfl) 59 _ _ (by rfl) w0.heap.size (cellsOf D).toArray (by rfl) (by rfl) 59 (cellsOf zs67).toArray (by exact heap_new _ _) HID.out HZD.out (cellsOf_all _) ?_))
  refine gen_code (F := SG w g7 seed m D) (by
    rw [hg7]
    have hb := ((Below.refl w0.heap.size w0).alloc (Nat.le_refl _) (.cells (cellsOf zs67).toArray 59 (0, 0))).setRow (Nat.le_refl _) (cellsOf D).toArray
    exact ⟨HA.out.below hb, (Brow.new w0 59 zs67).setRow⟩) ?_
  intro w1 h
  have H1 := Lib.hid h
  clear h HA
  rw [← hg7]
  clear hg7
  obtain ⟨g8, hg8⟩ : ∃ g, g = w1.heap.size := ⟨_, rfl⟩
  have HGG := Lib.hid (show w.heap.size + 1 + 1 < g8 ∧ g7 ≠ g8 from by have := H1.out.2.lt; omega)
  go_upto_region 3 with fail
  rw [ztR]
  refine gen_code (F := fun W => SG w g7 seed m D W ∧ Brow W g8 49 zs7.flatten) (by
    rw [hg8]
    exact ⟨H1.out.below ((Below.refl w1.heap.size w1).alloc (Nat.le_refl _) _), Brow.new w1 49 zs7.flatten⟩) ?_
  rintro w2 ⟨h, h'⟩
  have H2 := Lib.hid h
  have H2' := Lib.hid h'
  clear h h' H1
  rw [← hg8]
  clear hg8
  go_wp2_with fail
  go_loopw [9] (fun i wr => ∃ k : Nat, k ≤ 67 ∧ i = .int .i64 k ∧ Hid (SG w g7 seed m D wr) ∧ Hid (Brow wr g8 49 (pre f zs7 k).flatten)) (fun i _ => 67 - (intOf i).toNat)
  case atStart => exact ⟨0, by omega, rfl, H2, by rw [pre_zero f zs7 (by simp [zs7])]; exact H2'⟩
  case round =>
    clear H2 H2'
    obtain ⟨k, hk, rfl, HB, HE⟩ := hrel
    obtain ⟨es, hes⟩ : ∃ es, es = pre f zs7 k := ⟨_, rfl⟩
    have HES := Lib.hid (show D67 es from by rw [hes]; exact pre_67 f zs7 k HFD.out d67_zero)
    rw [← hes] at HE
    by_cases hk67 : k < 67
    · have hwr : IntKind.u8.wrap (k : Int) = (k : Int) := by rw [IntKind.wrap_u8]; omega
      obtain ⟨h, hh⟩ : ∃ h, h = D.getD k 0 := ⟨_, rfl⟩
      have hh15 : h ≤ 15 := by rw [hh]; exact HDM.out k
      have hwh : IntKind.i64.wrap (h : Int) = (h : Int) := by simp [IntKind.wrap, IntKind.bits, IntKind.signed]; omega
      obtain ⟨P, hP⟩ : ∃ P, P = Ch.secS seed key k := ⟨_, rfl⟩
      have HPD := Lib.hid (show D32 P from by rw [hP]; exact Ch.d32_sec _ _ _)
      have HSEC := Lib.hid (show ∀ W, Calls Tryd.prog 44 #[.agg (cellsOf seed).toArray, .int .u32 (key : Int), .int .u8 (k : Int)] W (DigRet P W) from fun W => by rw [hP]; exact rsecret_c seed key k W HSD.out hk' (by omega))
      obtain ⟨Y, hY⟩ : ∃ Y, Y = f k := ⟨_, rfl⟩
      have HYD := Lib.hid (show D32 Y from by rw [hY]; exact HFD.out k hk67)
      have HCL := Lib.hid (show ∀ W, Calls Tryd.prog 43 #[.int .u32 (key : Int), .int .u8 (k : Int), .agg (cellsOf P).toArray, .int .i64 0, .int .i64 (h : Int)] W (DigRet Y W) from fun W => by
        rw [hY, HFC.out, ← hP, ← hh]
        have := rclimb_c key k 0 h P W HPD.out hk' (by omega) (by omega) (by omega)
        rwa [Nat.sub_zero] at this)
      have HNX := Lib.hid (show es.set k Y = pre f zs7 (k + 1) from by rw [hes, hY]; exact pre_set f zs7 k hk67)
      have HIY := Lib.hid (info_r32 Y HYD.out)
      have HLS := Lib.hid (fun W (hW : SG w g7 seed m D W) => loadR W w.heap.size seed HSD.out hW.1.1)
      have HLH := Lib.hid (fun W (hW : SG w g7 seed m D W) => load_u8 W g7 _ D hW.2 k h (by rw [HDL.out]; exact hk67) hh.symm)
      clear hP hY hes hh
      go_upto_region 6 with fail
      (try dsimp only [Act.put, List.setIfInBounds_toArray, List.set_cons_zero, List.set_cons_succ])
      have HS := Lib.hid HB.out.drew
      have HE := Lib.hid HE.out.drew
      clear HB
      refine anyH_begin (S := SG w g7 seed m D) (by kernel_rfl) ?_
      refine anyH_pureG 0 (d := 16) (op := .move (.tmp 9)) (gd := none) (.int .i64 (k : Int)) (by rfl) (fun o ho => wanted_plain ho _) (by kernel_rfl) (by kernel_rfl) (by kernel_rfl) (fun _ _ _ h => h) (fun o ho W hW => by unfold execOp; simp only [ho]; go_simp) HS.out ?_
      simp only [Act.put, List.setIfInBounds_toArray, List.set_cons_zero, List.set_cons_succ]
      refine anyH_pureG 1 (d := 17) (op := .move (.tmp 1)) (gd := none) (.int .u32 (key : Int)) (by rfl) (fun o ho => wanted_plain ho _) (by kernel_rfl) (by kernel_rfl) (by kernel_rfl) (fun _ _ _ h => h) (fun o ho W hW => by unfold execOp; simp only [ho]; go_simp) HS.out ?_
      simp only [Act.put, List.setIfInBounds_toArray, List.set_cons_zero, List.set_cons_succ]
      refine anyH_pureG 2 (d := 18) (op := .move (.tmp 9)) (gd := none) (.int .i64 (k : Int)) (by rfl) (fun o ho => wanted_plain ho _) (by kernel_rfl) (by kernel_rfl) (by kernel_rfl) (fun _ _ _ h => h) (fun o ho W hW => by unfold execOp; simp only [ho]; go_simp) HS.out ?_
      simp only [Act.put, List.setIfInBounds_toArray, List.set_cons_zero, List.set_cons_succ]
      refine anyH_pureG 3 (d := 19) (op := .convert 3 5 (.tmp 18)) (gd := none) (.int .u8 (k : Int)) (by rfl) (fun o ho => wanted_plain ho _) (by kernel_rfl) (by kernel_rfl) (by kernel_rfl) (fun _ _ _ h => h) (fun o ho W hW => by unfold execOp; simp only [ho]; go_simp) HS.out ?_
      simp only [Act.put, List.setIfInBounds_toArray, List.set_cons_zero, List.set_cons_succ]
      refine anyH_loadG 4 (d := 20) (ty := 31) (x := (.tmp 3)) (gd := none) (p := .pointer (some ⟨w.heap.size, 0, none⟩)) (.agg (cellsOf seed).toArray) (by rfl) (fun o ho => wanted_plain ho _) (by kernel_rfl) (by kernel_rfl) (by kernel_rfl) (fun _ _ _ h => h) (by rfl) HLS.out HS.out ?_
      simp only [Act.put, List.setIfInBounds_toArray, List.set_cons_zero, List.set_cons_succ]
      refine anyH_pureG 5 (d := 21) (op := .move (.tmp 1)) (gd := none) (.int .u32 (key : Int)) (by rfl) (fun o ho => wanted_plain ho _) (by kernel_rfl) (by kernel_rfl) (by kernel_rfl) (fun _ _ _ h => h) (fun o ho W hW => by unfold execOp; simp only [ho]; go_simp) HS.out ?_
      simp only [Act.put, List.setIfInBounds_toArray, List.set_cons_zero, List.set_cons_succ]
      refine anyH_pureG 6 (d := 22) (op := .move (.tmp 9)) (gd := none) (.int .i64 (k : Int)) (by rfl) (fun o ho => wanted_plain ho _) (by kernel_rfl) (by kernel_rfl) (by kernel_rfl) (fun _ _ _ h => h) (fun o ho W hW => by unfold execOp; simp only [ho]; go_simp) HS.out ?_
      simp only [Act.put, List.setIfInBounds_toArray, List.set_cons_zero, List.set_cons_succ]
      refine anyH_pureG 7 (d := 23) (op := .convert 3 5 (.tmp 22)) (gd := none) (.int .u8 (k : Int)) (by rfl) (fun o ho => wanted_plain ho _) (by kernel_rfl) (by kernel_rfl) (by kernel_rfl) (fun _ _ _ h => h) (fun o ho W hW => by unfold execOp; simp only [ho]; go_simp) HS.out ?_
      simp only [Act.put, List.setIfInBounds_toArray, List.set_cons_zero, List.set_cons_succ]
      refine anyH_pureG 9 (d := 25) (op := .move (.tmp 9)) (gd := none) (.int .i64 (k : Int)) (by rfl) (fun o ho => wanted_plain ho _) (by kernel_rfl) (by kernel_rfl) (by kernel_rfl) (fun _ _ _ h => h) (fun o ho W hW => by unfold execOp; simp only [ho]; go_simp) HS.out ?_
      simp only [Act.put, List.setIfInBounds_toArray, List.set_cons_zero, List.set_cons_succ]
      refine anyH_pureG 10 (d := 26) (op := .indexAddr 59 (.tmp 7) (.tmp 25)) (gd := none) (.pointer (some ⟨g7, k, none⟩)) (by rfl) (fun o ho => wanted_plain ho _) (by kernel_rfl) (by kernel_rfl) (by kernel_rfl) (fun _ _ _ h => h) (fun o ho W hW => by unfold execOp; simp only [ho]; go_simp) HS.out ?_
      simp only [Act.put, List.setIfInBounds_toArray, List.set_cons_zero, List.set_cons_succ]
      refine anyH_loadG 11 (d := 27) (ty := 5) (x := (.tmp 26)) (gd := none) (p := .pointer (some ⟨g7, k, none⟩)) (.int .u8 (h : Int)) (by rfl) (fun o ho => wanted_plain ho _) (by kernel_rfl) (by kernel_rfl) (by kernel_rfl) (fun _ _ _ h => h) (by rfl) HLH.out HS.out ?_
      simp only [Act.put, List.setIfInBounds_toArray, List.set_cons_zero, List.set_cons_succ]
      refine anyH_pureG 12 (d := 28) (op := .convert 5 3 (.tmp 27)) (gd := none) (.int .i64 (h : Int)) (by rfl) (fun o ho => wanted_plain ho _) (by kernel_rfl) (by kernel_rfl) (by kernel_rfl) (fun _ _ _ h => h) (fun o ho W hW => by unfold execOp; simp only [ho]; go_simp) HS.out ?_
      simp only [Act.put, List.setIfInBounds_toArray, List.set_cons_zero, List.set_cons_succ]
      refine anyH_callG 8 (d := some 24) (f := 44) (xs := #[(.tmp 20), (.tmp 21), (.tmp 23)]) (ts := #[31, 47, 5]) (gd := none) (vs := #[.agg (cellsOf seed).toArray, .int .u32 (key : Int), .int .u8 (k : Int)]) (by kernel_rfl) (by rfl) (fun o ho => wanted_plain ho _) (by go_simp) (by go_simp) (HSEC.out _) ?_
      rintro e91 w91 ⟨rfl, hb91⟩
      refine ⟨_, rfl, HS.out.below hb91, fun hS91 => ?_⟩
      have HS := Lib.hid hS91
      have HE := Lib.hid (HE.out.below hb91 HE.out.lt)
      clear hS91 hb91
      simp only [Act.put, List.setIfInBounds_toArray, List.set_cons_zero, List.set_cons_succ]
      refine anyH_callG 13 (d := some 29) (f := 43) (xs := #[(.tmp 17), (.tmp 19), (.tmp 24), (.const (.int .i64 0)), (.tmp 28)]) (ts := #[47, 5, 31, 3, 3]) (gd := none) (vs := #[.int .u32 (key : Int), .int .u8 (k : Int), .agg (cellsOf P).toArray, (.int .i64 0), .int .i64 (h : Int)]) (by kernel_rfl) (by rfl) (fun o ho => wanted_plain ho _) (by go_simp) (by go_simp) (HCL.out _) ?_
      rintro e92 w92 ⟨rfl, hb92⟩
      refine ⟨_, rfl, HS.out.below hb92, fun hS92 => ?_⟩
      have HS := Lib.hid hS92
      have HE := Lib.hid (HE.out.below hb92 HE.out.lt)
      clear hS92 hb92
      simp only [Act.put, List.setIfInBounds_toArray, List.set_cons_zero, List.set_cons_succ]
      refine anyH_pureG 14 (d := 30) (op := .indexAddr 49 (.tmp 8) (.tmp 16)) (gd := none) (.pointer (some ⟨g8, k * 32, none⟩)) (by rfl) (fun o ho => wanted_plain ho _) (by kernel_rfl) (by kernel_rfl) (by kernel_rfl) (fun _ _ _ h => h) (fun o ho W hW => by unfold execOp; simp only [ho]; go_simp) HS.out ?_
      simp only [Act.put, List.setIfInBounds_toArray, List.set_cons_zero, List.set_cons_succ]
      refine wpAnyH_all (rs := [15]) (by kernel_rfl) (by simp) ?_
      intro k' hk'; simp only [List.mem_cons, List.not_mem_nil, or_false] at hk'; subst hk'
      refine op_at 15 (d := none) (op := .store 31 (.tmp 30) (.tmp 29)) (by rfl) ?_
      intro o0 hod hoo
      have HTH := Lib.hid (there_at HE.out HES.out k hk67 HYD.out)
      have HST := Lib.hid (set_at HE.out HES.out k hk67 HYD.out)
      refine wp_store_mid 31 (.tmp 30) (.tmp 29) hoo g8 (k * 32) (cellsOf Y).toArray (by rfl) (by rfl) HTH.out HIY.out (cellsOf_all _) ?_
      rw [hod]
      refine ⟨HS.out.only HST.out.2 HGG.out, ?_⟩
      refine gen_anyH (F := fun W => SG w g7 seed m D W ∧ Brow W g8 49 (pre f zs7 (k + 1)).flatten) ⟨HS.out.only HST.out.2 HGG.out, by rw [← HNX.out]; exact HST.out.1⟩ ?_
      rintro w4 ⟨h4, h4'⟩
      have H4 := Lib.hid h4
      have H4' := Lib.hid h4'
      clear h4 h4' HS HE HTH HST hod hoo
      simp only [Act.put]
      refine wpAnyH_done (by kernel_rfl) ?_ _
      go_wp2_with fail
      go_roundw
      case rel => exact ⟨k + 1, by omega, by go_num, H4, H4'⟩
      case measure => simp [intOf]; omega
    · obtain rfl : k = 67 := by omega
      have HEE := Lib.hid (show es = Ch.signS seed key m from by rw [hes, pre_all]; exact HFE.out)
      clear hes
      have HI7 := Lib.hid (info_ds7 49 info_r7 HES.out)
      have HZ := Lib.hid (size_ds7 d67_zero HES.out)
      go_wp2_with (first | (refine wpList_load_row (by rfl) 49 _ (by rfl) g8 (by rfl) _ (cellsOf es.flatten).toArray (0, 0) _ HE.out Tryd.underlying49 (by rfl) HI7.out ?_) | (refine wpList_store_row (by rfl) 49 _ _ (by rfl) (w.heap.size + 1 + 1) (cellsOf es.flatten).toArray (by rfl) (by rfl) 49 (cellsOf zs7.flatten).toArray HB.out.1.2.2.1 HI7.out HZ.out (cellsOf_all _) ?_))
      refine bodyPost_ret (results_cell_row (by rfl) _ _ (w.heap.size + 1 + 1) _ (cellsOf es.flatten).toArray (0, 0) _ (by rfl) HB.out.1.2.2.1.setRow Tryd.underlying49 (by rfl) HI7.out) ?_ ?_
      · rfl
      · exact ⟨by rw [HEE.out], HB.out.1.2.2.2.setRow (by omega) _⟩
end Go.Proofs.YtlnblfdddellmaaDoor
