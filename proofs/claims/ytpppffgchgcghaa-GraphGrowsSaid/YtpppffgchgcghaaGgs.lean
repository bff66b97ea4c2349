/-
  GraphGrows, walked: a graph that grows while it is marked.
-/
import Derived.Test.YtpppffgchgcghaaGgr
namespace Go.Proofs.Ytpppffgchgcghaa
open Go.RowKit Go.Maps
set_option linter.unusedVariables false
theorem run_cell_gu8 (W : World) (p : Addr) (n : Int) (hc : W.cell? p = some (.int .u8 n)) : (Instr.loadAt 5 (.pointer (some p))).run Try.prog W = .ok (.int .u8 n) W := by go_simp
theorem run_cell_gby (W : World) (p : Addr) (a : Option Addr) (n c : Nat) (hc : W.cell? p = some (.slice a n c)) : (Instr.loadAt 33 (.pointer (some p))).run Try.prog W = .ok (.slice a n c) W := by go_simp
/-- behind so many steps -/
def GS (B g k i : Nat) (w : World) (R : Ds) (W : World) : Prop := ∃ f s N0 T, N0 ≤ 9 + i ∧ T ≤ 120 + 217 * i ∧ GG B g k N0 T w f s W ∧ InvG f R s
set_option maxRecDepth 100000 in
set_option maxHeartbeats 16000000 in
theorem ggrows_c (a0 : Option Addr) (len0 cap0 : Nat) (L : List Sl) (a1 : Option Addr) (len1 cap1 : Nat) (z1 : List Nat) (a2 : Option Addr) (len2 cap2 : Nat) (z2 : List (List FV)) (w : World) (r0 : BssIn w a0 len0 cap0 L) (r1 : BytesIn w a1 len1 cap1 z1) (r2 : StsIn w [.i, .u, .b, .i] a2 len2 cap2 z2) :
    Calls Try.prog 6 #[.slice a0 len0 cap0, .slice a1 len1 cap1, .slice a2 len2 cap2] w fun e w' => e = .returned (.bool true) ∧ Below w.heap.size w w' := by
  have R2 := Lib.hid r2
  have hlc2 : len2 ≤ cap2 := r2.2.2.1
  have hcm2 : cap2 ≤ 9223372036854775807 := r2.2.2.2.1
  clear r2
  obtain ⟨m9, hm9⟩ : ∃ m : Nat, m = min len0 9 := ⟨_, rfl⟩
  have e9 : min (len0 : Int) 9 = (m9 : Int) := by omega
  have hm99 : m9 ≤ 9 := by omega
  have hm9l : m9 ≤ len0 := by omega
  have hlc0 : len0 ≤ cap0 := r0.2.2.1
  have hcm0 : cap0 ≤ 9223372036854775807 := r0.2.2.2.1
  have R0 := Lib.hid r0
  have R1 := Lib.hid r1
  obtain ⟨Lz, hLz⟩ : ∃ Lz, Lz = L.map (fun s : Sl => s.2.2.2) := ⟨_, rfl⟩
  have HLZ := Lib.hid hLz
  have HNW := Lib.hid (gnew_c w)
  clear r0 r1 hLz hm9
  go_enter Try.func6, Try.ntmps6
  go_wp2_with fail
  refine HNW.out.mono ?_
  rintro e1 w1 ⟨rfl, hg1, hb1⟩
  obtain ⟨g, hg⟩ : ∃ g, g = w.heap.size := ⟨_, rfl⟩
  rw [← hg]
  have HP0 := Lib.hid (show PG w.heap.size g 0 w (fE Lz 0) w1 from ⟨⟨_, by rw [hg]; exact hg1⟩, hb1, hb1.size⟩)
  clear hg1 hb1 hg HNW
  go_wp2_with fail
  go_loopw [23] (fun i wr => ∃ j : Nat, j ≤ m9 ∧ i = .int .i64 j ∧ Hid (PG w.heap.size g j w (fE Lz j) wr)) (fun i _ => m9 - (intOf i).toNat)
  case atStart => exact ⟨0, Nat.zero_le _, rfl, HP0⟩
  case round =>
    clear HP0
    obtain ⟨j, hj, rfl, HP⟩ := hrel
    by_cases hjn : j < m9
    · obtain ⟨q1, q2, q3, q4, q5, q6⟩ := R0.out.below HP.out.bel
      obtain ⟨b, off, rfl, hb, hc⟩ := q5.resolve_left (by omega)
      obtain ⟨s, hs⟩ : ∃ s, L[j]? = some s := ⟨_, List.getElem?_eq_getElem (by omega)⟩
      have hcj := hc j s hs
      obtain ⟨sa, sn, sc, sz⟩ := s
      simp only [slv] at hcj
      have hsb := q6 _ (List.mem_of_getElem? hs)
      obtain ⟨u1, u2, u3, u4⟩ := hsb
      simp only at u1 u2 u3 u4
      have HLJ := Lib.hid (show Lz.getD j [] = sz from by rw [HLZ.out, List.getD_eq_getElem?_getD, List.getElem?_map, hs]; rfl)
      have HU := Lib.hid (And.intro u1 (And.intro u3 u4))
      have HND := Lib.hid (node_c j (by omega) wr)
      clear q1 q2 q3 q4 q5 q6 hc hs u1 u2 u3 u4 hb
      go_wp2_with fail
      refine HND.out.mono ?_
      rintro e2 w2 ⟨rfl, hb2⟩
      have HB2 := Lib.hid hb2
      have HNS := Lib.hid (nodes_c sa sn sc sz w2 (HU.out.1.below hb2) HU.out.2.1 HU.out.2.2)
      obtain ⟨nn, hnn⟩ : ∃ nn : List Nat, nn = nd j := ⟨_, rfl⟩
      rw [← hnn]
      have HNN := Lib.hid hnn
      clear hb2 HND hcj hnn
      go_wp2_with fail
      refine HNS.out.mono ?_
      rintro e3 w3 ⟨a', n', c', rfl, ho3, hb3⟩
      have HPT := Lib.hid (HP.out.put (by omega) (HB2.out.trans (hb3.mono HB2.out.size)) (show D32 nn from by rw [HNN.out]; exact d32_nd j) (OwnD.base ho3 HB2.out.size))
      clear ho3 hb3 HNS
      go_wp2_with fail
      refine HPT.out.mono ?_
      rintro e4 w4 ⟨rfl, hp4⟩
      have HPN := Lib.hid (show PG w.heap.size g (j + 1) w (fE Lz (j + 1)) w4 from by
        have : fE Lz (j + 1) = fun t => if t = nn then some (ndsP sz) else fE Lz j t := by simp only [fE, HLJ.out, HNN.out]
        rw [this]
        exact hp4)
      clear hp4 HPT HP
      go_wp2_with fail
      go_roundw
      case rel => exact ⟨j + 1, by omega, by go_num, HPN⟩
      case measure => simp [intOf]; omega
    · obtain rfl : j = m9 := by omega
      obtain ⟨f, hf⟩ : ∃ f, f = fE Lz j := ⟨_, rfl⟩
      have HSF := Lib.hid (show SmallF f from by rw [hf]; exact fE_small Lz j)
      have HDO := Lib.hid (show ∀ s, (f s).isSome = true → s ∈ dom18 from by rw [hf]; exact fE_dom18 Lz j hm99)
      have HBD := Lib.hid (show Bd f (ndsP z1) (fun _ => false) 120 from by rw [hf]; exact fE_bd Lz j hm99 _ (ndsP_len z1))
      have HPG := Lib.hid (show PG w.heap.size g j w f wr from by rw [hf]; exact HP.out)
      clear HP hf
      have HNS := Lib.hid (nodes_c a1 len1 cap1 z1 wr (R1.out.1.below HPG.out.bel) R1.out.2.2.1 R1.out.2.2.2)
      go_wp2_with fail
      refine HNS.out.mono ?_
      rintro e3 w3 ⟨a', n', c', rfl, ho3, hb3⟩
      have HMK := Lib.hid (HPG.out.gmark HSF.out HDO.out hb3 ho3 HBD.out)
      clear ho3 hb3 HNS
      go_wp2_with fail
      refine HMK.out.mono ?_
      rintro e4 w4 ⟨k, rfl, hsg⟩
      have HS4 := Lib.hid hsg
      clear hsg HMK HPG
      go_wp2_with fail
      refine (awake18_c w4).mono ?_
      rintro e5 w5 ⟨rfl, hb5⟩
      have HS5 := Lib.hid (show GS w.heap.size g k 0 w (ndsP z1) w5 from ⟨_, _, _, _, by omega, by omega, HS4.out.below hb5, inv_start f _⟩)
      clear hb5 HS4 HSF HDO HBD
      obtain ⟨m40, hm40⟩ : ∃ m : Nat, m = min len2 40 := ⟨_, rfl⟩
      have e40 : min (len2 : Int) 40 = (m40 : Int) := by omega
      have hm40b : m40 ≤ 40 := by omega
      have hm40l : m40 ≤ len2 := by omega
      clear hm40
      go_wp2_with fail
      go_loopw [52] (fun i wr => ∃ j : Nat, j ≤ m40 ∧ i = .int .i64 j ∧ Hid (GS w.heap.size g k j w (ndsP z1) wr)) (fun i _ => m40 - (intOf i).toNat)
      case atStart => exact ⟨0, Nat.zero_le _, rfl, HS5⟩
      case round =>
        clear HS5
        obtain ⟨i, hi, rfl, HP⟩ := hrel
        by_cases hin : i < m40
        · obtain ⟨f, s, N0, T, hN0, hT, hgg, hinv⟩ := HP.out
          have HNT := Lib.hid (show N0 ≤ 100 ∧ T ≤ 10000 ∧ N0 ≤ 9 + i ∧ T ≤ 120 + 217 * i from ⟨by omega, by omega, hN0, hT⟩)
          have HIV := Lib.hid hinv
          have hbw := hgg.bel
          obtain ⟨b, off, kd, x, z, nv, rfl, hb, hop⟩ := R2.out.opg (show i < len2 by omega)
          have c0 := (hbw.cell (p := ⟨b, off + i * 4, none⟩) hb).trans hop.c0
          have c1 := (hbw.cell (p := ⟨b, off + i * 4 + 1, none⟩) hb).trans hop.c1
          have c2 := (hbw.cell (p := ⟨b, off + i * 4 + 2, none⟩) hb).trans hop.c2
          have c3 := (hbw.cell (p := ⟨b, off + i * 4 + 3, none⟩) hb).trans hop.c3
          have hix := fun W => run_opg_idx W b off m40 cap2 i hin
          obtain ⟨za, zn, zc, zz⟩ := z
          simp only at c2
          obtain ⟨w5, hw5⟩ : ∃ w5, w5 = wr.alloc (.cells #[.int .i64 kd, .int .u8 (x : Int), .slice za zn zc, .int .i64 nv] 35) := ⟨_, rfl⟩
          have hb5 : Below wr.heap.size wr w5 := by rw [hw5]; exact (Below.refl _ _).alloc (Nat.le_refl _) _
          obtain ⟨X, hX⟩ : ∃ X, X = wr.heap.size := ⟨_, rfl⟩
          have hbx : OgB w5 X kd x (.slice za zn zc) nv := by rw [hw5, hX]; exact heap_alloc_new wr _
          have x0 : w5.cell? ⟨X, 0, none⟩ = some (.int .i64 kd) := (cell_of_row w5 X 0 _ _ _ hbx).trans rfl
          have x3 : w5.cell? ⟨X, 3, none⟩ = some (.int .i64 nv) := (cell_of_row w5 X 3 _ _ _ hbx).trans rfl
          have HBX := Lib.hid hbx
          have HXG := Lib.hid (show wr.heap.size ≤ X from by omega)
          have HX5 := Lib.hid (show X < w5.heap.size from (Array.getElem?_eq_some_iff.1 hbx).1)
          obtain ⟨u1, u2, u3, u4⟩ := hop.s2
          simp only at u1 u2 u3 u4
          have HZ := Lib.hid (And.intro u3 u4)
          have HRW := Lib.hid (show Rd w5 za zn zz from (u1.below hbw).below hb5)
          have HKD := Lib.hid hop.s0
          have hxl := hop.s1
          have hnv := hop.s3
          have HGG := Lib.hid hgg
          have HB5 := Lib.hid hb5
          clear hop hbx hb5 hbw hgg hinv hN0 hT u1 u2 u3 u4 hb HP
          go_upto_region 13 with fail
          rw [← hX]
          rw [← hw5]
          clear hX hw5 c0 c1 c2 c3 hix
          by_cases hkd : kd.tmod 2 = 0
          · go_upto_region 14 with fail
            obtain ⟨W0, hW0⟩ : ∃ W0, W0 = World.drew w5 := ⟨_, rfl⟩
            have HB0 := Lib.hid (show Below wr.heap.size wr W0 from by rw [hW0]; exact HB5.out.trans (below_drewN' _ w5 1))
            have HS := Lib.hid (show OgB W0 X kd x (.slice za zn zc) nv from by rw [hW0]; exact HBX.out)
            have HXL := Lib.hid (show X < W0.heap.size from by rw [hW0]; exact HX5.out)
            have HRD := Lib.hid (show Rd W0 za zn zz from by rw [hW0]; exact HRW.out)
            have HL1 := Lib.hid (fun (W : World) (hW : OgB W X kd x (.slice za zn zc) nv) => run_cell_gu8 W ⟨X, 1, none⟩ (x : Int) ((cell_of_row W X 1 _ _ _ hW).trans rfl))
            have HL2 := Lib.hid (fun (W : World) (hW : OgB W X kd x (.slice za zn zc) nv) => run_cell_gby W ⟨X, 2, none⟩ za zn zc ((cell_of_row W X 2 _ _ _ hW).trans rfl))
            obtain ⟨nn, hnn⟩ : ∃ nn : List Nat, nn = nd x := ⟨_, rfl⟩
            have HDD := Lib.hid (show D32 nn from by rw [hnn]; exact d32_nd x)
            have HDM := Lib.hid (show nn ∈ dom18 from by rw [hnn]; exact nd_dom x)
            have HND := Lib.hid (show ∀ W, Calls Try.prog 14 #[.int .u8 (x : Int)] W (fun e w' => e = .returned (.agg (cellsOf nn).toArray) ∧ Below W.heap.size W w') from fun W => by rw [hnn]; exact node_c x hxl W)
            clear hnn x0 x3 HBX HX5 HRW HB5
            refine anyH_begin (S := fun W => OgB W X kd x (.slice za zn zc) nv) (by kernel_rfl) ?_
            rw [← hW0]
            clear hW0
            refine anyH_pureG 0 (d := 60) (op := .move (.tmp 7)) (gd := none) (.pointer (some ⟨g, 0, none⟩)) (by rfl) (fun o ho => wanted_plain ho _) (by kernel_rfl) (by kernel_rfl) (by kernel_rfl) (fun _ _ _ h => h) (fun o ho W hW => by unfold execOp; simp only [ho]; go_simp) HS.out ?_
            simp only [Act.put, List.setIfInBounds_toArray, List.set_cons_zero, List.set_cons_succ]
            refine anyH_pureG 1 (d := 61) (op := .fieldAddr 35 (.tmp 12) 1) (gd := none) (.pointer (some ⟨X, 1, none⟩)) (by rfl) (fun o ho => wanted_plain ho _) (by kernel_rfl) (by kernel_rfl) (by kernel_rfl) (fun _ _ _ h => h) (fun o ho W hW => by unfold execOp; simp only [ho]; go_simp) HS.out ?_
            simp only [Act.put, List.setIfInBounds_toArray, List.set_cons_zero, List.set_cons_succ]
            refine anyH_loadG 2 (d := 62) (ty := 5) (x := (.tmp 61)) (gd := none) (p := .pointer (some ⟨X, 1, none⟩)) (.int .u8 (x : Int)) (by rfl) (fun o ho => wanted_plain ho _) (by kernel_rfl) (by kernel_rfl) (by kernel_rfl) (fun _ _ _ h => h) (by rfl) HL1.out HS.out ?_
            simp only [Act.put, List.setIfInBounds_toArray, List.set_cons_zero, List.set_cons_succ]
            refine anyH_pureG 4 (d := 64) (op := .fieldAddr 35 (.tmp 12) 2) (gd := none) (.pointer (some ⟨X, 2, none⟩)) (by rfl) (fun o ho => wanted_plain ho _) (by kernel_rfl) (by kernel_rfl) (by kernel_rfl) (fun _ _ _ h => h) (fun o ho W hW => by unfold execOp; simp only [ho]; go_simp) HS.out ?_
            simp only [Act.put, List.setIfInBounds_toArray, List.set_cons_zero, List.set_cons_succ]
            refine anyH_loadG 5 (d := 65) (ty := 33) (x := (.tmp 64)) (gd := none) (p := .pointer (some ⟨X, 2, none⟩)) (.slice za zn zc) (by rfl) (fun o ho => wanted_plain ho _) (by kernel_rfl) (by kernel_rfl) (by kernel_rfl) (fun _ _ _ h => h) (by rfl) HL2.out HS.out ?_
            simp only [Act.put, List.setIfInBounds_toArray, List.set_cons_zero, List.set_cons_succ]
            refine anyH_oneU 3 (d1 := some 63) (op1 := .call { callee := .value (.func 14), args := #[(.tmp 62)], argTypes := #[5] }) (by kernel_rfl) (by rfl) ?_
            intro o1 hod1 hoo1
            refine wp_callU hoo1 (by go_simp) (by go_simp) (HND.out W0) ?_
            rintro e1 wa ⟨rfl, hb1⟩
            refine ⟨_, rfl, ?_⟩
            rw [hod1]
            simp only [Act.put, List.setIfInBounds_toArray, List.set_cons_zero, List.set_cons_succ]
            have HSA := Lib.hid (show OgB wa X kd x (.slice za zn zc) nv from (hb1.block X HXL.out).trans HS.out)
            refine ⟨HSA.out, ?_⟩
            refine anyH_oneU 6 (d1 := some 66) (op1 := .call { callee := .value (.func 24), args := #[(.tmp 65)], argTypes := #[33] }) (by kernel_rfl) (by rfl) ?_
            intro o2 hod2 hoo2
            refine wp_callU hoo2 (by go_simp) (by go_simp) (nodes_c za zn zc zz wa (HRD.out.below hb1) HZ.out.1 HZ.out.2) ?_
            rintro e2 wb ⟨a', n', c', rfl, ho2, hb2⟩
            refine ⟨_, rfl, ?_⟩
            rw [hod2]
            simp only [Act.put, List.setIfInBounds_toArray, List.set_cons_zero, List.set_cons_succ]
            have HOW := Lib.hid (show OwE wb wr.heap.size (.slice a' n' c') (ndsP zz) from OwnD.base ho2 (Nat.le_trans HB0.out.size hb1.size))
            have HB2 := Lib.hid (show Below W0.heap.size W0 wb from hb1.trans (hb2.mono hb1.size))
            have HSB := Lib.hid (show OgB wb X kd x (.slice za zn zc) nv from (HB2.out.block X HXL.out).trans HS.out)
            refine ⟨HSB.out, ?_⟩
            have HPT := Lib.hid (HGG.out.put (by have := HNT.out; omega) (HB0.out.trans (HB2.out.mono HB0.out.size)) HDD.out HDM.out HOW.out)
            clear hb1 hb2 HSA ho2
            refine anyH_oneU 7 (d1 := some 67) (op1 := .call { callee := .value (.func 23), args := #[(.tmp 60), (.tmp 63), (.tmp 66)], argTypes := #[23, 42, 38] }) (by kernel_rfl) (by rfl) ?_
            intro o3 hod3 hoo3
            refine wp_callU hoo3 (by go_simp) (by go_simp) (HPT.out) ?_
            rintro e3 w3 ⟨rfl, hgh, hk3⟩
            refine ⟨_, rfl, ?_⟩
            rw [hod3]
            simp only [Act.put, List.setIfInBounds_toArray, List.set_cons_zero, List.set_cons_succ]
            have HGH := Lib.hid hgh
            have HSC := Lib.hid (show OgB w3 X kd x (.slice za zn zc) nv from (hk3 X HXG.out (Nat.lt_of_lt_of_le HXL.out HB2.out.size)).trans HSB.out)
            refine ⟨HSC.out, ?_⟩
            clear hgh hk3 HPT HSB HOW
            refine wpAnyH_done (by kernel_rfl) ?_ _
            have y1 : w3.cell? ⟨X, 1, none⟩ = some (.int .u8 (x : Int)) := (cell_of_row w3 X 1 _ _ _ HSC.out).trans rfl
            go_wp2_with fail
            refine (HND.out _).mono ?_
            rintro e4 w4 ⟨rfl, hb4⟩
            have HGR := Lib.hid ((HGH.out.below hb4).gray (by have := HNT.out; omega) HDD.out)
            clear hb4 HGH y1 HSC HB2
            go_wp2_with fail
            refine HGR.out.mono ?_
            rintro e5 w5 ⟨rfl, hg5⟩
            have HPN := Lib.hid (show GS w.heap.size g k (i + 1) w (ndsP z1) w5 from ⟨_, _, _, _, by have := HNT.out; omega, by have := HNT.out; omega, hg5, inv_put HIV.out nn (ndsP zz)⟩)
            clear hg5 HGR
            go_wp2_with fail
            go_roundw
            case rel => exact ⟨i + 1, by omega, by go_num, HPN⟩
            case measure => simp [intOf]; omega
          · have hq1 := Int.tmod_lt_of_pos nv (show (0 : Int) < 5 by omega)
            have hq2 := Int.lt_tmod_of_pos nv (show (0 : Int) < 5 by omega)
            have HST := Lib.hid ((HGG.out.below HB5.out).step (by have := HNT.out; omega) (nv.tmod 5) (by omega))
            clear HGG HB5 HBX HX5 HRW HZ
            go_wp2_with fail
            refine HST.out.mono ?_
            rintro e6 w6 ⟨rfl, hg6⟩
            have HPN := Lib.hid (show GS w.heap.size g k (i + 1) w (ndsP z1) w6 from ⟨_, _, _, _, by have := HNT.out; omega, by have := HNT.out; omega, hg6, inv_it _ _ HIV.out⟩)
            clear hg6 HST x0 x3
            go_wp2_with fail
            go_roundw
            case rel => exact ⟨i + 1, by omega, by go_num, HPN⟩
            case measure => simp [intOf]; omega
        · obtain rfl : i = m40 := by omega
          obtain ⟨f, s, N0, T, hN0, hT, hgg, hinv⟩ := HP.out
          have hT2 : T ≤ 8800 := by omega
          have HN0 := Lib.hid (show N0 ≤ 1000000 by omega)
          have HIV := Lib.hid hinv
          have HDA := Lib.hid (fun (n : Nat) (hn : T ≤ n) => hgg.done hn)
          have HP3 := Lib.hid (show GG w.heap.size g k N0 T w f (itP f 0 s) wr from hgg)
          clear HP hgg hinv hN0 hT
          go_wp2_with fail
          go_loopw [13] (fun i wr => ∃ i3 : Nat, i3 ≤ 8800 ∧ i = .int .i64 i3 ∧ Hid (GG w.heap.size g k N0 T w f (itP f i3 s) wr)) (fun i _ => 10000 - (intOf i).toNat)
          case atStart => exact ⟨0, by omega, rfl, HP3⟩
          case round =>
            clear HP3
            obtain ⟨i3, hi3, rfl, HP⟩ := hrel
            have HST := Lib.hid (HP.out.step (by omega) 1 (by omega))
            obtain ⟨s2, hs2⟩ : ∃ s2, s2 = itP f (i3 + 1) s := ⟨_, rfl⟩
            have hs2' : itP f (1 : Int).toNat (itP f i3 s) = s2 := by
              rw [hs2]
              exact (itP_add f i3 1 s).symm
            rw [hs2'] at HST
            have HS2 := Lib.hid hs2
            have HDN0 := Lib.hid (show T ≤ i3 + 1 → s2.1 = [] from fun h => by rw [hs2]; exact HDA.out (i3 + 1) h)
            have HIN2 := Lib.hid (show InvG f (ndsP z1) s2 from by rw [hs2]; exact inv_it _ _ HIV.out)
            clear HP hs2 hs2'
            go_wp2_with fail
            refine HST.out.mono ?_
            rintro e7 w7 ⟨rfl, hs7⟩
            have HS7 := Lib.hid hs7
            clear hs7 HST
            by_cases hdn : s2.1.length = 0
            · rw [decide_eq_true hdn]
              have HDN := Lib.hid (show s2.1 = [] from List.eq_nil_of_length_eq_zero hdn)
              have HNS := Lib.hid (nodes_c a1 len1 cap1 z1 w7 (R1.out.1.below HS7.out.bel) R1.out.2.2.1 R1.out.2.2.2)
              have hbd := bd_of HS7.out.sm dom18_nodup HS7.out.dom (ndsP z1) (fun _ => false)
              rw [dom18_len] at hbd
              have hzl := ndsP_len z1
              have HBD := Lib.hid hbd
              clear hdn hbd
              go_wp2_with fail
              refine HNS.out.mono ?_
              rintro e8 w8 ⟨a', n', c', rfl, ho8, hb8⟩
              have HRC := Lib.hid ((HS7.out.sg HN0.out).reach HS7.out.sm hb8 ho8 HBD.out (by omega))
              have HS8 := Lib.hid (HS7.out.below hb8)
              clear ho8 hb8 HNS
              go_wp2_with fail
              refine HRC.out.mono ?_
              rintro e9 w9 ⟨j', hj1, av, nv, cv, dv, rfl, ho9, hsr9, hd9, hm9, hb9⟩
              have HS9 := Lib.hid (HS8.out.below hb9)
              have HMEM := Lib.hid (show ∀ x ∈ dv, s2.2 x = true from fun x hx => by
                have h1 := (hm9 x (hd9 x hx)).1 hx
                obtain ⟨sg, sb⟩ := s2
                have h2 := HDN.out
                simp only at h2
                subst h2
                exact inv_reach HIN2.out j' x h1)
              obtain ⟨av', cv', ev, hlc9, hcm9, -, hdr⟩ := ho9.dr hd9
              obtain ⟨ev1, ev2, ev3⟩ := Value.slice.inj ev
              subst ev1
              rw [← ev2] at hdr
              rw [← ev2] at hlc9
              have hnvb : nv ≤ 9223372036854775807 := by omega
              have HP4 := Lib.hid (show GG w.heap.size g k N0 T w f s2 w9 ∧ DR w9 av nv dv from ⟨HS9.out, hdr⟩)
              clear ho9 hsr9 hd9 hm9 hb9 hj1 hdr ev ev2 ev3 hlc9 hcm9 HRC HS8 HS7 HS9
              go_wp2_with fail
              go_loopw [93] (fun i wr => ∃ j : Nat, j ≤ nv ∧ i = .int .i64 j ∧ Hid (GG w.heap.size g k N0 T w f s2 wr ∧ DR wr av nv dv)) (fun i _ => nv - (intOf i).toNat)
              case atStart => exact ⟨0, Nat.zero_le _, rfl, HP4⟩
              case round =>
                clear HP4
                obtain ⟨j, hj, rfl, HP⟩ := hrel
                by_cases hjn : j < nv
                · obtain ⟨b8, o8, ea, hb8, hra⟩ := HP.out.2.at j hjn
                  subst ea
                  obtain ⟨x, hx⟩ : ∃ x, x = dv.getD j [] := ⟨_, rfl⟩
                  have hxm : x ∈ dv := by rw [hx, List.getD_eq_getElem?_getD, List.getElem?_eq_getElem (by rw [HP.out.2.1]; exact hjn)]; exact List.getElem_mem _
                  rw [← hx] at hra
                  have HSX := Lib.hid (HP.out.2.2.1 x hxm)
                  have HXB := Lib.hid (HMEM.out x hxm)
                  have hix := fun W => run_dindex dtA W b8 o8 nv cv j hjn
                  have HLD := Lib.hid (run_dload dtA wr b8 (o8 + j * 32) x HSX.out hra)
                  obtain ⟨Y, hY⟩ : ∃ Y, Y = wr.heap.size := ⟨_, rfl⟩
                  clear hra hxm hx hb8
                  go_upto_region 24 with (first | (refine wpList_loadg 42 _ (by rfl) (by rfl) (.pointer (some ⟨b8, o8 + j * 32, none⟩)) (by rfl) (.agg (cellsOf x).toArray) HLD.out ?_) | (refine wpList_store_row (by rfl) 42 _ _ (by rfl) wr.heap.size (cellsOf x).toArray (by rfl) (by rfl) 42 (cellsOf zs32).toArray (by exact heap_new _ _) (infoG HSX.out) (zsizeG HSX.out) (cellsOf_all _) ?_))
                  have K2 := Lib.hid (fun (Z : Obj) (hZ : Z = .cells (cellsOf zs32).toArray 42 (0, 0)) => show Brow ((wr.alloc Z).setRow wr.heap.size (cellsOf x).toArray) wr.heap.size 42 x ∧ Below wr.heap.size wr ((wr.alloc Z).setRow wr.heap.size (cellsOf x).toArray) from by
                    subst hZ
                    exact ⟨(Brow.new wr 42 zs32).setRow, ((Below.refl _ _).alloc (Nat.le_refl _) _).setRow (Nat.le_refl _) _⟩)
                  refine gen_code (F := fun W => Brow W wr.heap.size 42 x ∧ Below wr.heap.size wr W) ⟨(K2.out _ rfl).1, (K2.out _ rfl).2⟩ ?_
                  rintro wB ⟨hxB, hbB⟩
                  rw [← hY] at hxB ⊢
                  have HBB := Lib.hid hbB
                  have HLX := Lib.hid (run_cell_dig wB Y x HSX.out hxB)
                  have HMK := Lib.hid (show Calls Try.prog 21 #[.pointer (some ⟨k, 0, none⟩), .agg (cellsOf x).toArray] wB (fun e w' => e = .returned (.bool true) ∧ Below wB.heap.size wB w') from by
                    have := ((HP.out.1.below hbB).sg HN0.out).marked HSX.out
                    rw [HXB.out] at this
                    exact this)
                  clear K2 hxB hbB hY HLD hix
                  go_wp2_with (refine wpList_loadg 42 _ (by rfl) (by rfl) (.pointer (some ⟨Y, 0, none⟩)) (by rfl) (.agg (cellsOf x).toArray) HLX.out ?_)
                  refine HMK.out.mono ?_
                  rintro e10 w10 ⟨rfl, hb10⟩
                  have HPN := Lib.hid (show GG w.heap.size g k N0 T w f s2 w10 ∧ DR w10 (some ⟨b8, o8, none⟩) nv dv from ⟨(HP.out.1.below HBB.out).below hb10, (HP.out.2.below HBB.out).below hb10⟩)
                  clear hb10 HBB HLX HMK HP
                  go_wp2_with fail
                  go_roundw
                  case rel => exact ⟨j + 1, by omega, by go_num, HPN⟩
                  case measure => simp [intOf]; omega
                · obtain rfl : j = nv := by omega
                  have HLF := Lib.hid (show Calls Try.prog 13 #[.pointer (some ⟨k, 0, none⟩)] wr fun e w' => e = .returned (.int .i64 0) ∧ w' = wr from by
                    have := (HP.out.1.sg HN0.out).left
                    rw [HDN.out] at this
                    exact this)
                  have HBE := Lib.hid HP.out.1.bel
                  clear HP
                  go_wp2_with fail
                  refine HLF.out.mono ?_
                  rintro e12 w12 ⟨rfl, rfl⟩
                  go_wp2_with fail
                  go_ret
                  exact ⟨rfl, HBE.out⟩
            · rw [decide_eq_false hdn]
              have hlt : i3 + 1 ≤ 8800 := by
                by_cases hge : i3 + 1 < T
                · omega
                · exact absurd (by rw [HDN0.out (by omega)]; rfl) hdn
              have HPN := Lib.hid (show GG w.heap.size g k N0 T w f (itP f (i3 + 1) s) w7 from by rw [← HS2.out]; exact HS7.out)
              clear HS7 hdn
              go_wp2_with fail
              go_roundw
              case rel => exact ⟨i3 + 1, hlt, by go_num, HPN⟩
              case measure => simp [intOf]; omega
end Go.Proofs.Ytpppffgchgcghaa
