/-
  The walk over the statement JournalLasts.
-/
import Derived.Test.YtmomdfmilelilaaJol
import Derived.Test.YtmomdfmilelilaaJna
import Derived.Deep.CutBlock
import Derived.Deep.CutRange
namespace Go.Proofs.Ytmomdfmilelilaa
open Go.RowKit
set_option linter.unusedVariables false
set_option maxRecDepth 100000 in
set_option maxHeartbeats 16000000 in
theorem jlasts_c (a1 : Option Addr) (len1 cap1 : Nat) (z1 : List (List FV)) (w : World) (r1 : StsIn w [.i, .b, .bb, .i, .i] a1 len1 cap1 z1) :
    Calls Try.prog 3 #[.slice a1 len1 cap1] w fun e w' => e = .returned (.bool true) ∧ Below w.heap.size w w' := by
  have hlc := r1.2.2.1
  have hcm := r1.2.2.2.1
  have HR1 := Lib.hid r1
  have HD := Lib.hid (dnew_c 1048576 w (by omega) (by omega))
  have HINI := Lib.hid JT.init
  clear r1
  go_enter Try.func3, Try.ntmps3
  go_wp2_with fail
  refine HD.out.mono ?_
  rintro e1 w1 ⟨rfl, hk1, hb1⟩
  obtain ⟨d, hd⟩ : ∃ d, d = w.heap.size := ⟨_, rfl⟩
  rw [← hd]
  have hdx1 : Dx (fun _ => False) w.heap.size d 0 ⟨1048576, -1, false, [], [], []⟩ w1 := ⟨⟨newS 1048576, by rw [hd]; exact hk1, anewS 1048576 (by omega) (by omega), fun j hj => hj.elim⟩, fun j hj => hj.elim⟩
  have HDX1 := Lib.hid hdx1
  have HB1 := Lib.hid hb1
  have HAW := Lib.hid (awake10_c w1)
  clear hk1 hb1 hdx1 HD hd
  go_wp2_with fail
  refine HAW.out.mono ?_
  rintro e2 w2 ⟨rfl, hb2⟩
  have HDX2 := Lib.hid (HDX1.out.below hb2)
  have HB2 := Lib.hid (HB1.out.trans (hb2.mono HB1.out.size))
  have HOP := Lib.hid (jopen_c HDX2.out (by omega) nmj (by decide) (by decide) (fun z hz => by cases hz))
  clear hb2 HAW HB1 HDX1
  go_wp2_with fail
  refine HOP.out.mono ?_
  rintro e3 w3 ⟨X, jb, a, n, c, hres, y1, y2, y3, y4, y5, y6, y7, y8, y9, y10⟩
  obtain ⟨-, rfl⟩ := hres.resolve_right (fun h => h.1 HINI.out.1)
  have HP0 := Lib.hid (show JlR w d 0 (.pointer (some ⟨jb, 0, none⟩)) (.slice none 0 0) (.slice none 0 0) (.int .i64 0) (.bool false) w3 from
    ⟨X, jb, _, 0, 0, 0, none, false, _, [], [], rfl, rfl, rfl, rfl, y3.mono (by omega), HINI.out.2.2.mono (by omega) (by omega), OwA.nil _ _ _ _, ⟨rfl, .inl rfl⟩, by omega, Nat.le_refl _, by have := usedA_le (A := ⟨1048576, -1, false, [], [], []⟩) (nm := nmj) (fun z hz => by cases hz); omega, HB2.out.trans y9⟩)
  clear y1 y2 y3 y4 y5 y6 y7 y8 y9 y10 hres HOP HDX2 HB2 HINI
  go_wp2_with fail
  go_loopw [5, 8, 9, 10, 11, 41] (fun jv av ov sv cv i wr => ∃ k : Nat, k ≤ len1 ∧ k ≤ 60 ∧ i = .int .i64 k ∧ Hid (JlR w d k jv av ov sv cv wr)) (fun _ _ _ _ _ i _ => len1 - (intOf i).toNat)
  case atStart => exact ⟨0, Nat.zero_le _, by omega, rfl, HP0⟩
  case round =>
    clear HP0
    obtain ⟨k, hk, hk60, rfl, HP⟩ := hrel
    by_cases hkn : k < len1
    · obtain ⟨b, off, kd, s, ra, rn, rc, L, n, q, rfl, hb, hop⟩ := HR1.out.opj hkn
      obtain ⟨X, jb, sz, sure, on, oc, oa, cut, A, all, other, rfl, rfl, rfl, rfl, hjn, hjt, how, hro, hon, hoc, hsz, hbw⟩ := HP.out
      obtain ⟨va, vn, vcap, rfl, rfl, hvc, hvm, -⟩ := how.row
      obtain ⟨zl, zz⟩ : ∃ zl, zl = on := ⟨_, rfl⟩
      obtain rfl := hro.1
      clear zz zl HP
      obtain ⟨za, zn, zc, zz⟩ := s
      have HOPJ := Lib.hid hop
      have HJT := Lib.hid hjt
      have HRO := Lib.hid hro
      have HON := Lib.hid (And.intro hon hoc)
      have HSZ := Lib.hid hsz
      have HBW := Lib.hid hbw
      have HVC := Lib.hid (And.intro hvc hvm)
      have c0 := (hbw.cell (p := ⟨b, off + k * 5, none⟩) hb).trans hop.c0
      have c1 := (hbw.cell (p := ⟨b, off + k * 5 + 1, none⟩) hb).trans hop.c1
      have c2 := (hbw.cell (p := ⟨b, off + k * 5 + 2, none⟩) hb).trans hop.c2
      have c3 := (hbw.cell (p := ⟨b, off + k * 5 + 3, none⟩) hb).trans hop.c3
      have c4 := (hbw.cell (p := ⟨b, off + k * 5 + 4, none⟩) hb).trans hop.c4
      have hix := fun W => run_opj_idx W b off len1 cap1 k hkn
      simp only at c1
      obtain ⟨w5, hw5⟩ : ∃ w5, w5 = wr.alloc (.cells #[.int .i64 kd, .slice za zn zc, .slice ra rn rc, .int .i64 n, .int .i64 q] 34) := ⟨_, rfl⟩
      have hb5 : Below wr.heap.size wr w5 := by rw [hw5]; exact (Below.refl _ _).alloc (Nat.le_refl _) _
      obtain ⟨X1, hX1⟩ : ∃ X1, X1 = wr.heap.size := ⟨_, rfl⟩
      have hbx : OpK w5 X1 kd (.slice za zn zc) (.slice ra rn rc) n q := by rw [hw5, hX1]; exact heap_alloc_new wr _
      obtain ⟨y0, y1, y2, y3, y4⟩ := hbx.cells
      have hsz5 : w5.heap.size = X1 + 1 := by rw [hw5, hX1]; simp
      have HOK := Lib.hid hbx
      have HXJ := Lib.hid (show X1 ≠ jb from fun e => by have := hjn.dx.lt jb hjn.xj; omega)
      have HJN := Lib.hid (hjn.with hb5 X1 (by omega) (by omega))
      have HOW := Lib.hid ((how.below hb5).more (Y := fun j => X j ∨ j = X1) fun j hj => .inl hj)
      have HB5 := Lib.hid (show Below w.heap.size w w5 from hbw.trans (hb5.mono hbw.size))
      have HSM := Lib.hid (small_c ra rn rc L w5 (show BssIn w5 ra rn rc L from by
        obtain ⟨h1, h2, h3, h4, h5, h6⟩ := hop.s2
        exact ⟨h1, h2, h3, h4, h5.imp id fun ⟨b, o, e, hlt, hc⟩ => ⟨b, o, e, Nat.lt_of_lt_of_le hlt HB5.out.size, fun i s hs => (HB5.out.cell (p := ⟨b, o + i, none⟩) hlt).trans (hc i s hs)⟩, fun s hs => ⟨(h6 s hs).1.below HB5.out, (h6 s hs).2⟩⟩))
      clear hjn hjt how hro hon hoc hsz hbw hop hvc hvm hbx hb5 hsz5 hb
      by_cases h60 : k < 60
      · have hk6 : ¬ 60 ≤ (k : Int) := by omega
        go_upto_region 12 with fail
        rw [← hX1]
        rw [← hw5]
        clear hX1 hw5 c0 c1 c2 c3 c4 hix
        go_wp2_with fail
        refine HSM.out.mono ?_
        rintro e6 w6 ⟨r, rfl, rfl, hsm⟩
        clear HSM
        cases r with
        | true =>
          have HSL := Lib.hid (hsm rfl)
          clear hsm
          by_cases hzn : zn ≤ 2000
          · have hz3 : ¬ 2000 < (zn : Int) := by omega
            go_upto_block 2 with fail
            by_cases h0 : kd = 0
            · as_aux_lemma =>
                subst h0
                have hap := jappend_c HJN.out (by omega) (by decide) (by have := HSZ.out; omega) za zn zc zz (HOPJ.out.s1.1.below HB5.out) HOPJ.out.s1.2.1 (by omega)
                have hzl : zz.length = zn := HOPJ.out.s1.1.1
                have hja := HJT.out.append zz (by omega) (by omega)
                obtain ⟨r, hr⟩ : ∃ r, Ad.step A ⟨1, nmj, ⟨#[]⟩, Frm.frameL zz⟩ = r := ⟨_, rfl⟩
                rw [hr] at hap hja
                obtain ⟨A', x⟩ := r
                have HAP := Lib.hid hap
                have HJA := Lib.hid hja
                have HZL := Lib.hid hzl
                clear hap hja hr hzl
                go_wp2_with fail
                refine HAP.out.mono ?_
                rintro e6 w6 ⟨rfl, hj6, hb6, hk6⟩
                have HOW6 := Lib.hid (HOW.out.stay hb6.size fun j hj ho => ho.elim (fun e => hb6.block j e) fun e => hk6 j e.1 e.2)
                have HOK6 := Lib.hid (HOK.out.at (hk6 X1 (.inr rfl) HXJ.out))
                have HB6 := Lib.hid (HB5.out.trans hb6)
                clear hb6 hk6 HAP y0 y1 y2 y3 y4
                rcases HJA.out with ⟨hx, hjt6⟩ | ⟨hx, hjt6⟩
                · (try simp only at hx)
                  subst hx
                  have HJ6 := Lib.hid (show Jn (fun j => X j ∨ j = X1) w.heap.size d jb nmj ((sz + (8 + zn) : Nat) : Int) (60 * k + 60 + 3) A' w6 from hj6)
                  have HJT6 := Lib.hid hjt6
                  obtain ⟨y0, y1, y2, y3, y4⟩ := HOK6.out.cells
                  have HTW := Lib.hid ((twin_c za zn zc zz w6 (HOPJ.out.s1.1.below HB6.out) (by omega)).mono (RetB.form HOPJ.out.s1.1.2.1))
                  obtain ⟨vs, hvs⟩ := HOW6.out
                  have HVS := Lib.hid (show OwB (fun j => X j ∨ j = X1) w.heap.size jb w6 (.slice va all.length vcap) vs all from hvs)
                  clear hj6 hjt6 hvs HJA
                  go_wp2_with fail
                  refine HTW.out.mono ?_
                  rintro e7 w7 ⟨a3, L3, c3, rfl, hl3, hlc3, hcm3, hn3, hr3, ho3, hb3⟩
                  obtain rfl := hl3
                  have HOV := Lib.hid (HVS.out.1.keep hb3)
                  have hszw : w.heap.size ≤ w7.heap.size := Nat.le_trans HB6.out.size hb3.size
                  have hvl : vs.length + 1 ≤ 1000000000 := by
                    have h1 := HVS.out.2.1
                    have h2 := flat_low all
                    have h3 := HJT.out.lu
                    omega
                  have HAL := Lib.hid (show Below w7.heap.size w7 (w7.alloc (.cells #[.slice a3 zz.length c3] 32)) from (Below.refl _ _).alloc (Nat.le_refl _) _)
                  have HR3 := Lib.hid hr3
                  have HC3 := Lib.hid (And.intro hlc3 hcm3)
                  have HB3 := Lib.hid hb3
                  have HA3 := Lib.hid (own_blk ho3)
                  clear hlc3 hcm3 hn3 hr3 ho3 hb3 HTW
                  go_wp2_with (at_builtin; (refine wpList_pushVE rfl _ _ rfl w.heap.size (.slice va all.length vcap) vs (.slice a3 zz.length c3) rfl rfl HOV.out hszw rfl hvl ?_); intro vz wz hoz hgz hat; have HOZ := Lib.hid hoz; have HGZ := Lib.hid hgz; have HAT := Lib.hid hat; clear hoz hgz hat)
                  obtain ⟨Y, hY, hjY, hoY, hsY, hkY⟩ := jl_push HJ6.out HVS.out (HB3.out.trans (HAL.out.mono HB3.out.size)) (HR3.out.below HAL.out) HC3.out.1 HC3.out.2 (fun b o s e => ⟨(HA3.out b o s e).1, Nat.lt_of_lt_of_le (HA3.out b o s e).2 HAL.out.size⟩) HOZ.out HGZ.out HAT.out
                  have HPN := Lib.hid (show JlR w d (k + 1) (.pointer (some ⟨jb, 0, none⟩)) (vz) (.slice oa other.length oc) (.int .i64 (sure : Nat)) (.bool cut) wz from ⟨_, _, _, _, _, _, _, _, _, _, _, rfl, rfl, rfl, rfl, hjY.mono (by omega), HJT6.out.mono (by omega) (by omega), hoY, HRO.out, HON.out.1, HON.out.2, by have := HSZ.out; have := HZL.out; omega, ((HB6.out.trans (HB3.out.mono HB6.out.size)).trans (HAL.out.mono hszw)).grown HGZ.out (Nat.le_trans hszw HAL.out.size) fun g hg => (World.ownsRow.lt HOV.out g hg).1⟩)
                  clear hjY hoY hsY hkY hY
                  go_wp2_with fail
                  go_roundw
                  case rel => exact ⟨k + 1, by omega, by omega, by go_num, HPN⟩
                  case measure => simp [intOf]; omega
                · (try simp only at hx)
                  subst hx
                  have HJ6 := Lib.hid (show Jn (fun j => X j ∨ j = X1) w.heap.size d jb nmj ((sz : Nat) : Int) (60 * k + 60 + 3) A' w6 from hj6)
                  have HPN := Lib.hid (show JlR w d (k + 1) (.pointer (some ⟨jb, 0, none⟩)) (.slice va all.length vcap) (.slice oa other.length oc) (.int .i64 (sure : Nat)) (.bool cut) w6 from ⟨_, _, _, _, _, _, _, _, _, _, _, rfl, rfl, rfl, rfl, HJ6.out.mono (by omega), hjt6.mono (by omega) (by omega), HOW6.out, HRO.out, HON.out.1, HON.out.2, by have := HSZ.out; omega, HB6.out⟩)
                  clear hj6 hjt6 HJA
                  go_wp2_with fail
                  go_roundw
                  case rel => exact ⟨k + 1, by omega, by omega, by go_num, HPN⟩
                  case measure => simp [intOf]; omega
            · by_cases h1 : kd = 1
              · as_aux_lemma =>
                  subst h1
                  have hsy := jsync_c HJN.out
                  have hjs := HJT.out.sync
                  obtain ⟨r, hr⟩ : ∃ r, Ad.sync A = r := ⟨_, rfl⟩
                  rw [hr] at hsy hjs
                  obtain ⟨A', x⟩ := r
                  have HSY := Lib.hid hsy
                  have HJS := Lib.hid hjs
                  clear hsy hjs hr h0 y0 y1 y2 y3 y4
                  go_wp2_with fail
                  refine HSY.out.mono ?_
                  rintro e6 w6 ⟨rfl, hj6, hb6, hk6⟩
                  have HJ6 := Lib.hid hj6
                  have HOW6 := Lib.hid (HOW.out.stay hb6.size fun j hj ho => ho.elim (fun e => hb6.block j e) fun e => hk6 j e.1)
                  have HB6 := Lib.hid (HB5.out.trans hb6)
                  clear hb6 hk6 hj6 HSY
                  rcases HJS.out with ⟨hx, hjt6⟩ | ⟨hx, hjt6⟩
                  · (try simp only at hx)
                    subst hx
                    have HPN := Lib.hid (show JlR w d (k + 1) (.pointer (some ⟨jb, 0, none⟩)) (.slice va all.length vcap) (.slice oa other.length oc) (.int .i64 (all.length : Nat)) (.bool cut) w6 from ⟨_, _, _, _, _, _, _, _, _, _, _, rfl, rfl, rfl, rfl, HJ6.out.mono (by omega), hjt6.mono (by omega) (by omega), HOW6.out, HRO.out, HON.out.1, HON.out.2, by have := HSZ.out; omega, HB6.out⟩)
                    clear hjt6 HJS
                    go_wp2_with fail
                    go_roundw
                    case rel => exact ⟨k + 1, by omega, by omega, by go_num, HPN⟩
                    case measure => simp [intOf]; omega
                  · (try simp only at hx)
                    subst hx
                    have HPN := Lib.hid (show JlR w d (k + 1) (.pointer (some ⟨jb, 0, none⟩)) (.slice va all.length vcap) (.slice oa other.length oc) (.int .i64 (sure : Nat)) (.bool cut) w6 from ⟨_, _, _, _, _, _, _, _, _, _, _, rfl, rfl, rfl, rfl, HJ6.out.mono (by omega), hjt6.mono (by omega) (by omega), HOW6.out, HRO.out, HON.out.1, HON.out.2, by have := HSZ.out; omega, HB6.out⟩)
                    clear hjt6 HJS
                    go_wp2_with fail
                    go_roundw
                    case rel => exact ⟨k + 1, by omega, by omega, by go_num, HPN⟩
                    case measure => simp [intOf]; omega
              · by_cases h2 : kd = 2
                · as_aux_lemma =>
                    subst h2
                    have hlr : (recL L).length = rn := by unfold recL; rw [List.length_map]; exact HOPJ.out.s2.1
                    have hfl : (Frm.flatF (recL L)).length ≤ 5000 := by
                      have h1 := flat_bound (recL L) (recL_len HOPJ.out.s2 HSL.out.2)
                      have h2 := HSL.out.1
                      rw [hlr] at h1
                      omega
                    have hrw := jRewrite_c HJN.out (by omega) (by decide) ra rn rc (recL L) ((HOPJ.out.s2.rcd (fun j => X j ∨ j = X1)).below HB5.out) (by have := HSL.out.1; omega) (by omega) (recL_byte HOPJ.out.s2)
                    have hjr := HJT.out.rewrite (recL L) (fun p hp => by have := recL_len HOPJ.out.s2 HSL.out.2 p hp; omega) hfl (by omega)
                    rw [hlr] at hjr
                    obtain ⟨r, hr⟩ : ∃ r, Ad.rw A nmj (spJ nmj) (Frm.flatF (recL L)) = r := ⟨_, rfl⟩
                    rw [hr] at hrw hjr
                    obtain ⟨A', x⟩ := r
                    have HRW := Lib.hid hrw
                    have HJR := Lib.hid hjr
                    have HLR := Lib.hid hlr
                    have HFL := Lib.hid hfl
                    obtain ⟨SS, k1, k2, -⟩ := HJN.out.dx.ex
                    have hdn := ddown_c k1
                    rw [k2.down] at hdn
                    have HDN := Lib.hid hdn
                    clear hrw hjr hr hlr hfl hdn k1 k2 h0 h1
                    go_wp2_with fail
                    refine HDN.out.mono ?_
                    rintro e6 w6 ⟨rfl, rfl⟩
                    clear HDN
                    go_wp2_with fail
                    refine HRW.out.mono ?_
                    rintro e6 w6 ⟨rfl, hj6, hb6, hk6⟩
                    have HOW6 := Lib.hid (HOW.out.stay hb6.size fun j hj ho => ho.elim (fun e => hb6.block j e) fun e => hk6 j e.1 e.2)
                    have HOK6 := Lib.hid (HOK.out.at (hk6 X1 (.inr rfl) HXJ.out))
                    have HX6 := Lib.hid HOK6.out.lt
                    have HB6 := Lib.hid (HB5.out.trans hb6)
                    clear hb6 hk6 HRW y0 y1 y2 y3 y4
                    rcases HJR.out with ⟨hx, hjt6⟩ | ⟨hx, hjt6⟩
                    · (try simp only at hx)
                      subst hx
                      have HJ6 := Lib.hid (show Jn (fun j => X j ∨ j = X1) w.heap.size d jb nmj (((Frm.flatF (recL L)).length : Nat) : Int) (60 * k + 60 + 24) A' w6 from hj6)
                      have HJT6 := Lib.hid hjt6
                      clear hj6 hjt6 HJR
                      go_upto_region 30 with fail
                      obtain ⟨W0, hW0⟩ : ∃ W0, W0 = World.drew w6 := ⟨_, rfl⟩
                      have hb90 : Below w6.heap.size w6 W0 := by rw [hW0]; exact below_drewN' _ w6 1
                      have HB0 := Lib.hid (HB6.out.trans (hb90.mono HB6.out.size))
                      have HJ0 := Lib.hid (HJ6.out.below hb90)
                      have HOW0 := Lib.hid (HOW6.out.below hb90)
                      have HX0 := Lib.hid (Nat.lt_of_lt_of_le HX6.out hb90.size)
                      have HS := Lib.hid (show HasC [(⟨X1, 2, none⟩, .slice ra rn rc)] W0 from by
                        obtain ⟨g0, g1, g2, g3, g4⟩ := (HOK6.out.below hb90).cells
                        intro p hp
                        simp only [List.mem_cons, List.not_mem_nil, or_false] at hp
                        subst hp
                        exact g2)
                      have HLB := Lib.hid (fun W (hW : HasC [(⟨X1, 2, none⟩, .slice ra rn rc)] W) => run_cell_bssJ W ⟨X1, 2, none⟩ ra rn rc (hW (⟨X1, 2, none⟩, .slice ra rn rc) (by simp)))
                      clear hb90
                      refine anyH_begin (S := HasC [(⟨X1, 2, none⟩, .slice ra rn rc)]) (by kernel_rfl) ?_
                      rw [← hW0]
                      clear hW0
                      refine anyH_pureG 1 (d := 99) (op := .fieldAddr 34 (.tmp 13) 2) (gd := none) (.pointer (some ⟨X1, 2, none⟩)) (by rfl) (fun o ho => wanted_plain ho _) (by kernel_rfl) (by kernel_rfl) (by kernel_rfl) (fun _ _ _ h => h) (fun o ho W hW => by unfold execOp; simp only [ho]; go_simp) HS.out ?_
                      simp only [Act.put, List.setIfInBounds_toArray, List.set_cons_zero, List.set_cons_succ]
                      refine anyH_loadG 2 (d := 100) (ty := 29) (x := (.tmp 99)) (gd := none) (p := .pointer (some ⟨X1, 2, none⟩)) (.slice ra rn rc) (by rfl) (fun o ho => wanted_plain ho _) (by kernel_rfl) (by kernel_rfl) (by kernel_rfl) (fun _ _ _ h => h) (by rfl) HLB.out HS.out ?_
                      simp only [Act.put, List.setIfInBounds_toArray, List.set_cons_zero, List.set_cons_succ]
                      refine anyH_pureG 4 (d := 102) (op := .fieldAddr 34 (.tmp 13) 2) (gd := none) (.pointer (some ⟨X1, 2, none⟩)) (by rfl) (fun o ho => wanted_plain ho _) (by kernel_rfl) (by kernel_rfl) (by kernel_rfl) (fun _ _ _ h => h) (fun o ho W hW => by unfold execOp; simp only [ho]; go_simp) HS.out ?_
                      simp only [Act.put, List.setIfInBounds_toArray, List.set_cons_zero, List.set_cons_succ]
                      refine anyH_loadG 5 (d := 103) (ty := 29) (x := (.tmp 102)) (gd := none) (p := .pointer (some ⟨X1, 2, none⟩)) (.slice ra rn rc) (by rfl) (fun o ho => wanted_plain ho _) (by kernel_rfl) (by kernel_rfl) (by kernel_rfl) (fun _ _ _ h => h) (by rfl) HLB.out HS.out ?_
                      simp only [Act.put, List.setIfInBounds_toArray, List.set_cons_zero, List.set_cons_succ]
                      refine anyH_pureG 6 (d := 104) (op := .call { callee := .builtin .len, args := #[(.tmp 103)], argTypes := #[29] }) (gd := none) (.int .i64 (rn : Nat)) (by rfl) (fun o ho => wanted_plain ho _) (by kernel_rfl) (by kernel_rfl) (by kernel_rfl) (fun _ _ _ h => h) (fun o ho W hW => by unfold execOp; simp only [ho]; go_simp) HS.out ?_
                      simp only [Act.put, List.setIfInBounds_toArray, List.set_cons_zero, List.set_cons_succ]
                      have hal : Below W0.heap.size W0 (W0.alloc (.cells #[] 32)) := (Below.refl _ _).alloc (Nat.le_refl _) _
                      have HS1 := Lib.hid (show HasC [(⟨X1, 2, none⟩, .slice ra rn rc)] (W0.alloc (.cells #[] 32)) from HS.out.below hal (by simp [HX0.out]))
                      clear hal
                      refine anyH_runG 0 (d := some 98) (op := .buildSlice 29 0 #[]) (v := .slice (some ⟨W0.heap.size, 0, none⟩) 0 0) (w' := W0.alloc (.cells #[] 32)) (by kernel_rfl) (by rfl) (fun o ho => by unfold execOp; simp only [ho]; go_simp) HS1.out ?_
                      simp only [Act.put, List.setIfInBounds_toArray, List.set_cons_zero, List.set_cons_succ]
                      obtain ⟨vz, wz, hrun, hoz, hbz⟩ := run_catV w W0 ra rn rc L HOPJ.out.s2 HB0.out (by have := HSL.out.1; omega)
                      have HRUN := Lib.hid hrun
                      have HOZ := Lib.hid hoz
                      have HBZ := Lib.hid hbz
                      have HSZ2 := Lib.hid (show HasC [(⟨X1, 2, none⟩, .slice ra rn rc)] wz from HS.out.below hbz (by simp [HX0.out]))
                      clear hrun hoz hbz
                      refine anyH_runG 3 (d := some 101) (op := .call { callee := .builtin .append, args := #[(.tmp 98), (.tmp 100)], argTypes := #[29, 29] }) (v := vz) (w' := wz) (by kernel_rfl) (by rfl) (fun o ho => exec_append ho (by rfl) (by rfl) (HRUN.out o.type)) HSZ2.out ?_
                      simp only [Act.put, List.setIfInBounds_toArray, List.set_cons_zero, List.set_cons_succ]
                      refine anyH_pureG 7 (d := 8) (op := .assign (.tmp 101)) (gd := none) (vz) (by rfl) (fun o ho => wanted_plain ho _) (by kernel_rfl) (by kernel_rfl) (by kernel_rfl) (fun _ _ _ h => h) (fun o ho W hW => by unfold execOp; simp only [ho]; go_simp) HSZ2.out ?_
                      simp only [Act.put, List.setIfInBounds_toArray, List.set_cons_zero, List.set_cons_succ]
                      refine anyH_pureG 8 (d := 10) (op := .assign (.tmp 104)) (gd := none) (.int .i64 (rn : Nat)) (by rfl) (fun o ho => wanted_plain ho _) (by kernel_rfl) (by kernel_rfl) (by kernel_rfl) (fun _ _ _ h => h) (fun o ho W hW => by unfold execOp; simp only [ho]; go_simp) HSZ2.out ?_
                      simp only [Act.put, List.setIfInBounds_toArray, List.set_cons_zero, List.set_cons_succ]
                      refine wpAnyH_done (by kernel_rfl) ?_ _
                      obtain ⟨Y, hY, hjY, hoY⟩ := jl_new HJ0.out HOPJ.out.s2 HB0.out HOZ.out HBZ.out
                      have HPN := Lib.hid (show JlR w d (k + 1) (.pointer (some ⟨jb, 0, none⟩)) (vz) (.slice oa other.length oc) (.int .i64 (rn : Nat)) (.bool cut) wz from ⟨_, _, _, _, _, _, _, _, _, _, _, rfl, rfl, rfl, rfl, hjY.mono (by omega), HJT6.out.mono (by omega) (by omega), hoY, HRO.out, HON.out.1, HON.out.2, by have := HFL.out; omega, HB0.out.trans (HBZ.out.mono HB0.out.size)⟩)
                      clear hjY hoY hY HLB HS HS1 HSZ2 HRUN
                      go_wp2_with fail
                      go_roundw
                      case rel => exact ⟨k + 1, by omega, by omega, by go_num, HPN⟩
                      case measure => simp [intOf]; omega
                    · (try simp only at hx)
                      subst hx
                      have HJ6 := Lib.hid (show Jn (fun j => X j ∨ j = X1) w.heap.size d jb nmj ((sz : Nat) : Int) (60 * k + 60 + 24) A' w6 from hj6)
                      clear hj6 HJR
                      rcases hjt6 with ⟨hdd, hjt6⟩ | ⟨hdd, hjt6⟩
                      · (try simp only at hjt6)
                        rw [hdd]
                        have HPN := Lib.hid (show JlR w d (k + 1) (.pointer (some ⟨jb, 0, none⟩)) (.slice va all.length vcap) (.slice oa other.length oc) (.int .i64 (sure : Nat)) (.bool cut) w6 from ⟨_, _, _, _, _, _, _, _, _, _, _, rfl, rfl, rfl, rfl, HJ6.out.mono (by omega), hjt6.mono (by omega) (by omega), HOW6.out, HRO.out, HON.out.1, HON.out.2, by have := HSZ.out; omega, HB6.out⟩)
                        clear hjt6 hdd
                        go_wp2_with fail
                        go_roundw
                        case rel => exact ⟨k + 1, by omega, by omega, by go_num, HPN⟩
                        case measure => simp [intOf]; omega
                      · (try simp only at hjt6)
                        rw [hdd]
                        have HJT6 := Lib.hid hjt6
                        clear hjt6 hdd
                        go_upto_region 34 with fail
                        obtain ⟨W0, hW0⟩ : ∃ W0, W0 = World.drew w6 := ⟨_, rfl⟩
                        have hb90 : Below w6.heap.size w6 W0 := by rw [hW0]; exact below_drewN' _ w6 1
                        have HB0 := Lib.hid (HB6.out.trans (hb90.mono HB6.out.size))
                        have HJ0 := Lib.hid (HJ6.out.below hb90)
                        have HOW0 := Lib.hid (HOW6.out.below hb90)
                        have HX0 := Lib.hid (Nat.lt_of_lt_of_le HX6.out hb90.size)
                        have HS := Lib.hid (show HasC [(⟨X1, 2, none⟩, .slice ra rn rc)] W0 from by
                          obtain ⟨g0, g1, g2, g3, g4⟩ := (HOK6.out.below hb90).cells
                          intro p hp
                          simp only [List.mem_cons, List.not_mem_nil, or_false] at hp
                          subst hp
                          exact g2)
                        have HLB := Lib.hid (fun W (hW : HasC [(⟨X1, 2, none⟩, .slice ra rn rc)] W) => run_cell_bssJ W ⟨X1, 2, none⟩ ra rn rc (hW (⟨X1, 2, none⟩, .slice ra rn rc) (by simp)))
                        clear hb90
                        refine anyH_begin (S := HasC [(⟨X1, 2, none⟩, .slice ra rn rc)]) (by kernel_rfl) ?_
                        rw [← hW0]
                        clear hW0
                        refine anyH_pureG 0 (d := 109) (op := .fieldAddr 34 (.tmp 13) 2) (gd := none) (.pointer (some ⟨X1, 2, none⟩)) (by rfl) (fun o ho => wanted_plain ho _) (by kernel_rfl) (by kernel_rfl) (by kernel_rfl) (fun _ _ _ h => h) (fun o ho W hW => by unfold execOp; simp only [ho]; go_simp) HS.out ?_
                        simp only [Act.put, List.setIfInBounds_toArray, List.set_cons_zero, List.set_cons_succ]
                        refine anyH_loadG 1 (d := 110) (ty := 29) (x := (.tmp 109)) (gd := none) (p := .pointer (some ⟨X1, 2, none⟩)) (.slice ra rn rc) (by rfl) (fun o ho => wanted_plain ho _) (by kernel_rfl) (by kernel_rfl) (by kernel_rfl) (fun _ _ _ h => h) (by rfl) HLB.out HS.out ?_
                        simp only [Act.put, List.setIfInBounds_toArray, List.set_cons_zero, List.set_cons_succ]
                        refine anyH_pureG 2 (d := 11) (op := .assign (.const (.bool true))) (gd := none) (.bool true) (by rfl) (fun o ho => wanted_plain ho _) (by kernel_rfl) (by kernel_rfl) (by kernel_rfl) (fun _ _ _ h => h) (fun o ho W hW => by unfold execOp; simp only [ho]; go_simp) HS.out ?_
                        simp only [Act.put, List.setIfInBounds_toArray, List.set_cons_zero, List.set_cons_succ]
                        refine anyH_pureG 3 (d := 9) (op := .assign (.tmp 110)) (gd := none) (.slice ra rn rc) (by rfl) (fun o ho => wanted_plain ho _) (by kernel_rfl) (by kernel_rfl) (by kernel_rfl) (fun _ _ _ h => h) (fun o ho W hW => by unfold execOp; simp only [ho]; go_simp) HS.out ?_
                        simp only [Act.put, List.setIfInBounds_toArray, List.set_cons_zero, List.set_cons_succ]
                        refine wpAnyH_done (by kernel_rfl) ?_ _
                        have HPN := Lib.hid (show JlR w d (k + 1) (.pointer (some ⟨jb, 0, none⟩)) (.slice va all.length vcap) (.slice ra rn rc) (.int .i64 (sure : Nat)) (.bool true) W0 from ⟨_, _, _, _, _, _, _, _, _, _, _, rfl, rfl, rfl, rfl, HJ0.out.mono (by omega), HJT6.out.mono (by omega) (by omega), HOW0.out, HOPJ.out.s2.row, HSL.out.1, HOPJ.out.s2.2.2.1, by have := HSZ.out; omega, HB0.out⟩)
                        clear HLB HS
                        go_wp2_with fail
                        go_roundw
                        case rel => exact ⟨k + 1, by omega, by omega, by go_num, HPN⟩
                        case measure => simp [intOf]; omega
                · by_cases h4 : kd = 4
                  · as_aux_lemma =>
                      subst h4
                      have HFU := Lib.hid (HJN.out.dx.fuse n HOPJ.out.s4)
                      have HJF := Lib.hid (HJT.out.fused n)
                      clear h0 h1 h2
                      go_wp2_with fail
                      refine HFU.out.mono ?_
                      rintro e6 w6 ⟨rfl, hx6, hb6, hk6⟩
                      have HJ6 := Lib.hid (HJN.out.kp (Y := (fun j => X j ∨ j = X1)) hx6 hk6)
                      have HOW6 := Lib.hid (HOW.out.stay hb6.size fun j hj ho => ho.elim (fun e => hb6.block j e) fun e => hk6 j e.1)
                      have HB6 := Lib.hid (HB5.out.trans hb6)
                      clear hx6 hb6 hk6 HFU y0 y1 y2 y3 y4
                      have HPN := Lib.hid (show JlR w d (k + 1) (.pointer (some ⟨jb, 0, none⟩)) (.slice va all.length vcap) (.slice oa other.length oc) (.int .i64 (sure : Nat)) (.bool cut) w6 from ⟨_, _, _, _, _, _, _, _, _, _, _, rfl, rfl, rfl, rfl, HJ6.out.mono (by omega), HJF.out.mono (by omega) (by omega), HOW6.out, HRO.out, HON.out.1, HON.out.2, by have := HSZ.out; omega, HB6.out⟩)
                      go_wp2_with fail
                      go_roundw
                      case rel => exact ⟨k + 1, by omega, by omega, by go_num, HPN⟩
                      case measure => simp [intOf]; omega
                  · by_cases h5 : kd = 5
                    · as_aux_lemma =>
                        subst h5
                        have HC1 := Lib.hid (HJN.out.dx.crash n q (by omega))
                        clear h0 h1 h2 h4
                        go_wp2_with fail
                        refine HC1.out.mono ?_
                        rintro e8 w8 ⟨rfl, hx8, hb8, hk8⟩
                        have HX8 := Lib.hid hx8
                        have HOW8 := Lib.hid (HOW.out.stay hb8.size fun j hj ho => ho.elim (fun e => hb8.block j e) fun e => hk8 j e.1)
                        have HOK8 := Lib.hid (HOK.out.at (hk8 X1 (.inr rfl)))
                        have HB8 := Lib.hid (HB5.out.trans hb8)
                        have HJC8 := Lib.hid (HJT.out.c.crash n q)
                        clear hx8 hb8 hk8 HC1 y0 y1 y2 y3 y4
                        obtain ⟨y0, y1, y2, y3, y4⟩ := HOK8.out.cells
                        have hq8 : wrap64 ((IntKind.u64.wrap q).tmod 8) ≤ 9223372036854775807 := by unfold wrap64; omega
                        cases hq2 : (q.tmod 3 == 1) with
                        | true =>
                          have HFU := Lib.hid (HX8.out.fuse (wrap64 ((IntKind.u64.wrap q).tmod 8)) hq8)
                          have HJC9 := Lib.hid (HJC8.out.fused (wrap64 ((IntKind.u64.wrap q).tmod 8)))
                          clear hq8
                          go_wp2_with fail
                          refine HFU.out.mono ?_
                          rintro e9 w9 ⟨rfl, hx9, hb9, hk9⟩
                          have HX9 := Lib.hid hx9
                          have HOW9 := Lib.hid (HOW8.out.stay hb9.size fun j hj ho => ho.elim (fun e => hb9.block j e) fun e => hk9 j e.1)
                          have HOK9 := Lib.hid (HOK8.out.at (hk9 X1 (.inr rfl)))
                          have HB9 := Lib.hid (HB8.out.trans hb9)
                          have HN9 := Lib.hid (jopen_c HX9.out (by omega) nmj (by decide) (by decide) HJC9.out.small)
                          have HJC10 := Lib.hid HJC9.out.ld.1
                          clear hx9 hb9 hk9 HFU y0 y1 y2 y3 y4
                          obtain ⟨B9, hB9⟩ : ∃ B9, ((A.crash n q).fused (wrap64 ((IntKind.u64.wrap q).tmod 8))).1 = B9 := ⟨_, rfl⟩
                          rw [hB9] at HN9 HJC10
                          obtain ⟨us9, hus9⟩ : ∃ us, usedA B9 nmj = us := ⟨_, rfl⟩
                          obtain ⟨rs9, hrs9⟩ : ∃ rs, recsA B9 nmj = rs := ⟨_, rfl⟩
                          obtain ⟨rr9, hrr9⟩ : ∃ rr, Ad.load B9 nmj = rr := ⟨_, rfl⟩
                          rw [hus9, hrs9, hrr9] at HN9
                          rw [hrr9] at HJC10
                          clear hB9 hus9 hrs9 hrr9
                          go_wp2_with fail
                          refine HN9.out.mono ?_
                          rintro e10 w10 ⟨Y1, jb1, a1', n1, c1', hres, g1, g2, g3, g4, g5, g6, g7, g8, g9, g10⟩
                          have HX10 := Lib.hid g3.dx
                          have HOW10 := Lib.hid ((HOW9.out.stay g9.size fun j hj ho => ho.elim (fun e => g9.block j e) fun e => g10 j e.1).more g1)
                          have HOK10 := Lib.hid (HOK9.out.at (g10 X1 (.inr rfl)))
                          have HB10 := Lib.hid (HB9.out.trans g9)
                          have HY10 := Lib.hid (g1 X1 (.inr rfl))
                          obtain ⟨y0, y1, y2, y3, y4⟩ := HOK10.out.cells
                          obtain ⟨B10, x10⟩ := rr9
                          have HCC := Lib.hid (fun (kk pp : Int) => HX10.out.crash kk pp (by omega))
                          have hresv : ∃ v0 v1 v2, e10 = .returned (.tuple #[v0, v1, v2]) := by
                            rcases hres with ⟨_, h⟩ | ⟨_, h⟩
                            · exact ⟨_, _, _, h⟩
                            · exact ⟨_, _, _, h⟩
                          obtain ⟨v0, v1, v2, rfl⟩ := hresv
                          clear g1 g2 g3 g4 g5 g6 g7 g8 g9 g10 hres HN9
                          go_wp2_with fail
                          refine (HCC.out _ _).mono ?_
                          rintro e11 w11 ⟨rfl, hx11, hb11, hk11⟩
                          have HXc := Lib.hid hx11
                          have HOWc := Lib.hid (HOW10.out.stay hb11.size fun j hj ho => ho.elim (fun e => hb11.block j e) fun e => hk11 j e.1)
                          have HBc := Lib.hid (HB10.out.trans hb11)
                          have HJC := HJC10
                          clear hx11 hb11 hk11 HCC y0 y1 y2 y3 y4
                          have hopd := HJC.out.opened (wrap64 (n.tdiv 2)) (wrap64 (q.tdiv 2))
                          have hsml := (HJC.out.crash (wrap64 (n.tdiv 2)) (wrap64 (q.tdiv 2))).small
                          have hus := usedA_le hsml
                          have hopn := jopen_c HXc.out (by omega) nmj (by decide) (by decide) hsml
                          obtain ⟨us, hus2⟩ : ∃ us, usedA (Ad.crash (B10) ((wrap64 (n.tdiv 2))) ((wrap64 (q.tdiv 2)))) nmj = us := ⟨_, rfl⟩
                          obtain ⟨rs, hrs⟩ : ∃ rs, recsA (Ad.crash (B10) ((wrap64 (n.tdiv 2))) ((wrap64 (q.tdiv 2)))) nmj = rs := ⟨_, rfl⟩
                          obtain ⟨rr, hrr⟩ : ∃ rr, Ad.load (Ad.crash (B10) ((wrap64 (n.tdiv 2))) ((wrap64 (q.tdiv 2)))) nmj = rr := ⟨_, rfl⟩
                          rw [hus2] at hus hopn
                          rw [hrs] at hopd hopn
                          rw [hrr] at hopd hopn
                          obtain ⟨ho1, ho2, ho3⟩ := hopd
                          have HOPN := Lib.hid hopn
                          have HUS := Lib.hid hus
                          have HJTN := Lib.hid ho2
                          clear hopn hus ho2 hsml hus2 hrs hrr
                          go_wp2_with fail
                          refine HOPN.out.mono ?_
                          rintro e12 w12 ⟨Y2, jb2, a2, n2, c2, hres, g1, g2, g3, g4, g5, g6, g7, g8, g9, g10⟩
                          obtain ⟨-, rfl⟩ := hres.resolve_right (fun h => h.1 ho1)
                          obtain rfl := g4.ln
                          obtain ⟨-, -, -, hrr⟩ := g5.rows
                          have HO12 := Lib.hid g5
                          have HJ12 := Lib.hid g3
                          have HRR := Lib.hid hrr
                          have HC2 := Lib.hid g6
                          have HA12 := Lib.hid (HOWc.out.stay g9.size fun j hj ho => ho.elim (fun e => g9.block j e) fun e => g10 j e.1).rows.2.2.2
                          have HB12 := Lib.hid (HBc.out.trans g9)
                          have HNA := Lib.hid (show all.length ≤ 100000 from by have h1 := flat_low all; have h2 := HJT.out.lu; omega)
                          have HNR := Lib.hid (show rs.length ≤ 100000 from by have h1 := flat_low rs; have h2 := HJTN.out.lu; omega)
                          have hsu : sure ≤ all.length := HJT.out.c.le
                          have kH := fun W => run_vheadAt W va all.length vcap sure (by have := HVC.out.1; omega)
                          clear g1 g2 g3 g4 g5 g6 g7 g8 g9 g10 hres hrr HOPN HOWc HBc HXc
                          rcases ho3 with ⟨m, m1, m2, hm⟩ | ⟨hc, hm⟩
                          · have hsp : ∃ more, rs = all.take sure ++ more := ⟨rs.drop sure, by
                              rw [hm]
                              rw [show all.take sure = (all.take m).take sure from by rw [List.take_take, Nat.min_eq_left m1], List.take_append_drop]⟩
                            have hsq : ∃ more, all = rs ++ more := ⟨all.drop m, by rw [hm, List.take_append_drop]⟩
                            have HB1 := Lib.hid (begins_c va a2 sure vcap rs.length c2 (all.take sure) rs w12 (HA12.out.take sure hsu) HRR.out HC2.out (by have := HNR.out; omega) hsp)
                            have HB2 := Lib.hid (fun q => begins_c a2 va rs.length c2 all.length vcap rs all (w12.drewN q) (HRR.out.drewN q) (HA12.out.drewN q) HVC.out.1 (by have := HNA.out; omega) hsq)
                            clear hsp hsq hm
                            go_wp2_with fail
                            refine HB1.out.mono ?_
                            rintro e13 w13 ⟨rfl, q1, rfl⟩
                            go_wp2_with fail
                            refine (HB2.out q1).mono ?_
                            rintro e14 w14 ⟨rfl, q2, rfl⟩
                            clear kH HB1 HB2
                            have hbd : Below w12.heap.size w12 (w12.drewN (q1 + q2)) := below_drewN' _ w12 _
                            have HPN := Lib.hid (show JlR w d (k + 1) (.pointer (some ⟨jb2, 0, none⟩)) (.slice a2 rs.length c2) (.slice oa other.length oc) (.int .i64 (rs.length : Nat)) (.bool false) (w12.drewN (q1 + q2)) from ⟨_, _, _, _, _, _, _, _, _, _, _, rfl, rfl, rfl, rfl, (HJ12.out.below hbd).mono (by omega), HJTN.out.mono (by omega) (by omega), (HO12.out.below hbd), HRO.out, HON.out.1, HON.out.2, by have := HUS.out; omega, HB12.out.trans (hbd.mono HB12.out.size)⟩)
                            clear hbd
                            go_wp2_with fail
                            go_roundw
                            case rel => exact ⟨k + 1, by omega, by omega, by go_num, HPN⟩
                            case measure => simp [intOf]; omega
                          · subst hc
                            subst hm
                            have HB1 := Lib.hid (beginsB_c va a2 sure vcap rs.length c2 (all.take sure) rs w12 (HA12.out.take sure hsu) HRR.out HC2.out (by have := HNA.out; omega) (by have := HNR.out; omega))
                            have HB2 := Lib.hid (fun q => beginsB_c a2 va rs.length c2 all.length vcap rs all (w12.drewN q) (HRR.out.drewN q) (HA12.out.drewN q) HVC.out.1 (by have := HNR.out; omega) (by have := HNA.out; omega))
                            go_wp2_with fail
                            refine HB1.out.mono ?_
                            rintro e13 w13 ⟨b1, rfl, q1, rfl⟩
                            clear kH HB1
                            cases b1 with
                            | true =>
                              go_wp2_with fail
                              refine (HB2.out q1).mono ?_
                              rintro e14 w14 ⟨b2, rfl, q2, rfl⟩
                              clear HB2
                              have hbd : Below w12.heap.size w12 (w12.drewN (q1 + q2)) := below_drewN' _ w12 _
                              cases b2 with
                              | true =>
                                have HPN := Lib.hid (show JlR w d (k + 1) (.pointer (some ⟨jb2, 0, none⟩)) (.slice a2 rs.length c2) (.slice oa rs.length oc) (.int .i64 (rs.length : Nat)) (.bool false) (w12.drewN (q1 + q2)) from ⟨_, _, _, _, _, _, _, _, _, _, _, rfl, rfl, rfl, rfl, (HJ12.out.below hbd).mono (by omega), HJTN.out.mono (by omega) (by omega), (HO12.out.below hbd), HRO.out, HON.out.1, HON.out.2, by have := HUS.out; omega, HB12.out.trans (hbd.mono HB12.out.size)⟩)
                                clear hbd
                                go_wp2_with fail
                                go_roundw
                                case rel => exact ⟨k + 1, by omega, by omega, by go_num, HPN⟩
                                case measure => simp [intOf]; omega
                              | false =>
                                have HSA := Lib.hid (vsame_c a2 oa rs.length c2 oc rs (w12.drewN (q1 + q2)) (HRR.out.below hbd) ((HRO.out.below HB12.out).below hbd) (by have := HON.out.1; omega))
                                have HBD := Lib.hid hbd
                                clear hbd
                                go_wp2_with fail
                                refine HSA.out.mono ?_
                                rintro e15 w15 ⟨rfl, q3, rfl⟩
                                clear HSA
                                clear HBD
                                have hbd : Below w12.heap.size w12 (w12.drewN (q1 + q2 + q3)) := below_drewN' _ w12 _
                                have HPN := Lib.hid (show JlR w d (k + 1) (.pointer (some ⟨jb2, 0, none⟩)) (.slice a2 rs.length c2) (.slice oa rs.length oc) (.int .i64 (rs.length : Nat)) (.bool false) (w12.drewN (q1 + q2 + q3)) from ⟨_, _, _, _, _, _, _, _, _, _, _, rfl, rfl, rfl, rfl, (HJ12.out.below hbd).mono (by omega), HJTN.out.mono (by omega) (by omega), (HO12.out.below hbd), HRO.out, HON.out.1, HON.out.2, by have := HUS.out; omega, HB12.out.trans (hbd.mono HB12.out.size)⟩)
                                clear hbd
                                go_wp2_with fail
                                go_roundw
                                case rel => exact ⟨k + 1, by omega, by omega, by go_num, HPN⟩
                                case measure => simp [intOf]; omega
                            | false =>
                              clear HB2
                              have hbd : Below w12.heap.size w12 (w12.drewN q1) := below_drewN' _ w12 q1
                              have HSA := Lib.hid (vsame_c a2 oa rs.length c2 oc rs (w12.drewN q1) (HRR.out.below hbd) ((HRO.out.below HB12.out).below hbd) (by have := HON.out.1; omega))
                              have HBD := Lib.hid hbd
                              clear hbd
                              go_wp2_with fail
                              refine HSA.out.mono ?_
                              rintro e15 w15 ⟨rfl, q3, rfl⟩
                              clear HSA
                              clear HBD
                              have hbd : Below w12.heap.size w12 (w12.drewN (q1 + q3)) := below_drewN' _ w12 _
                              have HPN := Lib.hid (show JlR w d (k + 1) (.pointer (some ⟨jb2, 0, none⟩)) (.slice a2 rs.length c2) (.slice oa rs.length oc) (.int .i64 (rs.length : Nat)) (.bool false) (w12.drewN (q1 + q3)) from ⟨_, _, _, _, _, _, _, _, _, _, _, rfl, rfl, rfl, rfl, (HJ12.out.below hbd).mono (by omega), HJTN.out.mono (by omega) (by omega), (HO12.out.below hbd), HRO.out, HON.out.1, HON.out.2, by have := HUS.out; omega, HB12.out.trans (hbd.mono HB12.out.size)⟩)
                              clear hbd
                              go_wp2_with fail
                              go_roundw
                              case rel => exact ⟨k + 1, by omega, by omega, by go_num, HPN⟩
                              case measure => simp [intOf]; omega
                        | false =>
                          have HXc := HX8
                          have HOWc := HOW8
                          have HBc := HB8
                          have HJC := Lib.hid HJT.out.c
                          clear hq8 HX8 HOW8 HB8
                          have hopd := HJC.out.opened n q
                          have hsml := (HJC.out.crash n q).small
                          have hus := usedA_le hsml
                          have hopn := jopen_c HXc.out (by omega) nmj (by decide) (by decide) hsml
                          obtain ⟨us, hus2⟩ : ∃ us, usedA (Ad.crash (A) (n) (q)) nmj = us := ⟨_, rfl⟩
                          obtain ⟨rs, hrs⟩ : ∃ rs, recsA (Ad.crash (A) (n) (q)) nmj = rs := ⟨_, rfl⟩
                          obtain ⟨rr, hrr⟩ : ∃ rr, Ad.load (Ad.crash (A) (n) (q)) nmj = rr := ⟨_, rfl⟩
                          rw [hus2] at hus hopn
                          rw [hrs] at hopd hopn
                          rw [hrr] at hopd hopn
                          obtain ⟨ho1, ho2, ho3⟩ := hopd
                          have HOPN := Lib.hid hopn
                          have HUS := Lib.hid hus
                          have HJTN := Lib.hid ho2
                          clear hopn hus ho2 hsml hus2 hrs hrr
                          go_wp2_with fail
                          refine HOPN.out.mono ?_
                          rintro e12 w12 ⟨Y2, jb2, a2, n2, c2, hres, g1, g2, g3, g4, g5, g6, g7, g8, g9, g10⟩
                          obtain ⟨-, rfl⟩ := hres.resolve_right (fun h => h.1 ho1)
                          obtain rfl := g4.ln
                          obtain ⟨-, -, -, hrr⟩ := g5.rows
                          have HO12 := Lib.hid g5
                          have HJ12 := Lib.hid g3
                          have HRR := Lib.hid hrr
                          have HC2 := Lib.hid g6
                          have HA12 := Lib.hid (HOWc.out.stay g9.size fun j hj ho => ho.elim (fun e => g9.block j e) fun e => g10 j e.1).rows.2.2.2
                          have HB12 := Lib.hid (HBc.out.trans g9)
                          have HNA := Lib.hid (show all.length ≤ 100000 from by have h1 := flat_low all; have h2 := HJT.out.lu; omega)
                          have HNR := Lib.hid (show rs.length ≤ 100000 from by have h1 := flat_low rs; have h2 := HJTN.out.lu; omega)
                          have hsu : sure ≤ all.length := HJT.out.c.le
                          have kH := fun W => run_vheadAt W va all.length vcap sure (by have := HVC.out.1; omega)
                          clear g1 g2 g3 g4 g5 g6 g7 g8 g9 g10 hres hrr HOPN HOWc HBc HXc
                          rcases ho3 with ⟨m, m1, m2, hm⟩ | ⟨hc, hm⟩
                          · have hsp : ∃ more, rs = all.take sure ++ more := ⟨rs.drop sure, by
                              rw [hm]
                              rw [show all.take sure = (all.take m).take sure from by rw [List.take_take, Nat.min_eq_left m1], List.take_append_drop]⟩
                            have hsq : ∃ more, all = rs ++ more := ⟨all.drop m, by rw [hm, List.take_append_drop]⟩
                            have HB1 := Lib.hid (begins_c va a2 sure vcap rs.length c2 (all.take sure) rs w12 (HA12.out.take sure hsu) HRR.out HC2.out (by have := HNR.out; omega) hsp)
                            have HB2 := Lib.hid (fun q => begins_c a2 va rs.length c2 all.length vcap rs all (w12.drewN q) (HRR.out.drewN q) (HA12.out.drewN q) HVC.out.1 (by have := HNA.out; omega) hsq)
                            clear hsp hsq hm
                            go_wp2_with fail
                            refine HB1.out.mono ?_
                            rintro e13 w13 ⟨rfl, q1, rfl⟩
                            go_wp2_with fail
                            refine (HB2.out q1).mono ?_
                            rintro e14 w14 ⟨rfl, q2, rfl⟩
                            clear kH HB1 HB2
                            have hbd : Below w12.heap.size w12 (w12.drewN (q1 + q2)) := below_drewN' _ w12 _
                            have HPN := Lib.hid (show JlR w d (k + 1) (.pointer (some ⟨jb2, 0, none⟩)) (.slice a2 rs.length c2) (.slice oa other.length oc) (.int .i64 (rs.length : Nat)) (.bool false) (w12.drewN (q1 + q2)) from ⟨_, _, _, _, _, _, _, _, _, _, _, rfl, rfl, rfl, rfl, (HJ12.out.below hbd).mono (by omega), HJTN.out.mono (by omega) (by omega), (HO12.out.below hbd), HRO.out, HON.out.1, HON.out.2, by have := HUS.out; omega, HB12.out.trans (hbd.mono HB12.out.size)⟩)
                            clear hbd
                            go_wp2_with fail
                            go_roundw
                            case rel => exact ⟨k + 1, by omega, by omega, by go_num, HPN⟩
                            case measure => simp [intOf]; omega
                          · subst hc
                            subst hm
                            have HB1 := Lib.hid (beginsB_c va a2 sure vcap rs.length c2 (all.take sure) rs w12 (HA12.out.take sure hsu) HRR.out HC2.out (by have := HNA.out; omega) (by have := HNR.out; omega))
                            have HB2 := Lib.hid (fun q => beginsB_c a2 va rs.length c2 all.length vcap rs all (w12.drewN q) (HRR.out.drewN q) (HA12.out.drewN q) HVC.out.1 (by have := HNR.out; omega) (by have := HNA.out; omega))
                            go_wp2_with fail
                            refine HB1.out.mono ?_
                            rintro e13 w13 ⟨b1, rfl, q1, rfl⟩
                            clear kH HB1
                            cases b1 with
                            | true =>
                              go_wp2_with fail
                              refine (HB2.out q1).mono ?_
                              rintro e14 w14 ⟨b2, rfl, q2, rfl⟩
                              clear HB2
                              have hbd : Below w12.heap.size w12 (w12.drewN (q1 + q2)) := below_drewN' _ w12 _
                              cases b2 with
                              | true =>
                                have HPN := Lib.hid (show JlR w d (k + 1) (.pointer (some ⟨jb2, 0, none⟩)) (.slice a2 rs.length c2) (.slice oa rs.length oc) (.int .i64 (rs.length : Nat)) (.bool false) (w12.drewN (q1 + q2)) from ⟨_, _, _, _, _, _, _, _, _, _, _, rfl, rfl, rfl, rfl, (HJ12.out.below hbd).mono (by omega), HJTN.out.mono (by omega) (by omega), (HO12.out.below hbd), HRO.out, HON.out.1, HON.out.2, by have := HUS.out; omega, HB12.out.trans (hbd.mono HB12.out.size)⟩)
                                clear hbd
                                go_wp2_with fail
                                go_roundw
                                case rel => exact ⟨k + 1, by omega, by omega, by go_num, HPN⟩
                                case measure => simp [intOf]; omega
                              | false =>
                                have HSA := Lib.hid (vsame_c a2 oa rs.length c2 oc rs (w12.drewN (q1 + q2)) (HRR.out.below hbd) ((HRO.out.below HB12.out).below hbd) (by have := HON.out.1; omega))
                                have HBD := Lib.hid hbd
                                clear hbd
                                go_wp2_with fail
                                refine HSA.out.mono ?_
                                rintro e15 w15 ⟨rfl, q3, rfl⟩
                                clear HSA
                                clear HBD
                                have hbd : Below w12.heap.size w12 (w12.drewN (q1 + q2 + q3)) := below_drewN' _ w12 _
                                have HPN := Lib.hid (show JlR w d (k + 1) (.pointer (some ⟨jb2, 0, none⟩)) (.slice a2 rs.length c2) (.slice oa rs.length oc) (.int .i64 (rs.length : Nat)) (.bool false) (w12.drewN (q1 + q2 + q3)) from ⟨_, _, _, _, _, _, _, _, _, _, _, rfl, rfl, rfl, rfl, (HJ12.out.below hbd).mono (by omega), HJTN.out.mono (by omega) (by omega), (HO12.out.below hbd), HRO.out, HON.out.1, HON.out.2, by have := HUS.out; omega, HB12.out.trans (hbd.mono HB12.out.size)⟩)
                                clear hbd
                                go_wp2_with fail
                                go_roundw
                                case rel => exact ⟨k + 1, by omega, by omega, by go_num, HPN⟩
                                case measure => simp [intOf]; omega
                            | false =>
                              clear HB2
                              have hbd : Below w12.heap.size w12 (w12.drewN q1) := below_drewN' _ w12 q1
                              have HSA := Lib.hid (vsame_c a2 oa rs.length c2 oc rs (w12.drewN q1) (HRR.out.below hbd) ((HRO.out.below HB12.out).below hbd) (by have := HON.out.1; omega))
                              have HBD := Lib.hid hbd
                              clear hbd
                              go_wp2_with fail
                              refine HSA.out.mono ?_
                              rintro e15 w15 ⟨rfl, q3, rfl⟩
                              clear HSA
                              clear HBD
                              have hbd : Below w12.heap.size w12 (w12.drewN (q1 + q3)) := below_drewN' _ w12 _
                              have HPN := Lib.hid (show JlR w d (k + 1) (.pointer (some ⟨jb2, 0, none⟩)) (.slice a2 rs.length c2) (.slice oa rs.length oc) (.int .i64 (rs.length : Nat)) (.bool false) (w12.drewN (q1 + q3)) from ⟨_, _, _, _, _, _, _, _, _, _, _, rfl, rfl, rfl, rfl, (HJ12.out.below hbd).mono (by omega), HJTN.out.mono (by omega) (by omega), (HO12.out.below hbd), HRO.out, HON.out.1, HON.out.2, by have := HUS.out; omega, HB12.out.trans (hbd.mono HB12.out.size)⟩)
                              clear hbd
                              go_wp2_with fail
                              go_roundw
                              case rel => exact ⟨k + 1, by omega, by omega, by go_num, HPN⟩
                              case measure => simp [intOf]; omega
                    · as_aux_lemma =>
                        have h0' : (kd == 0) = false := by simp [h0]
                        have h1' : (kd == 1) = false := by simp [h1]
                        have h2' : (kd == 2) = false := by simp [h2]
                        have h4' : (kd == 4) = false := by simp [h4]
                        have h5' : (kd == 5) = false := by simp [h5]
                        have HPN := Lib.hid (show JlR w d (k + 1) (.pointer (some ⟨jb, 0, none⟩)) (.slice va all.length vcap) (.slice oa other.length oc) (.int .i64 (sure : Nat)) (.bool cut) w6 from ⟨_, _, _, _, _, _, _, _, _, _, _, rfl, rfl, rfl, rfl, HJN.out.mono (by omega), HJT.out.mono (by omega) (by omega), HOW.out, HRO.out, HON.out.1, HON.out.2, by have := HSZ.out; omega, HB5.out⟩)
                        go_wp2_with fail
                        go_roundw
                        case rel => exact ⟨k + 1, by omega, by omega, by go_num, HPN⟩
                        case measure => simp [intOf]; omega
          · have hz3 : 2000 < (zn : Int) := by omega
            clear HJN HOW HOPJ HJT HSL
            go_wp2_with fail
            go_ret
            exact ⟨rfl, HB5.out⟩
        | false =>
          clear hsm HJN HOW HOPJ HJT
          go_wp2_with fail
          go_ret
          exact ⟨rfl, HB5.out⟩
      · have hk6 : 60 ≤ (k : Int) := by omega
        clear HSM HJN HOW HOPJ HJT
        go_upto_region 12 with fail
        rw [← hX1]
        rw [← hw5]
        clear hX1 hw5 c0 c1 c2 c3 c4 hix
        go_wp2_with fail
        go_ret
        exact ⟨rfl, HB5.out⟩
    · have HE := Lib.hid (show Below w.heap.size w wr from by
        obtain ⟨X, jb, sz, sure, on, oc, oa, cut, A, all, other, -, -, -, -, -, -, -, -, -, -, -, h⟩ := HP.out
        exact h)
      clear HP
      go_wp2_with fail
      go_ret
      exact ⟨rfl, HE.out⟩
end Go.Proofs.Ytmomdfmilelilaa
