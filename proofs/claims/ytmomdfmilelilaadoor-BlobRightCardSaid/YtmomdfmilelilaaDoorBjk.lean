/-
  The walk over the statement BlobRight.
-/
import Derived.Test.YtmomdfmilelilaaDoorBjq
import Derived.Test.YtmomdfmilelilaaDoorBim
import Derived.Test.YtmomdfmilelilaaDoorBja
import Derived.Deep.CutBlock
import Derived.Deep.CutRange
namespace Go.Proofs.YtmomdfmilelilaaDoor
open Go.RowKit
set_option linter.unusedVariables false
set_option maxRecDepth 100000 in
set_option maxHeartbeats 16000000 in
theorem bright_c (room : Int) (a1 : Option Addr) (len1 cap1 : Nat) (z1 : List (List FV)) (w : World) (r0 : (Lit.int .i64 room).wf = true) (r1 : StsIn w [.i, .s, .b, .i, .i] a1 len1 cap1 z1) (ht : Tab w) :
    Calls Tryd.prog 3 #[.int .i64 room, .slice a1 len1 cap1] w fun e w' => e = .returned (.bool true) ∧ Below w.heap.size w w' := by
  have hlc := r1.2.2.1
  have hcm := r1.2.2.2.1
  have HR1 := Lib.hid r1
  have HT := Lib.hid ht
  have HPW := Lib.hid ht.pos
  obtain ⟨rm, hrm, hrw⟩ := dwr room
  have HD := Lib.hid (dnew_c (rm : Int) w (by omega) (by omega))
  clear r1 ht
  go_enter Tryd.func3, Tryd.ntmps3
  go_wp2_with fail
  refine HD.out.mono ?_
  rintro e1 w1 ⟨rfl, hk1, hb1⟩
  obtain ⟨d, hd⟩ : ∃ d, d = w.heap.size := ⟨_, rfl⟩
  rw [← hd]
  have hdx1 : Dx (fun _ => False) w.heap.size d 0 ⟨(rm : Int), -1, false, [], [], []⟩ w1 := ⟨⟨newS (rm : Int), by rw [hd]; exact hk1, anewS (rm : Int) (by omega) (by omega), fun j hj => hj.elim⟩, fun j hj => hj.elim⟩
  have HNW := Lib.hid (bnew_ok hdx1 (by omega) hb1.size rfl rfl)
  have HB1 := Lib.hid hb1
  clear hk1 hb1 hdx1 HD hrw hrm hd
  go_wp2_with fail
  refine HNW.out.mono ?_
  rintro e2 w2 ⟨rfl, hbs2, hb2, -⟩
  obtain ⟨sb, hsb⟩ : ∃ sb, sb = w1.heap.size := ⟨_, rfl⟩
  rw [← hsb] at hbs2 ⊢
  have HW2 := Lib.hid (HB1.out.trans hb2)
  have HBS2 := Lib.hid hbs2
  have HAW := Lib.hid (awake12_c w2 (HT.out.below HW2.out HPW.out))
  clear hbs2 hb2 HNW hsb HB1
  go_wp2_with fail
  refine HAW.out.mono ?_
  rintro e3 w3 ⟨rfl, hb3⟩
  have HP0 := Lib.hid (show BrR w d 0 (.pointer (some ⟨sb, 0, none⟩)) (.slice none 0 0) (.slice none 0 0) w3 from
    ⟨_, sb, _, [], [], rfl, (HBS2.out.below hb3).mono (by omega), PSt.init _, ⟨OwnD.nil _ _ _, OwnD.nil _ _ _, (fun j e => by cases e), (fun j e => by cases e), (fun j e => by cases e)⟩, Nat.le_refl _, Nat.le_refl _, HW2.out.trans (hb3.mono HW2.out.size)⟩)
  clear hb3 HBS2 HAW HW2
  go_wp2_with fail
  go_loopw [7, 9, 10, 51] (fun sv hv uv i wr => ∃ k : Nat, k ≤ len1 ∧ k ≤ 60 ∧ i = .int .i64 k ∧ Hid (BrR w d k sv hv uv wr)) (fun _ _ _ i _ => len1 - (intOf i).toNat)
  case atStart => exact ⟨0, Nat.zero_le _, by omega, rfl, HP0⟩
  case round =>
    clear HP0
    obtain ⟨k, hk, hk60, rfl, HP⟩ := hrel
    by_cases hkn : k < len1
    · obtain ⟨b, off, kd, s, z, n, q, rfl, hb, hop⟩ := HR1.out.op5 hkn
      obtain ⟨X, sb', A, Hl, Sl, rfl, hbs, hps, hls, hl1, hl2, hbw⟩ := HP.out
      clear HP
      have HOP := Lib.hid hop
      have HBS := Lib.hid hbs
      have HPS := Lib.hid hps
      have HLS := Lib.hid hls
      have HLL := Lib.hid (And.intro hl1 hl2)
      have HBW := Lib.hid hbw
      have c0 := (hbw.cell (p := ⟨b, off + k * 5, none⟩) hb).trans hop.c0
      have c1 := (hbw.cell (p := ⟨b, off + k * 5 + 1, none⟩) hb).trans hop.c1
      have c2 := (hbw.cell (p := ⟨b, off + k * 5 + 2, none⟩) hb).trans hop.c2
      have c3 := (hbw.cell (p := ⟨b, off + k * 5 + 3, none⟩) hb).trans hop.c3
      have c4 := (hbw.cell (p := ⟨b, off + k * 5 + 4, none⟩) hb).trans hop.c4
      have hix := fun W => run_op5_idx W b off len1 cap1 k hkn
      obtain ⟨za, zn, zc, zz⟩ := z
      simp only at c2
      obtain ⟨w5, hw5⟩ : ∃ w5, w5 = wr.alloc (.cells #[.int .i64 kd, .string s, .slice za zn zc, .int .i64 n, .int .i64 q] 35) := ⟨_, rfl⟩
      have hb5 : Below wr.heap.size wr w5 := by rw [hw5]; exact (Below.refl _ _).alloc (Nat.le_refl _) _
      obtain ⟨X12, hX12⟩ : ∃ X12, X12 = wr.heap.size := ⟨_, rfl⟩
      have hbx : OpC w5 X12 kd s (.slice za zn zc) n q := by rw [hw5, hX12]; exact heap_alloc_new wr _
      obtain ⟨x0, x1, x2, x3, x4⟩ := hbx.cells
      have hsz5 : w5.heap.size = X12 + 1 := by rw [hw5, hX12]; simp
      have HB5 := Lib.hid hb5
      have HBX := Lib.hid hbx
      have HS5 := Lib.hid hsz5
      have HX12 := Lib.hid hX12
      clear hbs hps hls hl1 hl2 hsz5
      by_cases hgo : k < 60 ∧ zn ≤ 3000
      · obtain ⟨h60, hzn⟩ := hgo
        have hk6 : ¬ 60 ≤ (k : Int) := by omega
        have hz3 : ¬ 3000 < (zn : Int) := by omega
        obtain ⟨ds, hds⟩ : ∃ ds, Sha.sum zz = ds := ⟨_, rfl⟩
        have HDds := Lib.hid (show D32 ds from by rw [← hds]; exact sum_d _)
        have HDzz := Lib.hid hds
        have hrd5 : Rd w5 za zn zz := (HOP.out.s3.1.below hbw).below hb5
        have HSUM := Lib.hid (show Calls Tryd.prog 7 #[.slice za zn zc] w5 (DigRet ds w5) from by
          have := dsum_c za zn zc zz w5 hrd5 HOP.out.s3.2.2.1 (by have := HOP.out.s3.2.2.2; simp only at this; omega) (by omega) ((HT.out.below hbw HPW.out).below hb5 (Nat.lt_of_lt_of_le HPW.out hbw.size))
          rwa [hds] at this)
        clear hop hbw hbx hb5 hds hrd5
        go_upto_region 12 with fail
        rw [← hX12]
        rw [← hw5]
        clear hX12 hw5 c0 c1 c2 c3 c4 hix
        go_wp2_with fail
        refine HSUM.out.mono ?_
        rintro e6 w6 ⟨rfl, hb6⟩
        have HB6 := Lib.hid hb6
        have K1 := Lib.hid (fun (Y : Obj) (hY : Y = .cells (cellsOf zs32).toArray 37 (0, 0)) => show Brow ((w6.alloc Y).setRow w6.heap.size (cellsOf ds).toArray) w6.heap.size 37 ds ∧ Below w6.heap.size w6 ((w6.alloc Y).setRow w6.heap.size (cellsOf ds).toArray) ∧ w6.heap.size < ((w6.alloc Y).setRow w6.heap.size (cellsOf ds).toArray).heap.size from by
          subst hY
          exact ⟨(Brow.new w6 37 zs32).setRow, ((Below.refl _ _).alloc (Nat.le_refl _) _).setRow (Nat.le_refl _) _, by rw [setRow_sizeB]; simp⟩)
        clear hb6 HSUM
        go_upto_region 13 with (first | (refine wpList_store_row (by rfl) 37 _ _ (by rfl) w6.heap.size (cellsOf ds).toArray (by rfl) (by rfl) 37 (cellsOf zs32).toArray (by exact heap_new _ _) (infoE HDds.out) (zsizeE HDds.out) (cellsOf_all _) ?_))
        refine gen_code (F := fun W => Brow W w6.heap.size 37 ds ∧ Below w6.heap.size w6 W ∧ w6.heap.size < W.heap.size) (K1.out _ rfl) ?_
        rintro w7 ⟨hd7, hb7, hl7⟩
        obtain ⟨X13, hX13⟩ : ∃ X13, X13 = w6.heap.size := ⟨_, rfl⟩
        rw [← hX13] at hd7 hl7 ⊢
        have HD7 := Lib.hid hd7
        have HX13 := Lib.hid hX13
        have hb57 : Below w5.heap.size w5 w7 := HB6.out.trans (hb7.mono HB6.out.size)
        have hbr7 : Below wr.heap.size wr w7 := HB5.out.trans (hb57.mono HB5.out.size)
        have HB7 := Lib.hid hbr7
        have hX : wr.heap.size ≤ X12 ∧ wr.heap.size ≤ X13 ∧ X12 < X13 := by have h1 := HX12.out; have h2 := HS5.out; have h3 := HB6.out.size; omega
        have HOC := Lib.hid (show OpC w7 X12 kd s (.slice za zn zc) n q from (hb57.block X12 (by have := HS5.out; omega)).trans HBX.out)
        have HXX := Lib.hid hX
        have HXL := Lib.hid (show X12 < w7.heap.size ∧ X13 < w7.heap.size from by omega)
        have HBS7 := Lib.hid (HBS.out.with2E hbr7 X12 X13 hX.1 hX.2.1 (by omega) hl7)
        have HLS7 := Lib.hid ((HLS.out.below hbr7).more (Y := fun j => X j ∨ j = X12 ∨ j = X13) fun j hj => .inl hj)
        obtain ⟨y0, y1, y2, y3, y4⟩ := HOC.out.cells
        have HRZ := Lib.hid (show Rd w7 za zn zz from (HOP.out.s3.1.below HBW.out).below hbr7)
        clear hd7 hb7 hl7 hX13 hb57 hbr7 hX K1 x0 x1 x2 x3 x4
        go_upto_block 2 with fail
        go_cut [7, 9, 10, 14, 15, 16, 17, 18, 51] from 51 to 214 (fun sv hv uv _ _ _ _ _ i wc => i = .int .i64 k ∧ Hid (BrR w d (k + 1) sv hv uv wc))
        case first =>
          obtain ⟨va, vn, vcap, rfl, vln, vnc, vcm, vnil, vdr⟩ := OwnD.form HLS7.out.oh HPS.out.dh
          obtain ⟨ta, tn, tcap, rfl, tln, tnc, tcm, tnil, tdr⟩ := OwnD.form HLS7.out.ou HPS.out.ds
          have hvn : vn ≤ 60 := by have := HLL.out; omega
          have htn : tn ≤ 60 := by have := HLL.out; omega
          have HVR := Lib.hid vdr
          have HTR := Lib.hid tdr
          have HB07 := Lib.hid (HBW.out.trans (HB7.out.mono HBW.out.size))
          have HEQ := Lib.hid (fun W => eqE HDds.out HDds.out (b := true) (by simp) W)
          clear vln vnc vcm vnil vdr tln tnc tcm tnil tdr
          have HLSW := HLS
          by_cases h0 : kd = 0
          · subst h0
            have hp := put_code A zz (by have := HOP.out.s3.1.1; simp only at this; omega)
            have hput := bput_c HBS7.out (HT.out.below HB07.out HPW.out) (by omega) za zn zc zz HRZ.out HOP.out.s3.2.2.1 (by have := HOP.out.s3.2.2.2; simp only at this; omega) (fun b o s e h0 => .inl (rd_blkE HOP.out.s3.1 e h0)) HOP.out.s3.2.1 HPW.out (by omega)
            rw [HDzz.out] at hput
            unfold PutR at hput
            rcases hp with hx | hx | hx
            · as_aux_lemma =>
                rw [hx] at hput
                have HPUT := Lib.hid hput
                have HPC := Lib.hid hx
                clear hput hx
                go_wp2_with fail
                refine HPUT.out.mono ?_
                rintro e8 w8 ⟨dz, hdz, rfl, hbs8, hb8, hk8⟩
                obtain rfl : ds = dz := by
                  rcases hdz with h | h
                  · exact h.2.symm
                  · exact absurd rfl h.1
                have K3 := Lib.hid (fun (Y : Obj) (hY : Y = .cells (cellsOf zs32).toArray 37 (0, 0)) => show Brow ((w8.alloc Y).setRow w8.heap.size (cellsOf ds).toArray) w8.heap.size 37 ds ∧ Below w8.heap.size w8 ((w8.alloc Y).setRow w8.heap.size (cellsOf ds).toArray) from by
                  subst hY
                  exact ⟨(Brow.new w8 37 zs32).setRow, ((Below.refl _ _).alloc (Nat.le_refl _) _).setRow (Nat.le_refl _) _⟩)
                have HBS8 := Lib.hid hbs8
                have HB8 := Lib.hid hb8
                have HK8 := Lib.hid hk8
                clear hbs8 hb8 hk8 hdz HPUT y0 y1 y2 y3 y4
                skip
                go_upto_region 16 with (first | (refine wpList_store_row (by rfl) 37 _ _ (by rfl) w8.heap.size (cellsOf ds).toArray (by rfl) (by rfl) 37 (cellsOf zs32).toArray (by exact heap_new _ _) (infoE HDds.out) (zsizeE HDds.out) (cellsOf_all _) ?_))
                refine gen_code (F := fun W => Brow W w8.heap.size 37 ds ∧ Below w8.heap.size w8 W) (K3.out _ rfl) ?_
                rintro w9 ⟨hd14, hb9⟩
                obtain ⟨X14, hX14⟩ : ∃ X14, X14 = w8.heap.size := ⟨_, rfl⟩
                rw [← hX14] at hd14 ⊢
                have HD14 := Lib.hid hd14
                have HBS9 := Lib.hid (HBS8.out.below hb9)
                have HLS9 := Lib.hid ((HLS7.out.kp HK8.out fun j hj => hj).below hb9)
                have h78 : X13 < w8.heap.size := Nat.lt_of_lt_of_le HXL.out.2 HB8.out.size
                have HD13 := Lib.hid (show Brow w9 X13 37 ds from Brow.below (show Brow w8 X13 37 ds from (HK8.out X13 (.inr (.inr rfl))).trans HD7.out) hb9 h78)
                have HXL9 := Lib.hid (Nat.lt_of_lt_of_le h78 hb9.size)
                have HW9 := Lib.hid (show Below w.heap.size w w9 from (HB07.out.trans HB8.out).trans (hb9.mono (Nat.le_trans HB07.out.size HB8.out.size)))
                obtain ⟨va', vn', vcap', hve, -, -, -, -, vdr9⟩ := OwnD.form HLS9.out.oh HPS.out.dh
                obtain ⟨hv1, hv2, hv3⟩ := Value.slice.inj hve
                subst hv1 hv2 hv3
                have HVR9 := Lib.hid vdr9
                clear hd14 hb9 hX14 K3 h78 hve vdr9 HBS8 HLS7 HBS7
                have HPSN := Lib.hid (show PSt (A.put zz).1 (wo Hl ds ++ [ds]) Sl from by have := HPS.out.put0 zz HPC.out; rwa [HDzz.out] at this)
                go_upto_region 19 with (first | (refine wpList_load_row (by rfl) 37 _ (by rfl) X14 (by rfl) _ (cellsOf ds).toArray (0, 0) _ HD14.out Tryd.underlying37 (by rfl) (infoE HDds.out) ?_) | (refine wpList_load_row (by rfl) 37 _ (by rfl) X13 (by rfl) _ (cellsOf ds).toArray (0, 0) _ HD13.out Tryd.underlying37 (by rfl) (infoE HDds.out) ?_) | (refine wpList_runE (by rfl) (.bool false) (exec_neE (b := true) guardE HEQ.out (x := .tmp 80) (y := .tmp 81) (by rfl) (by rfl) _ rfl _) ?_))
                obtain ⟨W0, hW0⟩ : ∃ W0, W0 = World.drew w9 := ⟨_, rfl⟩
                have hb90 : Below w9.heap.size w9 W0 := by rw [hW0]; exact below_drewN' _ w9 1
                have HBS0 := Lib.hid (HBS9.out.below hb90)
                have HLS0 := Lib.hid (HLS9.out.below hb90)
                have HD0 := Lib.hid (show Brow W0 X13 37 ds from HD13.out.below hb90 HXL9.out)
                have HX0 := Lib.hid (Nat.lt_of_lt_of_le HXL9.out hb90.size)
                have HW0 := Lib.hid (HW9.out.trans (hb90.mono HW9.out.size))
                have HVR0 := Lib.hid (HVR9.out.below hb90)
                have HL13 := Lib.hid (show ∀ W, Brow W X13 37 ds → (Instr.loadAt 37 (.pointer (some ⟨X13, 0, none⟩))).run Tryd.prog W = .ok (.agg (cellsOf ds).toArray) W from fun W hW => run_loadAt_mid W X13 0 37 (cellsOf ds) _ hW.range Tryd.underlying37 rfl (by rw [cellsOf_length, HDds.out.1]; exact info_dig))
                have HWO := Lib.hid (fun W (hW : Below W0.heap.size W0 W) => without_c vn Hl va vcap ds HDds.out W (HVR0.out.below hW) (by omega))
                have HLN := Lib.hid (show (wo Hl ds).length + 1 ≤ k + 1 from by have h1 := wo_len Hl ds; have h2 := HLL.out.1; omega)
                clear hb90
                refine anyH_begin (S := fun W => Brow W X13 37 ds) (by kernel_rfl) ?_
                rw [← hW0]
                clear hW0
                refine anyH_pureG 0 (d := 83) (op := .move (.tmp 9)) (gd := none) (.slice va vn vcap) (by rfl) (fun o ho => wanted_plain ho _) (by kernel_rfl) (by kernel_rfl) (by kernel_rfl) (fun _ _ _ h => h) (fun o ho W hW => by unfold execOp; simp only [ho]; go_simp) HD0.out ?_
                simp only [Act.put, List.setIfInBounds_toArray, List.set_cons_zero, List.set_cons_succ]
                refine anyH_loadG 1 (d := 84) (ty := 37) (x := (.tmp 13)) (gd := none) (p := .pointer (some ⟨X13, 0, none⟩)) (.agg (cellsOf ds).toArray) (by rfl) (fun o ho => wanted_plain ho _) (by kernel_rfl) (by kernel_rfl) (by kernel_rfl) (fun _ _ _ h => h) (by rfl) HL13.out HD0.out ?_
                simp only [Act.put, List.setIfInBounds_toArray, List.set_cons_zero, List.set_cons_succ]
                refine anyH_loadG 3 (d := 86) (ty := 37) (x := (.tmp 13)) (gd := none) (p := .pointer (some ⟨X13, 0, none⟩)) (.agg (cellsOf ds).toArray) (by rfl) (fun o ho => wanted_plain ho _) (by kernel_rfl) (by kernel_rfl) (by kernel_rfl) (fun _ _ _ h => h) (by rfl) HL13.out HD0.out ?_
                simp only [Act.put, List.setIfInBounds_toArray, List.set_cons_zero, List.set_cons_succ]
                refine anyH_twoE 2 4 (d1 := some 85) (d2 := some 87) (op1 := .call { callee := .value (.func 9), args := #[(.tmp 83), (.tmp 84)], argTypes := #[32, 37] }) (op2 := .buildSlice 32 1 #[(0, (.tmp 86))]) (by kernel_rfl) (by rfl) (by rfl) ?_ ?_
                · as_aux_lemma =>
                    intro o hod hoo
                    refine wp_callE hoo (vs := #[.slice va vn vcap, .agg (cellsOf ds).toArray]) (by go_simp) (by go_simp) (HWO.out _ (Below.refl _ _)) ?_
                    rintro e10 w10 ⟨v1, rfl, ho1, hb10⟩
                    refine ⟨_, rfl, ?_⟩
                    rw [hod]
                    simp only [Act.put, List.setIfInBounds_toArray, List.set_cons_zero, List.set_cons_succ]
                    have HD1 := Lib.hid (HD0.out.below hb10 HX0.out)
                    have HO1 := Lib.hid ho1
                    have HB1 := Lib.hid hb10
                    clear ho1 hb10
                    refine ⟨HD1.out, ?_⟩
                    refine anyH_oneE 4 (d1 := some 87) (op1 := .buildSlice 32 1 #[(0, (.tmp 86))]) (by kernel_rfl) (by rfl) ?_
                    intro o hod hoo
                    refine wp_dlayE dtA (.tmp 86) hoo ds HDds.out (by rfl) ?_
                    rw [hod]
                    simp only [Act.put, List.setIfInBounds_toArray, List.set_cons_zero, List.set_cons_succ]
                    have hal : Below w10.heap.size w10 (w10.alloc (.cells (cellsOf ds).toArray 37)) := (Below.refl _ _).alloc (Nat.le_refl _) _
                    have HD2 := Lib.hid (HD1.out.below hal (Nat.lt_of_lt_of_le HX0.out HB1.out.size))
                    have HBA := Lib.hid (HB1.out.trans (hal.mono HB1.out.size))
                    clear hal
                    refine ⟨HD2.out, ?_⟩
                    refine anyH_oneE 5 (d1 := some 88) (op1 := .call { callee := .builtin .append, args := #[(.tmp 85), (.tmp 87)], argTypes := #[32, 32] }) (by kernel_rfl) (by rfl) ?_
                    intro o hod hoo
                    refine wp_dpushE (.tmp 85) (.tmp 87) hoo W0.heap.size v1 (wo Hl ds) ds HDds.out (by rfl) (OwnD.alloc HO1.out _) HBA.out.size w10.heap.size (by rfl) (heap_new _ _) (by have := HLN.out; omega) ?_
                    intro vz wz hoz hgz _
                    rw [hod]
                    simp only [Act.put, List.setIfInBounds_toArray, List.set_cons_zero, List.set_cons_succ]
                    have HOZ := Lib.hid hoz
                    have HBZ := Lib.hid (show Below W0.heap.size W0 wz from HBA.out.grown hgz HBA.out.size fun k hk => ((OwnD.alloc HO1.out (.cells (cellsOf ds).toArray 37)).block k hk).1)
                    have HDZ := Lib.hid (HD0.out.below HBZ.out HX0.out)
                    clear hoz hgz
                    refine ⟨HDZ.out, ?_⟩
                    refine anyH_pureG 6 (d := 9) (op := .assign (.tmp 88)) (gd := none) (vz) (by rfl) (fun o ho => wanted_plain ho _) (by kernel_rfl) (by kernel_rfl) (by kernel_rfl) (fun _ _ _ h => h) (fun o ho W hW => by unfold execOp; simp only [ho]; go_simp) HDZ.out ?_
                    simp only [Act.put, List.setIfInBounds_toArray, List.set_cons_zero, List.set_cons_succ]
                    refine wpAnyH_done (by kernel_rfl) ?_ _
                    obtain ⟨Y, hY, hbsY, hlsY⟩ := step_h HBS0.out HLS0.out HBZ.out HOZ.out
                    have HPN := Lib.hid (show BrR w d (k + 1) (.pointer (some ⟨sb', 0, none⟩)) vz (.slice ta tn tcap) wz from ⟨Y, sb', _, _, _, rfl, hbsY.mono (by omega), HPSN.out, hlsY, by have := HLN.out; simp only [List.length_append, List.length_cons, List.length_nil]; omega, by have := HLL.out.2; omega, HW0.out.trans (HBZ.out.mono HW0.out.size)⟩)
                    clear hbsY hlsY hY
                    go_wp2_with fail
                    go_meet
                    case rel => exact ⟨rfl, HPN⟩
                · as_aux_lemma =>
                    intro o hod hoo
                    refine wp_dlayE dtA (.tmp 86) hoo ds HDds.out (by rfl) ?_
                    rw [hod]
                    simp only [Act.put, List.setIfInBounds_toArray, List.set_cons_zero, List.set_cons_succ]
                    have hal : Below W0.heap.size W0 (W0.alloc (.cells (cellsOf ds).toArray 37)) := (Below.refl _ _).alloc (Nat.le_refl _) _
                    have HD2 := Lib.hid (HD0.out.below hal HX0.out)
                    have HBA := Lib.hid hal
                    have HBW := Lib.hid (show Brow (W0.alloc (.cells (cellsOf ds).toArray 37)) W0.heap.size 37 ds from heap_new _ _)
                    clear hal
                    refine ⟨HD2.out, ?_⟩
                    refine anyH_oneE 2 (d1 := some 85) (op1 := .call { callee := .value (.func 9), args := #[(.tmp 83), (.tmp 84)], argTypes := #[32, 37] }) (by kernel_rfl) (by rfl) ?_
                    intro o hod hoo
                    refine wp_callE hoo (vs := #[.slice va vn vcap, .agg (cellsOf ds).toArray]) (by go_simp) (by go_simp) (HWO.out _ HBA.out) ?_
                    rintro e10 w10 ⟨v1, rfl, ho1, hb10⟩
                    refine ⟨_, rfl, ?_⟩
                    rw [hod]
                    simp only [Act.put, List.setIfInBounds_toArray, List.set_cons_zero, List.set_cons_succ]
                    have HD1 := Lib.hid (HD2.out.below hb10 (Nat.lt_of_lt_of_le HX0.out HBA.out.size))
                    have HW1 := Lib.hid (HBW.out.below hb10 (by simp))
                    have HB1 := Lib.hid (HBA.out.trans (hb10.mono HBA.out.size))
                    have HO1 := Lib.hid (ho1.base HBA.out.size)
                    clear ho1 hb10
                    refine ⟨HD1.out, ?_⟩
                    refine anyH_oneE 5 (d1 := some 88) (op1 := .call { callee := .builtin .append, args := #[(.tmp 85), (.tmp 87)], argTypes := #[32, 32] }) (by kernel_rfl) (by rfl) ?_
                    intro o hod hoo
                    refine wp_dpushE (.tmp 85) (.tmp 87) hoo W0.heap.size v1 (wo Hl ds) ds HDds.out (by rfl) HO1.out HB1.out.size W0.heap.size (by rfl) HW1.out (by have := HLN.out; omega) ?_
                    intro vz wz hoz hgz _
                    rw [hod]
                    simp only [Act.put, List.setIfInBounds_toArray, List.set_cons_zero, List.set_cons_succ]
                    have HOZ := Lib.hid hoz
                    have HBZ := Lib.hid (show Below W0.heap.size W0 wz from HB1.out.grown hgz HB1.out.size fun k hk => (HO1.out.block k hk).1)
                    have HDZ := Lib.hid (HD0.out.below HBZ.out HX0.out)
                    clear hoz hgz
                    refine ⟨HDZ.out, ?_⟩
                    refine anyH_pureG 6 (d := 9) (op := .assign (.tmp 88)) (gd := none) (vz) (by rfl) (fun o ho => wanted_plain ho _) (by kernel_rfl) (by kernel_rfl) (by kernel_rfl) (fun _ _ _ h => h) (fun o ho W hW => by unfold execOp; simp only [ho]; go_simp) HDZ.out ?_
                    simp only [Act.put, List.setIfInBounds_toArray, List.set_cons_zero, List.set_cons_succ]
                    refine wpAnyH_done (by kernel_rfl) ?_ _
                    obtain ⟨Y, hY, hbsY, hlsY⟩ := step_h HBS0.out HLS0.out HBZ.out HOZ.out
                    have HPN := Lib.hid (show BrR w d (k + 1) (.pointer (some ⟨sb', 0, none⟩)) vz (.slice ta tn tcap) wz from ⟨Y, sb', _, _, _, rfl, hbsY.mono (by omega), HPSN.out, hlsY, by have := HLN.out; simp only [List.length_append, List.length_cons, List.length_nil]; omega, by have := HLL.out.2; omega, HW0.out.trans (HBZ.out.mono HW0.out.size)⟩)
                    clear hbsY hlsY hY
                    go_wp2_with fail
                    go_meet
                    case rel => exact ⟨rfl, HPN⟩
            · as_aux_lemma =>
                rw [hx] at hput
                have HPUT := Lib.hid hput
                have HPC := Lib.hid hx
                clear hput hx
                go_wp2_with fail
                refine HPUT.out.mono ?_
                rintro e8 w8 ⟨dz, hdz, rfl, hbs8, hb8, hk8⟩
                obtain rfl : zs32 = dz := by
                  rcases hdz with h | h
                  · exact absurd h.1 (by decide)
                  · exact h.2.symm
                have K3 := Lib.hid (fun (Y : Obj) (hY : Y = .cells (cellsOf zs32).toArray 37 (0, 0)) => show Brow ((w8.alloc Y).setRow w8.heap.size (cellsOf zs32).toArray) w8.heap.size 37 zs32 ∧ Below w8.heap.size w8 ((w8.alloc Y).setRow w8.heap.size (cellsOf zs32).toArray) from by
                  subst hY
                  exact ⟨(Brow.new w8 37 zs32).setRow, ((Below.refl _ _).alloc (Nat.le_refl _) _).setRow (Nat.le_refl _) _⟩)
                have HBS8 := Lib.hid hbs8
                have HB8 := Lib.hid hb8
                have HK8 := Lib.hid hk8
                clear hbs8 hb8 hk8 hdz HPUT y0 y1 y2 y3 y4
                have HDzs32 := Lib.hid zs32_d
                go_upto_region 16 with (first | (refine wpList_store_row (by rfl) 37 _ _ (by rfl) w8.heap.size (cellsOf zs32).toArray (by rfl) (by rfl) 37 (cellsOf zs32).toArray (by exact heap_new _ _) (infoE HDzs32.out) (zsizeE HDzs32.out) (cellsOf_all _) ?_))
                refine gen_code (F := fun W => Brow W w8.heap.size 37 zs32 ∧ Below w8.heap.size w8 W) (K3.out _ rfl) ?_
                rintro w9 ⟨hd14, hb9⟩
                obtain ⟨X14, hX14⟩ : ∃ X14, X14 = w8.heap.size := ⟨_, rfl⟩
                rw [← hX14] at hd14 ⊢
                have HD14 := Lib.hid hd14
                have HBS9 := Lib.hid (HBS8.out.below hb9)
                have HLS9 := Lib.hid ((HLS7.out.kp HK8.out fun j hj => hj).below hb9)
                have h78 : X13 < w8.heap.size := Nat.lt_of_lt_of_le HXL.out.2 HB8.out.size
                have HD13 := Lib.hid (show Brow w9 X13 37 ds from Brow.below (show Brow w8 X13 37 ds from (HK8.out X13 (.inr (.inr rfl))).trans HD7.out) hb9 h78)
                have HXL9 := Lib.hid (Nat.lt_of_lt_of_le h78 hb9.size)
                have HW9 := Lib.hid (show Below w.heap.size w w9 from (HB07.out.trans HB8.out).trans (hb9.mono (Nat.le_trans HB07.out.size HB8.out.size)))
                obtain ⟨va', vn', vcap', hve, -, -, -, -, vdr9⟩ := OwnD.form HLS9.out.oh HPS.out.dh
                obtain ⟨hv1, hv2, hv3⟩ := Value.slice.inj hve
                subst hv1 hv2 hv3
                have HVR9 := Lib.hid vdr9
                clear hd14 hb9 hX14 K3 h78 hve vdr9 HBS8 HLS7 HBS7
                have HPSN := Lib.hid (show PSt (A.put zz).1 Hl Sl from HPS.out.put4 zz HPC.out)
                have HPN := Lib.hid (show BrR w d (k + 1) (.pointer (some ⟨sb', 0, none⟩)) (.slice va vn vcap) (.slice ta tn tcap) w9 from ⟨_, sb', _, _, _, rfl, HBS9.out.mono (by omega), HPSN.out, HLS9.out, by have := HLL.out.1; omega, by have := HLL.out.2; omega, HW9.out⟩)
                go_wp2_with fail
                go_meet
                case rel => exact ⟨rfl, HPN⟩
            · as_aux_lemma =>
                rw [hx] at hput
                have HPUT := Lib.hid hput
                have HPC := Lib.hid hx
                clear hput hx
                go_wp2_with fail
                refine HPUT.out.mono ?_
                rintro e8 w8 ⟨dz, hdz, rfl, hbs8, hb8, hk8⟩
                obtain rfl : zs32 = dz := by
                  rcases hdz with h | h
                  · exact absurd h.1 (by decide)
                  · exact h.2.symm
                have K3 := Lib.hid (fun (Y : Obj) (hY : Y = .cells (cellsOf zs32).toArray 37 (0, 0)) => show Brow ((w8.alloc Y).setRow w8.heap.size (cellsOf zs32).toArray) w8.heap.size 37 zs32 ∧ Below w8.heap.size w8 ((w8.alloc Y).setRow w8.heap.size (cellsOf zs32).toArray) from by
                  subst hY
                  exact ⟨(Brow.new w8 37 zs32).setRow, ((Below.refl _ _).alloc (Nat.le_refl _) _).setRow (Nat.le_refl _) _⟩)
                have HBS8 := Lib.hid hbs8
                have HB8 := Lib.hid hb8
                have HK8 := Lib.hid hk8
                clear hbs8 hb8 hk8 hdz HPUT y0 y1 y2 y3 y4
                have HDzs32 := Lib.hid zs32_d
                go_upto_region 16 with (first | (refine wpList_store_row (by rfl) 37 _ _ (by rfl) w8.heap.size (cellsOf zs32).toArray (by rfl) (by rfl) 37 (cellsOf zs32).toArray (by exact heap_new _ _) (infoE HDzs32.out) (zsizeE HDzs32.out) (cellsOf_all _) ?_))
                refine gen_code (F := fun W => Brow W w8.heap.size 37 zs32 ∧ Below w8.heap.size w8 W) (K3.out _ rfl) ?_
                rintro w9 ⟨hd14, hb9⟩
                obtain ⟨X14, hX14⟩ : ∃ X14, X14 = w8.heap.size := ⟨_, rfl⟩
                rw [← hX14] at hd14 ⊢
                have HD14 := Lib.hid hd14
                have HBS9 := Lib.hid (HBS8.out.below hb9)
                have HLS9 := Lib.hid ((HLS7.out.kp HK8.out fun j hj => hj).below hb9)
                have h78 : X13 < w8.heap.size := Nat.lt_of_lt_of_le HXL.out.2 HB8.out.size
                have HD13 := Lib.hid (show Brow w9 X13 37 ds from Brow.below (show Brow w8 X13 37 ds from (HK8.out X13 (.inr (.inr rfl))).trans HD7.out) hb9 h78)
                have HXL9 := Lib.hid (Nat.lt_of_lt_of_le h78 hb9.size)
                have HW9 := Lib.hid (show Below w.heap.size w w9 from (HB07.out.trans HB8.out).trans (hb9.mono (Nat.le_trans HB07.out.size HB8.out.size)))
                obtain ⟨va', vn', vcap', hve, -, -, -, -, vdr9⟩ := OwnD.form HLS9.out.oh HPS.out.dh
                obtain ⟨hv1, hv2, hv3⟩ := Value.slice.inj hve
                subst hv1 hv2 hv3
                have HVR9 := Lib.hid vdr9
                clear hd14 hb9 hX14 K3 h78 hve vdr9 HBS8 HLS7 HBS7
                have HPSN := Lib.hid (show PSt (A.put zz).1 Hl (Sl ++ [ds]) from by have := HPS.out.put5 zz; rwa [HDzz.out] at this)
                have hszw : w.heap.size ≤ w9.heap.size := HW9.out.size
                have hlen : Sl.length + 1 ≤ 4398046511104 := by have := HLL.out.2; omega
                have HAL := Lib.hid (show Below w9.heap.size w9 (w9.alloc (.cells (cellsOf ds).toArray 37)) from (Below.refl _ _).alloc (Nat.le_refl _) _)
                have HOA := Lib.hid (OwnD.alloc HLS9.out.ou (.cells (cellsOf ds).toArray 37))
                go_wp2_with (first | (refine wpList_load_row (by rfl) 37 _ (by rfl) X13 (by rfl) _ (cellsOf ds).toArray (0, 0) _ HD13.out Tryd.underlying37 (by rfl) (infoE HDds.out) ?_) | (refine wpList_dlay dtA (by rfl) _ (by rfl) w9.heap.size (by rfl) (some 93) (by rfl) ds HDds.out (by rfl) ?_) | (at_builtin; refine wpList_dpushE (by rfl) _ _ (by rfl) w.heap.size (.slice ta tn tcap) Sl ds HDds.out (by rfl) HOA.out (Nat.le_trans hszw HAL.out.size) w9.heap.size (by rfl) (heap_new _ _) hlen ?_; intro vz wz hoz hgz hat; have HOZ := Lib.hid hoz; have HGZ := Lib.hid hgz; have HAT := Lib.hid hat; clear hoz hgz hat))
                obtain ⟨Y, hY, hbsY, hlsY⟩ := step_u HBS9.out HLS9.out HAL.out HGZ.out HOZ.out HAT.out
                have HPN := Lib.hid (show BrR w d (k + 1) (.pointer (some ⟨sb', 0, none⟩)) (.slice va vn vcap) vz wz from ⟨Y, sb', _, _, _, rfl, hbsY.mono (by omega), HPSN.out, hlsY, by have := HLL.out.1; omega, by have := HLL.out.2; simp only [List.length_append, List.length_cons, List.length_nil]; omega, (HW9.out.trans (HAL.out.mono HW9.out.size)).grown HGZ.out (Nat.le_trans hszw HAL.out.size) fun k hk => (HLS9.out.ou.block k hk).1⟩)
                clear hbsY hlsY hY
                go_wp2_with fail
                go_meet
                case rel => exact ⟨rfl, HPN⟩
          · by_cases h1 : kd = 1
            · as_aux_lemma =>
                subst h1
                have hdel := bdel_c HBS7.out (by omega) ds HDds.out
                obtain ⟨x, hx⟩ : ∃ x, (A.del ds).2 = x := ⟨_, rfl⟩
                unfold AdR at hdel
                rw [hx] at hdel
                have HDEL := Lib.hid hdel
                have HXE := Lib.hid hx
                clear hdel hx h0
                go_wp2_with (first | (refine wpList_load_row (by rfl) 37 _ (by rfl) X13 (by rfl) _ (cellsOf ds).toArray (0, 0) _ HD7.out Tryd.underlying37 (by rfl) (infoE HDds.out) ?_))
                refine HDEL.out.mono ?_
                rintro e8 w8 ⟨rfl, hbs8, hb8, hk8⟩
                have HBS8 := Lib.hid hbs8
                have HLS8 := Lib.hid (HLS7.out.kp hk8 fun j hj => hj)
                have HD13 := Lib.hid (show Brow w8 X13 37 ds from (hk8 X13 (.inr (.inr rfl))).trans HD7.out)
                have HXL9 := Lib.hid (Nat.lt_of_lt_of_le HXL.out.2 hb8.size)
                have HW8 := Lib.hid (HB07.out.trans hb8)
                have hform : ∀ {a : Option Addr} {n c : Nat} {L : Ds}, OwnD w8 w.heap.size 37 (.slice a n c) L → (∀ d ∈ L, D32 d) → DR w8 a n L := fun ho hd => by
                  obtain ⟨a', n', c', e, _, _, _, _, h⟩ := OwnD.form ho hd
                  obtain ⟨e1, e2, e3⟩ := Value.slice.inj e
                  subst e1 e2 e3
                  exact h
                have HVR8 := Lib.hid (hform HLS8.out.oh HPS.out.dh)
                have HTR8 := Lib.hid (hform HLS8.out.ou HPS.out.ds)
                clear hbs8 hb8 hk8 HDEL y0 y1 y2 y3 y4 hform HBS7
                by_cases hx0 : x = 0
                · subst hx0
                  have HPSN := Lib.hid (HPS.out.del0 ds HDds.out HXE.out)
                  as_aux_lemma =>
                    go_upto_region 27 with (first | (refine wpList_load_row (by rfl) 37 _ (by rfl) X13 (by rfl) _ (cellsOf ds).toArray (0, 0) _ HD13.out Tryd.underlying37 (by rfl) (infoE HDds.out) ?_))
                    obtain ⟨W0, hW0⟩ : ∃ W0, W0 = World.drew w8 := ⟨_, rfl⟩
                    have hb90 : Below w8.heap.size w8 W0 := by rw [hW0]; exact below_drewN' _ w8 1
                    have HBS0 := Lib.hid (HBS8.out.below hb90)
                    have HLS0 := Lib.hid (HLS8.out.below hb90)
                    have HD0 := Lib.hid (show Brow W0 X13 37 ds from HD13.out.below hb90 HXL9.out)
                    have HX0 := Lib.hid (Nat.lt_of_lt_of_le HXL9.out hb90.size)
                    have HW0 := Lib.hid (HW8.out.trans (hb90.mono HW8.out.size))
                    have HVR0 := Lib.hid (HVR8.out.below hb90)
                    have HTR0 := Lib.hid (HTR8.out.below hb90)
                    have HL13 := Lib.hid (show ∀ W, Brow W X13 37 ds → (Instr.loadAt 37 (.pointer (some ⟨X13, 0, none⟩))).run Tryd.prog W = .ok (.agg (cellsOf ds).toArray) W from fun W hW => run_loadAt_mid W X13 0 37 (cellsOf ds) _ hW.range Tryd.underlying37 rfl (by rw [cellsOf_length, HDds.out.1]; exact info_dig))
                    clear hb90
                    refine anyH_begin (S := fun W => Brow W X13 37 ds) (by kernel_rfl) ?_
                    rw [← hW0]
                    clear hW0
                    have HWV := Lib.hid (fun W (hW : Below W0.heap.size W0 W) => without_c vn Hl va vcap ds HDds.out W (HVR0.out.below hW) (by omega))
                    have HWT := Lib.hid (fun W (hW : Below W0.heap.size W0 W) => without_c tn Sl ta tcap ds HDds.out W (HTR0.out.below hW) (by omega))
                    refine anyH_pureG 0 (d := 104) (op := .move (.tmp 9)) (gd := none) (.slice va vn vcap) (by rfl) (fun o ho => wanted_plain ho _) (by kernel_rfl) (by kernel_rfl) (by kernel_rfl) (fun _ _ _ h => h) (fun o ho W hW => by unfold execOp; simp only [ho]; go_simp) HD0.out ?_
                    simp only [Act.put, List.setIfInBounds_toArray, List.set_cons_zero, List.set_cons_succ]
                    refine anyH_loadG 1 (d := 105) (ty := 37) (x := (.tmp 13)) (gd := none) (p := .pointer (some ⟨X13, 0, none⟩)) (.agg (cellsOf ds).toArray) (by rfl) (fun o ho => wanted_plain ho _) (by kernel_rfl) (by kernel_rfl) (by kernel_rfl) (fun _ _ _ h => h) (by rfl) HL13.out HD0.out ?_
                    simp only [Act.put, List.setIfInBounds_toArray, List.set_cons_zero, List.set_cons_succ]
                    refine anyH_pureG 3 (d := 107) (op := .move (.tmp 10)) (gd := none) (.slice ta tn tcap) (by rfl) (fun o ho => wanted_plain ho _) (by kernel_rfl) (by kernel_rfl) (by kernel_rfl) (fun _ _ _ h => h) (fun o ho W hW => by unfold execOp; simp only [ho]; go_simp) HD0.out ?_
                    simp only [Act.put, List.setIfInBounds_toArray, List.set_cons_zero, List.set_cons_succ]
                    refine anyH_loadG 4 (d := 108) (ty := 37) (x := (.tmp 13)) (gd := none) (p := .pointer (some ⟨X13, 0, none⟩)) (.agg (cellsOf ds).toArray) (by rfl) (fun o ho => wanted_plain ho _) (by kernel_rfl) (by kernel_rfl) (by kernel_rfl) (fun _ _ _ h => h) (by rfl) HL13.out HD0.out ?_
                    simp only [Act.put, List.setIfInBounds_toArray, List.set_cons_zero, List.set_cons_succ]
                    refine anyH_oneE 2 (d1 := some 106) (op1 := .call { callee := .value (.func 9), args := #[(.tmp 104), (.tmp 105)], argTypes := #[32, 37] }) (by kernel_rfl) (by rfl) ?_
                    intro o hod hoo
                    refine wp_callE hoo (vs := #[.slice va vn vcap, .agg (cellsOf ds).toArray]) (by go_simp) (by go_simp) (HWV.out _ (Below.refl _ _)) ?_
                    rintro e10 w10 ⟨pv, rfl, ho1, hb10⟩
                    refine ⟨_, rfl, ?_⟩
                    rw [hod]
                    simp only [Act.put, List.setIfInBounds_toArray, List.set_cons_zero, List.set_cons_succ]
                    have HD10 := Lib.hid (HD0.out.below hb10 HX0.out)
                    have HO1 := Lib.hid ho1
                    have HB10 := Lib.hid hb10
                    clear ho1 hb10
                    refine ⟨HD10.out, ?_⟩
                    refine anyH_oneE 5 (d1 := some 109) (op1 := .call { callee := .value (.func 9), args := #[(.tmp 107), (.tmp 108)], argTypes := #[32, 37] }) (by kernel_rfl) (by rfl) ?_
                    intro o hod hoo
                    refine wp_callE hoo (vs := #[.slice ta tn tcap, .agg (cellsOf ds).toArray]) (by go_simp) (by go_simp) (HWT.out _ HB10.out) ?_
                    rintro e11 w11 ⟨pt, rfl, ho2, hb11⟩
                    refine ⟨_, rfl, ?_⟩
                    rw [hod]
                    simp only [Act.put, List.setIfInBounds_toArray, List.set_cons_zero, List.set_cons_succ]
                    have HD11 := Lib.hid (HD10.out.below hb11 (Nat.lt_of_lt_of_le HX0.out HB10.out.size))
                    have HB11 := Lib.hid (HB10.out.trans (hb11.mono HB10.out.size))
                    have HO1' := Lib.hid (HO1.out.below hb11 (Nat.le_refl _))
                    have HO2' := Lib.hid (ho2.base HB10.out.size)
                    have HNE := Lib.hid (show ∀ j, pv.ownBlock = some j → pt.ownBlock ≠ some j from fun j e1 e2 => by have h1 := (HO1.out.block j e1).2; have h2 := (ho2.block j e2).1; omega)
                    have HOV := HO1'
                    have HOT := HO2'
                    clear ho2 hb11
                    refine ⟨HD11.out, ?_⟩
                    refine anyH_pureG 6 (d := 9) (op := .assign (.tmp 106)) (gd := none) (pv) (by rfl) (fun o ho => wanted_plain ho _) (by kernel_rfl) (by kernel_rfl) (by kernel_rfl) (fun _ _ _ h => h) (fun o ho W hW => by unfold execOp; simp only [ho]; go_simp) HD11.out ?_
                    simp only [Act.put, List.setIfInBounds_toArray, List.set_cons_zero, List.set_cons_succ]
                    refine anyH_pureG 7 (d := 10) (op := .assign (.tmp 109)) (gd := none) (pt) (by rfl) (fun o ho => wanted_plain ho _) (by kernel_rfl) (by kernel_rfl) (by kernel_rfl) (fun _ _ _ h => h) (fun o ho W hW => by unfold execOp; simp only [ho]; go_simp) HD11.out ?_
                    simp only [Act.put, List.setIfInBounds_toArray, List.set_cons_zero, List.set_cons_succ]
                    refine wpAnyH_done (by kernel_rfl) ?_ _
                    obtain ⟨Y, hY, hbsY, hlsY⟩ := step_hu HBS0.out HLS0.out HB11.out HOV.out HOT.out HNE.out
                    have HPN := Lib.hid (show BrR w d (k + 1) (.pointer (some ⟨sb', 0, none⟩)) pv pt w11 from ⟨Y, sb', _, _, _, rfl, hbsY.mono (by omega), HPSN.out, hlsY, by have := wo_len Hl ds; have := HLL.out.1; omega, by have := wo_len Sl ds; have := HLL.out.2; omega, HW0.out.trans (HB11.out.mono HW0.out.size)⟩)
                    clear hbsY hlsY hY
                    go_wp2_with fail
                    go_meet
                    case rel => exact ⟨rfl, HPN⟩
                · have hx0' : (x == 0) = false := by simp [hx0]
                  by_cases hx5 : x = 5
                  · subst hx5
                    have HH := Lib.hid (has_c vn Hl va vcap ds HDds.out w8 HVR8.out (by omega))
                    by_cases hm : ds ∈ Hl
                    · rw [show decide (ds ∈ Hl) = true from by simpa using hm] at HH
                      have HPSN := Lib.hid (HPS.out.del5 ds HDds.out)
                      clear hm
                      go_wp2_with (first | (refine wpList_runE (by rfl) (.agg (cellsOf ds).toArray) (exec_loadE HD13.out HDds.out (x := .tmp 13) (by rfl) _ rfl) ?_))
                      refine HH.out.mono ?_
                      rintro e8c w8c ⟨rfl, hb8c⟩
                      have HBS8c := Lib.hid (HBS8.out.below hb8c)
                      have HLS8c := Lib.hid (HLS8.out.below hb8c)
                      have HD13c := Lib.hid (HD13.out.below hb8c HXL9.out)
                      have HXL9c := Lib.hid (Nat.lt_of_lt_of_le HXL9.out hb8c.size)
                      have HW8c := Lib.hid (HW8.out.trans (hb8c.mono HW8.out.size))
                      have HVR8c := Lib.hid (HVR8.out.below hb8c)
                      have HTR8c := Lib.hid (HTR8.out.below hb8c)
                      have HLSF := HLSW
                      clear hb8c HH
                      as_aux_lemma =>
                        go_upto_region 29 with (first | (refine wpList_runE (by rfl) (.agg (cellsOf ds).toArray) (exec_loadE HD13c.out HDds.out (x := .tmp 13) (by rfl) _ rfl) ?_))
                        obtain ⟨W0, hW0⟩ : ∃ W0, W0 = World.drew w8c := ⟨_, rfl⟩
                        have hb90 : Below w8c.heap.size w8c W0 := by rw [hW0]; exact below_drewN' _ w8c 1
                        have HBS0 := Lib.hid (HBS8c.out.below hb90)
                        have HLS0 := Lib.hid (HLS8c.out.below hb90)
                        have HD0 := Lib.hid (show Brow W0 X13 37 ds from HD13c.out.below hb90 HXL9c.out)
                        have HX0 := Lib.hid (Nat.lt_of_lt_of_le HXL9c.out hb90.size)
                        have HW0 := Lib.hid (HW8c.out.trans (hb90.mono HW8c.out.size))
                        have HVR0 := Lib.hid (HVR8c.out.below hb90)
                        have HTR0 := Lib.hid (HTR8c.out.below hb90)
                        have HL13 := Lib.hid (show ∀ W, Brow W X13 37 ds → (Instr.loadAt 37 (.pointer (some ⟨X13, 0, none⟩))).run Tryd.prog W = .ok (.agg (cellsOf ds).toArray) W from fun W hW => run_loadAt_mid W X13 0 37 (cellsOf ds) _ hW.range Tryd.underlying37 rfl (by rw [cellsOf_length, HDds.out.1]; exact info_dig))
                        clear hb90
                        refine anyH_begin (S := fun W => Brow W X13 37 ds) (by kernel_rfl) ?_
                        rw [← hW0]
                        clear hW0
                        have HWV := Lib.hid (fun W (hW : DR W va vn Hl) => without_c vn Hl va vcap ds HDds.out W hW (by omega))
                        have HLN := Lib.hid (show Sl.length + 1 ≤ k + 1 from by have h2 := HLL.out.2; omega)
                        have HBB := Lib.hid (show w.heap.size ≤ W0.heap.size from HW0.out.size)
                        refine anyH_pureG 0 (d := 117) (op := .move (.tmp 9)) (gd := none) (.slice va vn vcap) (by rfl) (fun o ho => wanted_plain ho _) (by kernel_rfl) (by kernel_rfl) (by kernel_rfl) (fun _ _ _ h => h) (fun o ho W hW => by unfold execOp; simp only [ho]; go_simp) HD0.out ?_
                        simp only [Act.put, List.setIfInBounds_toArray, List.set_cons_zero, List.set_cons_succ]
                        refine anyH_loadG 1 (d := 118) (ty := 37) (x := (.tmp 13)) (gd := none) (p := .pointer (some ⟨X13, 0, none⟩)) (.agg (cellsOf ds).toArray) (by rfl) (fun o ho => wanted_plain ho _) (by kernel_rfl) (by kernel_rfl) (by kernel_rfl) (fun _ _ _ h => h) (by rfl) HL13.out HD0.out ?_
                        simp only [Act.put, List.setIfInBounds_toArray, List.set_cons_zero, List.set_cons_succ]
                        refine anyH_pureG 3 (d := 120) (op := .move (.tmp 10)) (gd := none) (.slice ta tn tcap) (by rfl) (fun o ho => wanted_plain ho _) (by kernel_rfl) (by kernel_rfl) (by kernel_rfl) (fun _ _ _ h => h) (fun o ho W hW => by unfold execOp; simp only [ho]; go_simp) HD0.out ?_
                        simp only [Act.put, List.setIfInBounds_toArray, List.set_cons_zero, List.set_cons_succ]
                        refine anyH_loadG 4 (d := 121) (ty := 37) (x := (.tmp 13)) (gd := none) (p := .pointer (some ⟨X13, 0, none⟩)) (.agg (cellsOf ds).toArray) (by rfl) (fun o ho => wanted_plain ho _) (by kernel_rfl) (by kernel_rfl) (by kernel_rfl) (fun _ _ _ h => h) (by rfl) HL13.out HD0.out ?_
                        simp only [Act.put, List.setIfInBounds_toArray, List.set_cons_zero, List.set_cons_succ]
                        have HDN := Lib.hid (show ∀ W, (∀ k, k < W0.heap.size → (Value.slice ta tn tcap).ownBlock ≠ some k → W.heap[k]? = W0.heap[k]?) → Brow W X13 37 ds from fun W hW => (hW X13 HX0.out fun e => by have h2 := (HLSF.out.ou.block X13 e).2; have := HXX.out; omega).trans HD0.out)
                        refine anyH_twoE 2 5 (d1 := some 119) (d2 := some 122) (op1 := .call { callee := .value (.func 9), args := #[(.tmp 117), (.tmp 118)], argTypes := #[32, 37] }) (op2 := .buildSlice 32 1 #[(0, (.tmp 121))]) (by kernel_rfl) (by rfl) (by rfl) ?_ ?_
                        · as_aux_lemma =>
                            intro o hod hoo
                            refine wp_callE hoo (vs := #[.slice va vn vcap, .agg (cellsOf ds).toArray]) (by go_simp) (by go_simp) (HWV.out _ HVR0.out) ?_
                            rintro e10 w10 ⟨pv, rfl, ho1, hb10⟩
                            refine ⟨_, rfl, ?_⟩
                            rw [hod]
                            simp only [Act.put, List.setIfInBounds_toArray, List.set_cons_zero, List.set_cons_succ]
                            have HD1 := Lib.hid (HD0.out.below hb10 HX0.out)
                            have HO1 := Lib.hid ho1
                            have HB1 := Lib.hid hb10
                            clear ho1 hb10
                            refine ⟨HD1.out, ?_⟩
                            refine anyH_oneE 5 (d1 := some 122) (op1 := .buildSlice 32 1 #[(0, (.tmp 121))]) (by kernel_rfl) (by rfl) ?_
                            intro o hod hoo
                            refine wp_dlayE dtA (.tmp 121) hoo ds HDds.out (by rfl) ?_
                            rw [hod]
                            simp only [Act.put, List.setIfInBounds_toArray, List.set_cons_zero, List.set_cons_succ]
                            have hal : Below w10.heap.size w10 (w10.alloc (.cells (cellsOf ds).toArray 37)) := (Below.refl _ _).alloc (Nat.le_refl _) _
                            have HD2 := Lib.hid (HD1.out.below hal (Nat.lt_of_lt_of_le HX0.out HB1.out.size))
                            have HBA := Lib.hid (HB1.out.trans (hal.mono HB1.out.size))
                            have HOU := Lib.hid (show OwnD (w10.alloc (.cells (cellsOf ds).toArray 37)) w.heap.size 37 (Value.slice ta tn tcap) Sl from HLS0.out.ou.keepE fun k e => HBA.out.block k (HLS0.out.ou.block k e).2)
                            have HOA := Lib.hid (OwnD.alloc HO1.out (.cells (cellsOf ds).toArray 37))
                            clear hal
                            refine ⟨HD2.out, ?_⟩
                            refine anyH_oneE 6 (d1 := some 123) (op1 := .call { callee := .builtin .append, args := #[(.tmp 120), (.tmp 122)], argTypes := #[32, 32] }) (by kernel_rfl) (by rfl) ?_
                            intro o hod hoo
                            refine wp_dpushE (.tmp 120) (.tmp 122) hoo w.heap.size (Value.slice ta tn tcap) Sl ds HDds.out (by rfl) HOU.out (Nat.le_trans HBB.out HBA.out.size) w10.heap.size (by rfl) (heap_new _ _) (by have := HLN.out; omega) ?_
                            intro pt wz hoz hgz hat
                            rw [hod]
                            simp only [Act.put, List.setIfInBounds_toArray, List.set_cons_zero, List.set_cons_succ]
                            have HOT := Lib.hid hoz
                            have HKZ := Lib.hid (show ∀ k, k < W0.heap.size → (Value.slice ta tn tcap).ownBlock ≠ some k → wz.heap[k]? = W0.heap[k]? from fun k hk hn => (hgz.block k (Nat.lt_of_lt_of_le hk HBA.out.size) fun e => hn e.symm).trans (HBA.out.block k hk))
                            have HSZ := Lib.hid (Nat.le_trans HBA.out.size hgz.size)
                            have HBZ := Lib.hid (show Below w.heap.size W0 wz from (HBA.out.mono HBB.out).grown hgz (Nat.le_trans HBB.out HBA.out.size) fun k hk => (HLS0.out.ou.block k hk).1)
                            have HOV := Lib.hid (show OwnD wz w.heap.size 37 pv (wo Hl ds) from (HOA.out.keepE fun k e => hgz.block k (HOA.out.block k e).2 fun e2 => by have h1 := (HO1.out.block k e).1; have h2 := (HLS0.out.ou.block k e2.symm).2; omega).base HBB.out)
                            have HVF := Lib.hid (fun j (e : pv.ownBlock = some j) => (HO1.out.block j e).1)
                            have HUF := Lib.hid (show pt.ownBlock = (Value.slice ta tn tcap).ownBlock ∨ ∀ j, pt.ownBlock = some j → W0.heap.size ≤ j from hat.imp id fun e j e2 => by rw [e] at e2; cases e2; exact HBA.out.size)
                            have HNE := Lib.hid (show ∀ j, pv.ownBlock = some j → pt.ownBlock = some j → j < W0.heap.size from fun j e1 e2 => by
                              rcases hat with h | h
                              · rw [h] at e2; exact (HLS0.out.ou.block j e2).2
                              · rw [h] at e2; cases e2; have := (HOA.out.block _ e1).2; omega)
                            have HDZ := Lib.hid (HDN.out wz HKZ.out)
                            clear hoz hgz hat
                            refine ⟨HDZ.out, ?_⟩
                            refine anyH_pureG 7 (d := 9) (op := .assign (.tmp 119)) (gd := none) (pv) (by rfl) (fun o ho => wanted_plain ho _) (by kernel_rfl) (by kernel_rfl) (by kernel_rfl) (fun _ _ _ h => h) (fun o ho W hW => by unfold execOp; simp only [ho]; go_simp) HDZ.out ?_
                            simp only [Act.put, List.setIfInBounds_toArray, List.set_cons_zero, List.set_cons_succ]
                            refine anyH_pureG 8 (d := 10) (op := .assign (.tmp 123)) (gd := none) (pt) (by rfl) (fun o ho => wanted_plain ho _) (by kernel_rfl) (by kernel_rfl) (by kernel_rfl) (fun _ _ _ h => h) (fun o ho W hW => by unfold execOp; simp only [ho]; go_simp) HDZ.out ?_
                            simp only [Act.put, List.setIfInBounds_toArray, List.set_cons_zero, List.set_cons_succ]
                            refine wpAnyH_done (by kernel_rfl) ?_ _
                            obtain ⟨Y, hY, hbsY, hlsY⟩ := step_lists HBS0.out HLS0.out HSZ.out HKZ.out HOV.out HOT.out (.inr HVF.out) HUF.out HNE.out
                            have HPN := Lib.hid (show BrR w d (k + 1) (.pointer (some ⟨sb', 0, none⟩)) pv pt wz from ⟨Y, sb', _, _, _, rfl, hbsY.mono (by omega), HPSN.out, hlsY, by have := wo_len Hl ds; have := HLL.out.1; omega, by have := HLL.out.2; simp only [List.length_append, List.length_cons, List.length_nil]; omega, HW0.out.trans (HBZ.out.mono (Nat.le_refl _))⟩)
                            clear hbsY hlsY hY
                            go_wp2_with fail
                            go_meet
                            case rel => exact ⟨rfl, HPN⟩
                        · as_aux_lemma =>
                            intro o hod hoo
                            refine wp_dlayE dtA (.tmp 121) hoo ds HDds.out (by rfl) ?_
                            rw [hod]
                            simp only [Act.put, List.setIfInBounds_toArray, List.set_cons_zero, List.set_cons_succ]
                            have hal : Below W0.heap.size W0 (W0.alloc (.cells (cellsOf ds).toArray 37)) := (Below.refl _ _).alloc (Nat.le_refl _) _
                            have HD2 := Lib.hid (HD0.out.below hal HX0.out)
                            have HBA := Lib.hid hal
                            have HBW2 := Lib.hid (show Brow (W0.alloc (.cells (cellsOf ds).toArray 37)) W0.heap.size 37 ds from heap_new _ _)
                            have HAS := Lib.hid (show (W0.alloc (.cells (cellsOf ds).toArray 37)).heap.size = W0.heap.size + 1 from by simp)
                            clear hal
                            refine ⟨HD2.out, ?_⟩
                            refine anyH_oneE 2 (d1 := some 119) (op1 := .call { callee := .value (.func 9), args := #[(.tmp 117), (.tmp 118)], argTypes := #[32, 37] }) (by kernel_rfl) (by rfl) ?_
                            intro o hod hoo
                            refine wp_callE hoo (vs := #[.slice va vn vcap, .agg (cellsOf ds).toArray]) (by go_simp) (by go_simp) (HWV.out _ (HVR0.out.below HBA.out)) ?_
                            rintro e10 w10 ⟨pv, rfl, ho1, hb10⟩
                            refine ⟨_, rfl, ?_⟩
                            rw [hod]
                            simp only [Act.put, List.setIfInBounds_toArray, List.set_cons_zero, List.set_cons_succ]
                            have HD1 := Lib.hid (HD2.out.below hb10 (Nat.lt_of_lt_of_le HX0.out HBA.out.size))
                            have HO1 := Lib.hid (ho1.base HBA.out.size)
                            have HB1 := Lib.hid (HBA.out.trans (hb10.mono HBA.out.size))
                            have HBW3 := Lib.hid (HBW2.out.below hb10 (by rw [HAS.out]; omega))
                            have HOU := Lib.hid (show OwnD w10 w.heap.size 37 (Value.slice ta tn tcap) Sl from HLS0.out.ou.keepE fun k e => HB1.out.block k (HLS0.out.ou.block k e).2)
                            clear ho1 hb10
                            refine ⟨HD1.out, ?_⟩
                            refine anyH_oneE 6 (d1 := some 123) (op1 := .call { callee := .builtin .append, args := #[(.tmp 120), (.tmp 122)], argTypes := #[32, 32] }) (by kernel_rfl) (by rfl) ?_
                            intro o hod hoo
                            refine wp_dpushE (.tmp 120) (.tmp 122) hoo w.heap.size (Value.slice ta tn tcap) Sl ds HDds.out (by rfl) HOU.out (Nat.le_trans HBB.out HB1.out.size) W0.heap.size (by rfl) HBW3.out (by have := HLN.out; omega) ?_
                            intro pt wz hoz hgz hat
                            rw [hod]
                            simp only [Act.put, List.setIfInBounds_toArray, List.set_cons_zero, List.set_cons_succ]
                            have HOT := Lib.hid hoz
                            have HKZ := Lib.hid (show ∀ k, k < W0.heap.size → (Value.slice ta tn tcap).ownBlock ≠ some k → wz.heap[k]? = W0.heap[k]? from fun k hk hn => (hgz.block k (Nat.lt_of_lt_of_le hk HB1.out.size) fun e => hn e.symm).trans (HB1.out.block k hk))
                            have HSZ := Lib.hid (Nat.le_trans HB1.out.size hgz.size)
                            have HBZ := Lib.hid (show Below w.heap.size W0 wz from (HB1.out.mono HBB.out).grown hgz (Nat.le_trans HBB.out HB1.out.size) fun k hk => (HLS0.out.ou.block k hk).1)
                            have HOV := Lib.hid (show OwnD wz w.heap.size 37 pv (wo Hl ds) from (HO1.out.keepE fun k e => hgz.block k (HO1.out.block k e).2 fun e2 => by have h1 := (HO1.out.block k e).1; have h2 := (HLS0.out.ou.block k e2.symm).2; omega).base HBB.out)
                            have HVF := Lib.hid (fun j (e : pv.ownBlock = some j) => (HO1.out.block j e).1)
                            have HUF := Lib.hid (show pt.ownBlock = (Value.slice ta tn tcap).ownBlock ∨ ∀ j, pt.ownBlock = some j → W0.heap.size ≤ j from hat.imp id fun e j e2 => by rw [e] at e2; cases e2; exact HB1.out.size)
                            have HNE := Lib.hid (show ∀ j, pv.ownBlock = some j → pt.ownBlock = some j → j < W0.heap.size from fun j e1 e2 => by
                              rcases hat with h | h
                              · rw [h] at e2; exact (HLS0.out.ou.block j e2).2
                              · rw [h] at e2; cases e2; have := (HO1.out.block _ e1).2; omega)
                            have HDZ := Lib.hid (HDN.out wz HKZ.out)
                            clear hoz hgz hat
                            refine ⟨HDZ.out, ?_⟩
                            refine anyH_pureG 7 (d := 9) (op := .assign (.tmp 119)) (gd := none) (pv) (by rfl) (fun o ho => wanted_plain ho _) (by kernel_rfl) (by kernel_rfl) (by kernel_rfl) (fun _ _ _ h => h) (fun o ho W hW => by unfold execOp; simp only [ho]; go_simp) HDZ.out ?_
                            simp only [Act.put, List.setIfInBounds_toArray, List.set_cons_zero, List.set_cons_succ]
                            refine anyH_pureG 8 (d := 10) (op := .assign (.tmp 123)) (gd := none) (pt) (by rfl) (fun o ho => wanted_plain ho _) (by kernel_rfl) (by kernel_rfl) (by kernel_rfl) (fun _ _ _ h => h) (fun o ho W hW => by unfold execOp; simp only [ho]; go_simp) HDZ.out ?_
                            simp only [Act.put, List.setIfInBounds_toArray, List.set_cons_zero, List.set_cons_succ]
                            refine wpAnyH_done (by kernel_rfl) ?_ _
                            obtain ⟨Y, hY, hbsY, hlsY⟩ := step_lists HBS0.out HLS0.out HSZ.out HKZ.out HOV.out HOT.out (.inr HVF.out) HUF.out HNE.out
                            have HPN := Lib.hid (show BrR w d (k + 1) (.pointer (some ⟨sb', 0, none⟩)) pv pt wz from ⟨Y, sb', _, _, _, rfl, hbsY.mono (by omega), HPSN.out, hlsY, by have := wo_len Hl ds; have := HLL.out.1; omega, by have := HLL.out.2; simp only [List.length_append, List.length_cons, List.length_nil]; omega, HW0.out.trans (HBZ.out.mono (Nat.le_refl _))⟩)
                            clear hbsY hlsY hY
                            go_wp2_with fail
                            go_meet
                            case rel => exact ⟨rfl, HPN⟩
                    · rw [show decide (ds ∈ Hl) = false from by simpa using hm] at HH
                      have HPSN := Lib.hid (HPS.out.delx ds HDds.out (by rw [HXE.out]; decide) fun _ => hm)
                      clear hm
                      go_wp2_with (first | (refine wpList_runE (by rfl) (.agg (cellsOf ds).toArray) (exec_loadE HD13.out HDds.out (x := .tmp 13) (by rfl) _ rfl) ?_))
                      refine HH.out.mono ?_
                      rintro e8c w8c ⟨rfl, hb8c⟩
                      have HBS8c := Lib.hid (HBS8.out.below hb8c)
                      have HLS8c := Lib.hid (HLS8.out.below hb8c)
                      have HW8c := Lib.hid (HW8.out.trans (hb8c.mono HW8.out.size))
                      clear hb8c HH
                      have HPN := Lib.hid (show BrR w d (k + 1) (.pointer (some ⟨sb', 0, none⟩)) (.slice va vn vcap) (.slice ta tn tcap) w8c from ⟨_, sb', _, _, _, rfl, HBS8c.out.mono (by omega), HPSN.out, HLS8c.out, by have := HLL.out.1; omega, by have := HLL.out.2; omega, HW8c.out⟩)
                      go_wp2_with fail
                      go_meet
                      case rel => exact ⟨rfl, HPN⟩
                  · have hx5' : (x == 5) = false := by simp [hx5]
                    have HPSN := Lib.hid (HPS.out.delx ds HDds.out (by rw [HXE.out]; exact hx0) fun e => absurd (HXE.out.symm.trans e) hx5)
                    have HPN := Lib.hid (show BrR w d (k + 1) (.pointer (some ⟨sb', 0, none⟩)) (.slice va vn vcap) (.slice ta tn tcap) w8 from ⟨_, sb', _, _, _, rfl, HBS8.out.mono (by omega), HPSN.out, HLS8.out, by have := HLL.out.1; omega, by have := HLL.out.2; omega, HW8.out⟩)
                    go_wp2_with fail
                    go_meet
                    case rel => exact ⟨rfl, HPN⟩
            · by_cases h5 : kd = 5
              · as_aux_lemma =>
                  subst h5
                  have HFU := Lib.hid (HBS7.out.dx.fuse n HOP.out.s4)
                  have HFT := Lib.hid (show ∀ w8, Dx (fun j => X j ∨ j = X12 ∨ j = X13) w.heap.size d (60 * k + 60) (A.fused n).1 w8 → Below w.heap.size w7 w8 → KpD (fun j => X j ∨ j = X12 ∨ j = X13) w7 w8 → BrR w d (k + 1) (.pointer (some ⟨sb', 0, none⟩)) (.slice va vn vcap) (.slice ta tn tcap) w8 from fun w8 h1 h2 h3 => ⟨_, sb', _, _, _, rfl, (HBS7.out.toE h1 h3).mono (by omega), HPS.out.fused n, HLS7.out.kp h3 fun j hj => hj, by have := HLL.out.1; omega, by have := HLL.out.2; omega, HB07.out.trans h2⟩)
                  clear h0 h1
                  go_wp2_with fail
                  refine HFU.out.mono ?_
                  rintro e8 w8 ⟨rfl, hx8, hb8, hk8⟩
                  have HPN := Lib.hid (HFT.out w8 hx8 hb8 hk8)
                  clear hx8 hb8 hk8 HFU HFT
                  go_wp2_with fail
                  go_meet
                  case rel => exact ⟨rfl, HPN⟩
              · by_cases h6 : kd = 6
                · as_aux_lemma =>
                    subst h6
                    have HC1 := Lib.hid (HBS7.out.dx.crash n q (by omega))
                    clear h0 h1 h5
                    go_wp2_with fail
                    refine HC1.out.mono ?_
                    rintro e8 w8 ⟨rfl, hx8, hb8, hk8⟩
                    have HX8 := Lib.hid hx8
                    have HW8 := Lib.hid (HB07.out.trans hb8)
                    have HB8 := Lib.hid hb8
                    have HK8 := Lib.hid hk8
                    have HO8 := Lib.hid (show OpC w8 X12 6 s (.slice za zn zc) n q from HOC.out.kp hk8 (.inr (.inl rfl)))
                    clear hx8 hb8 hk8 HC1 y0 y1 y2 y3 y4
                    obtain ⟨y0, y1, y2, y3, y4⟩ := HO8.out.cells
                    have HP8 := Lib.hid (show PSt (A.crash n q) Hl Sl from HPS.out.crash n q)
                    have HS8 := Lib.hid (show w7.heap.size ≤ w8.heap.size from HB8.out.size)
                    have hq4 : wrap64 ((IntKind.u64.wrap q).tmod 4) ≤ 9223372036854775807 := by unfold wrap64; omega
                    cases hq2 : (q.tmod 2 == 1) with
                    | true =>
                      have HFU := Lib.hid (HX8.out.fuse (wrap64 ((IntKind.u64.wrap q).tmod 4)) hq4)
                      clear hq4
                      go_wp2_with fail
                      refine HFU.out.mono ?_
                      rintro e9 w9 ⟨rfl, hx9, hb9, hk9⟩
                      have HX9 := Lib.hid hx9
                      have HW9 := Lib.hid (HW8.out.trans hb9)
                      have HK9 := Lib.hid (HK8.out.trans hk9)
                      have HS9 := Lib.hid (Nat.le_trans HS8.out hb9.size)
                      have HO9 := Lib.hid (show OpC w9 X12 6 s (.slice za zn zc) n q from HO8.out.kp hk9 (.inr (.inl rfl)))
                      have HP9 := Lib.hid (show PSt ((A.crash n q).fused (wrap64 ((IntKind.u64.wrap q).tmod 4))).1 Hl Sl from HP8.out.fused _)
                      have HN9 := Lib.hid (bnew_any HX9.out (by omega) HW9.out.size)
                      clear hx9 hb9 hk9 HFU y0 y1 y2 y3 y4
                      go_wp2_with fail
                      refine HN9.out.mono ?_
                      rintro e10 w10 ⟨⟨v10, rfl⟩, hx10, hb10, hk10⟩
                      have HX10 := Lib.hid hx10
                      have HW10 := Lib.hid (HW9.out.trans hb10)
                      have HK10 := Lib.hid (HK9.out.trans hk10)
                      have HS10 := Lib.hid (Nat.le_trans HS9.out hb10.size)
                      have HO10 := Lib.hid (show OpC w10 X12 6 s (.slice za zn zc) n q from HO9.out.kp hk10 (.inr (.inl rfl)))
                      have HP10 := Lib.hid HP9.out.nw
                      obtain ⟨y0, y1, y2, y3, y4⟩ := HO10.out.cells
                      clear hx10 hb10 hk10 HN9
                      go_wp2_with fail
                      refine (HX10.out.crash _ _ (by omega)).mono ?_
                      rintro e11 w11 ⟨rfl, hx11, hb11, hk11⟩
                      have HX11 := Lib.hid hx11
                      have HW11 := Lib.hid (HW10.out.trans hb11)
                      have HK11 := Lib.hid (HK10.out.trans hk11)
                      have HS11 := Lib.hid (Nat.le_trans HS10.out hb11.size)
                      have HN11 := Lib.hid (bnew_on HX11.out (by omega) HW11.out.size rfl (show (-1 : Int) < 0 by decide))
                      clear hb11 hk11 y0 y1 y2 y3 y4
                      go_wp2_with fail
                      refine HN11.out.mono ?_
                      rintro e12 w12 ⟨rfl, hbs12, hb12, hk12⟩
                      have HPN := Lib.hid (show BrR w d (k + 1) (.pointer (some ⟨w11.heap.size, 0, none⟩)) (.slice va vn vcap) (.slice ta tn tcap) w12 from ⟨_, w11.heap.size, _, _, _, rfl, hbs12.mono (by omega), (HP10.out.crash _ _).nw, HLS7.out.sb HS11.out (HK11.out.trans hk12) (fun j hj => .inl hj), by have := HLL.out.1; omega, by have := HLL.out.2; omega, HW11.out.trans hb12⟩)
                      clear hbs12 hb12 hk12 HN11 hx11
                      go_wp2_with fail
                      go_meet
                      case rel => exact ⟨rfl, HPN⟩
                    | false =>
                      have HN8 := Lib.hid (bnew_on HX8.out (by omega) HW8.out.size rfl (show (-1 : Int) < 0 by decide))
                      clear hq4
                      go_wp2_with fail
                      refine HN8.out.mono ?_
                      rintro e12 w12 ⟨rfl, hbs12, hb12, hk12⟩
                      have HPN := Lib.hid (show BrR w d (k + 1) (.pointer (some ⟨w8.heap.size, 0, none⟩)) (.slice va vn vcap) (.slice ta tn tcap) w12 from ⟨_, w8.heap.size, _, _, _, rfl, hbs12.mono (by omega), HP8.out.nw, HLS7.out.sb HS8.out (HK8.out.trans hk12) (fun j hj => .inl hj), by have := HLL.out.1; omega, by have := HLL.out.2; omega, HW8.out.trans hb12⟩)
                      clear hbs12 hb12 hk12 HN8
                      go_wp2_with fail
                      go_meet
                      case rel => exact ⟨rfl, HPN⟩
                · as_aux_lemma =>
                    have h0' : (kd == 0) = false := by simp [h0]
                    have h1' : (kd == 1) = false := by simp [h1]
                    have h5' : (kd == 5) = false := by simp [h5]
                    have h6' : (kd == 6) = false := by simp [h6]
                    have HPN := Lib.hid (show BrR w d (k + 1) (.pointer (some ⟨sb', 0, none⟩)) (.slice va vn vcap) (.slice ta tn tcap) w7 from ⟨_, sb', _, _, _, rfl, HBS7.out.mono (by omega), HPS.out, HLS7.out, by have := HLL.out.1; omega, by have := HLL.out.2; omega, HB07.out⟩)
                    go_wp2_with fail
                    go_meet
                    case rel => exact ⟨rfl, HPN⟩
        case rest =>
          obtain ⟨rfl, HP⟩ := hcut
          obtain ⟨X2, sb2, A2, H2, S2, rfl, hbs, hps, hls, hl1, hl2, hbw⟩ := HP.out
          clear HP HBS HPS HLS HLL HBW HOP HB5 HBX HS5 HX12 HB6 HD7 HX13 HB7 HOC HXX HXL HBS7 HLS7 y0 y1 y2 y3 y4 HRZ HDzz HDds
          obtain ⟨va, vn, vcap, rfl, vln, vnc, vcm, vnil, vdr⟩ := OwnD.form hls.oh hps.dh
          obtain ⟨ta, tn, tcap, rfl, tln, tnc, tcm, tnil, tdr⟩ := OwnD.form hls.ou hps.ds
          have HP2 := Lib.hid (show BrR w d (k + 1) (.pointer (some ⟨sb2, 0, none⟩)) (.slice va vn vcap) (.slice ta tn tcap) wc from ⟨X2, sb2, A2, H2, S2, rfl, hbs, hps, hls, hl1, hl2, hbw⟩)
          obtain ⟨SS, k1, k2, -⟩ := hbs.dx.ex
          have HDN := Lib.hid (ddown_c k1)
          rw [k2.down] at HDN
          have HVR := Lib.hid vdr
          have HTR := Lib.hid tdr
          have hvn : vn ≤ 61 := by omega
          have htn : tn ≤ 61 := by omega
          have HBS := Lib.hid hbs
          have HPS := Lib.hid hps
          have HBW := Lib.hid hbw
          clear hls hl1 hl2 vln vnc vcm vnil vdr tln tnc tcm tnil tdr k1 k2
          cases hdn : A2.down with
          | true =>
            as_aux_lemma =>
              rw [hdn] at HDN
              clear hbs hps hbw hdn
              go_wp2_with fail
              refine HDN.out.mono ?_
              rintro e8 w8 ⟨rfl, rfl⟩
              clear HDN
              go_wp2_with fail
              go_roundw
              case rel => exact ⟨k + 1, by omega, by omega, by go_num, HP2⟩
              case measure => simp [intOf]; omega
          | false =>
            as_aux_lemma =>
              rw [hdn] at HDN
              obtain ⟨ls, hl1, hl2, hl3, hl4⟩ := hps.told hdn
              have HLB := Lib.hid (show ls.length ≤ 100000 from by
                have q1 := nowlen hbs.dx
                have q2 : (namesF A2.now ⟨#[98, 47]⟩).length ≤ A2.now.length := by
                  unfold namesF
                  refine Nat.le_trans (List.length_filter_le ..) ?_
                  rw [List.length_map]; exact Nat.le_refl _
                rw [hl1, List.length_map] at q2
                omega)
              have HLI := Lib.hid (blist_c hbs hdn ls hl1 hl2 (by omega))
              have HL2 := Lib.hid hl2
              have HL3 := Lib.hid hl3
              have HL4 := Lib.hid hl4
              clear hbs hps hdn hl1 hl2 hl3 hl4 hbw
              go_wp2_with fail
              refine HDN.out.mono ?_
              rintro e8 w8 ⟨rfl, rfl⟩
              clear HDN
              go_wp2_with fail
              refine HLI.out.mono ?_
              rintro e9 w9 ⟨lv, rfl, hol, hb9⟩
              obtain ⟨la, ln, lcap, rfl, lln, lnc, lcm, lnil, ldr⟩ := OwnD.form hol HL2.out
              have HLR := Lib.hid ldr
              have HP9 := Lib.hid (HP2.out.below hb9)
              have HBS9 := Lib.hid (HBS.out.below hb9)
              have HVR9 := Lib.hid (HVR.out.below hb9)
              have HTR9 := Lib.hid (HTR.out.below hb9)
              have HTB9 := Lib.hid ((HT.out.below HBW.out HPW.out).below hb9 (Nat.lt_of_lt_of_le HPW.out HBW.out.size))
              have HPW9 := Lib.hid (show 0 < w9.heap.size from Nat.lt_of_lt_of_le HPW.out (Nat.le_trans HBW.out.size hb9.size))
              have hln : ln ≤ 100000 := by have := HLB.out; omega
              clear hol hb9 HLI HP2 HBS HVR HTR lln lnc lcm lnil ldr HBW
              go_wp2_with fail
              go_loopw [182] (fun i wr => ∃ j : Nat, j ≤ ln ∧ i = .int .i64 j ∧ Hid (Below w9.heap.size w9 wr)) (fun i _ => ln - (intOf i).toNat)
              case atStart => exact ⟨0, Nat.zero_le _, rfl, Below.refl _ _⟩
              case round =>
                obtain ⟨j, hj, rfl, HBL⟩ := hrel
                by_cases hjn : j < ln
                · obtain ⟨bl, ol, rfl, hbl, hcl⟩ := HLR.out.at j hjn
                  obtain ⟨x, hx⟩ : ∃ x, x = ls.getD j [] := ⟨_, rfl⟩
                  rw [← hx] at hcl
                  have HDx := Lib.hid (show D32 x from by rw [hx]; exact D32.get HLR.out.2.1 j (by rw [HLR.out.1]; exact hjn))
                  have HMx := Lib.hid (show x ∈ ls from List.mem_of_mem_take (i := j + 1) (by rw [take_stepE HLR.out.1 hjn, ← hx]; exact List.mem_append_right _ List.mem_cons_self))
                  have kI := fun W => run_dindex dtA W bl ol ln lcap j hjn
                  have HLD := Lib.hid (run_dload dtA wr bl (ol + j * 32) x HDx.out (fun j v hv => (HBL.out.cell (p := ⟨bl, ol + _ + j, none⟩) hbl).trans (hcl j v hv)))
                  have hszl := HBL.out.size
                  have K2 := Lib.hid (fun (Y : Obj) (hY : Y = .cells (cellsOf zs32).toArray 37 (0, 0)) => show Brow ((wr.alloc Y).setRow wr.heap.size (cellsOf x).toArray) wr.heap.size 37 x ∧ Below wr.heap.size wr ((wr.alloc Y).setRow wr.heap.size (cellsOf x).toArray) from by
                    subst hY
                    exact ⟨(Brow.new wr 37 zs32).setRow, ((Below.refl _ _).alloc (Nat.le_refl _) _).setRow (Nat.le_refl _) _⟩)
                  clear hcl hx
                  go_upto_region 49 with (first | (refine wpList_loadg 37 _ (by rfl) (by rfl) (.pointer (some ⟨bl, ol + j * 32, none⟩)) (by rfl) (.agg (cellsOf x).toArray) HLD.out ?_) | (refine wpList_store_row (by rfl) 37 _ _ (by rfl) wr.heap.size (cellsOf x).toArray (by rfl) (by rfl) 37 (cellsOf zs32).toArray (by exact heap_new _ _) (infoE HDx.out) (zsizeE HDx.out) (cellsOf_all _) ?_))
                  refine gen_code (F := fun W => Brow W wr.heap.size 37 x ∧ Below wr.heap.size wr W ∧ wr.heap.size < W.heap.size) ⟨(K2.out _ rfl).1, (K2.out _ rfl).2, (K2.out _ rfl).1.lt⟩ ?_
                  rintro w10 ⟨hx10, hb10, hlt10⟩
                  obtain ⟨X22, hX22⟩ : ∃ X22, X22 = wr.heap.size := ⟨_, rfl⟩
                  rw [← hX22] at hx10 hlt10 ⊢
                  have HX10 := Lib.hid hx10
                  have HB10 := Lib.hid (HBL.out.trans (hb10.mono hszl))
                  have HLT := Lib.hid hlt10
                  have HWH := Lib.hid (bwhole_c (HBS9.out.below HB10.out) x HDx.out (HTB9.out.below HB10.out HPW9.out))
                  rw [show (ckA A2 (fileB x) x == 0) = true from by rw [(HL3.out x HMx.out).1]; rfl] at HWH
                  clear hx10 hb10 hlt10 K2 kI hX22 HBL
                  go_wp2_with (first | (refine wpList_load_row (by rfl) 37 _ (by rfl) X22 (by rfl) _ (cellsOf x).toArray (0, 0) _ HX10.out Tryd.underlying37 (by rfl) (infoE HDx.out) ?_))
                  refine HWH.out.mono ?_
                  rintro e11 w11 ⟨rfl, hb11⟩
                  have HX11 := Lib.hid (HX10.out.below hb11 HLT.out)
                  have HB11 := Lib.hid (HB10.out.trans (hb11.mono HB10.out.size))
                  have HLT1 := Lib.hid (Nat.lt_of_lt_of_le HLT.out hb11.size)
                  have HH1 := Lib.hid (has_c vn H2 va vcap x HDx.out w11 (HVR9.out.below HB11.out) (by omega))
                  clear hb11 HWH
                  by_cases hm : x ∈ H2
                  · rw [show decide (x ∈ H2) = true from by simpa using hm] at HH1
                    clear hm
                    go_wp2_with (first | (refine wpList_runE (by rfl) (.agg (cellsOf x).toArray) (exec_loadE HX11.out HDx.out (x := .tmp 22) (by rfl) _ rfl) ?_))
                    refine HH1.out.mono ?_
                    rintro e12 w12 ⟨rfl, hb12⟩
                    have HB12 := Lib.hid (HB11.out.trans (hb12.mono HB11.out.size))
                    clear hb12 HH1
                    go_wp2_with fail
                    go_roundw
                    case rel => exact ⟨j + 1, by omega, by go_num, HB12⟩
                    case measure => simp [intOf]; omega
                  · have hms : x ∈ S2 := ((HL3.out x HMx.out).2).resolve_left hm
                    rw [show decide (x ∈ H2) = false from by simpa using hm] at HH1
                    have HMS := Lib.hid hms
                    clear hm hms
                    go_wp2_with (first | (refine wpList_runE (by rfl) (.agg (cellsOf x).toArray) (exec_loadE HX11.out HDx.out (x := .tmp 22) (by rfl) _ rfl) ?_))
                    refine HH1.out.mono ?_
                    rintro e12 w12 ⟨rfl, hb12⟩
                    have HX12 := Lib.hid (HX11.out.below hb12 HLT1.out)
                    have HB12 := Lib.hid (HB11.out.trans (hb12.mono HB11.out.size))
                    have HH2 := Lib.hid (has_c tn S2 ta tcap x HDx.out w12 (HTR9.out.below HB12.out) (by omega))
                    rw [show decide (x ∈ S2) = true from by simpa using HMS.out] at HH2
                    clear hb12 HH1
                    go_wp2_with (first | (refine wpList_runE (by rfl) (.agg (cellsOf x).toArray) (exec_loadE HX12.out HDx.out (x := .tmp 22) (by rfl) _ rfl) ?_))
                    refine HH2.out.mono ?_
                    rintro e13 w13 ⟨rfl, hb13⟩
                    have HB13 := Lib.hid (HB12.out.trans (hb13.mono HB12.out.size))
                    clear hb13 HH2
                    go_wp2_with fail
                    go_roundw
                    case rel => exact ⟨j + 1, by omega, by go_num, HB13⟩
                    case measure => simp [intOf]; omega
                · go_wp2_with fail
                  clear hj hjn
                  go_loopw [205] (fun i wr => ∃ j : Nat, j ≤ vn ∧ i = .int .i64 j ∧ Hid (Below w9.heap.size w9 wr)) (fun i _ => vn - (intOf i).toNat)
                  case atStart => exact ⟨0, Nat.zero_le _, rfl, HBL⟩
                  case round =>
                    clear HBL
                    obtain ⟨j2, hj2, rfl, HBM⟩ := hrel
                    by_cases hjn2 : j2 < vn
                    · obtain ⟨bv, ov, rfl, hbv, hcv⟩ := HVR9.out.at j2 hjn2
                      obtain ⟨x, hx⟩ : ∃ x, x = H2.getD j2 [] := ⟨_, rfl⟩
                      rw [← hx] at hcv
                      have HDx := Lib.hid (show D32 x from by rw [hx]; exact D32.get HVR9.out.2.1 j2 (by rw [HVR9.out.1]; exact hjn2))
                      have HMx := Lib.hid (show x ∈ ls from HL4.out x (List.mem_of_mem_take (i := j2 + 1) (by rw [take_stepE HVR9.out.1 hjn2, ← hx]; exact List.mem_append_right _ List.mem_cons_self)))
                      have kI := fun W => run_dindex dtA W bv ov vn vcap j2 hjn2
                      have HLD := Lib.hid (run_dload dtA wr bv (ov + j2 * 32) x HDx.out (fun j v hv => (HBM.out.cell (p := ⟨bv, ov + _ + j, none⟩) hbv).trans (hcv j v hv)))
                      have hszl := HBM.out.size
                      have K2 := Lib.hid (fun (Y : Obj) (hY : Y = .cells (cellsOf zs32).toArray 37 (0, 0)) => show Brow ((wr.alloc Y).setRow wr.heap.size (cellsOf x).toArray) wr.heap.size 37 x ∧ Below wr.heap.size wr ((wr.alloc Y).setRow wr.heap.size (cellsOf x).toArray) from by
                        subst hY
                        exact ⟨(Brow.new wr 37 zs32).setRow, ((Below.refl _ _).alloc (Nat.le_refl _) _).setRow (Nat.le_refl _) _⟩)
                      clear hcv hx
                      go_upto_region 55 with (first | (refine wpList_loadg 37 _ (by rfl) (by rfl) (.pointer (some ⟨bv, ov + j2 * 32, none⟩)) (by rfl) (.agg (cellsOf x).toArray) HLD.out ?_) | (refine wpList_store_row (by rfl) 37 _ _ (by rfl) wr.heap.size (cellsOf x).toArray (by rfl) (by rfl) 37 (cellsOf zs32).toArray (by exact heap_new _ _) (infoE HDx.out) (zsizeE HDx.out) (cellsOf_all _) ?_))
                      refine gen_code (F := fun W => Brow W wr.heap.size 37 x ∧ Below wr.heap.size wr W) (K2.out _ rfl) ?_
                      rintro w10 ⟨hx10, hb10⟩
                      obtain ⟨X24, hX24⟩ : ∃ X24, X24 = wr.heap.size := ⟨_, rfl⟩
                      rw [← hX24] at hx10 ⊢
                      have HX10 := Lib.hid hx10
                      have HB10 := Lib.hid (HBM.out.trans (hb10.mono hszl))
                      have HH1 := Lib.hid (has_c ln ls la lcap x HDx.out w10 (HLR.out.below HB10.out) (by omega))
                      rw [show decide (x ∈ ls) = true from by simpa using HMx.out] at HH1
                      clear hx10 hb10 K2 kI hX24 HBM
                      go_wp2_with (first | (refine wpList_load_row (by rfl) 37 _ (by rfl) X24 (by rfl) _ (cellsOf x).toArray (0, 0) _ HX10.out Tryd.underlying37 (by rfl) (infoE HDx.out) ?_))
                      refine HH1.out.mono ?_
                      rintro e11 w11 ⟨rfl, hb11⟩
                      have HB11 := Lib.hid (HB10.out.trans (hb11.mono HB10.out.size))
                      clear hb11 HH1
                      go_wp2_with fail
                      go_roundw
                      case rel => exact ⟨j2 + 1, by omega, by go_num, HB11⟩
                      case measure => simp [intOf]; omega
                    · have HPE := Lib.hid (HP9.out.below HBM.out)
                      clear HBM
                      go_wp2_with fail
                      go_roundw
                      case rel => exact ⟨k + 1, by omega, by omega, by go_num, HPE⟩
                      case measure => simp [intOf]; omega
      · have HE := Lib.hid (hbw.trans (hb5.mono hbw.size))
        clear hop hbw hbx hb5 HBS HPS HLS HLL HBW
        by_cases h60 : k < 60
        · have hk6 : ¬ 60 ≤ (k : Int) := by omega
          have hz3 : 3000 < (zn : Int) := by omega
          go_upto_region 12 with fail
          rw [← hX12]
          rw [← hw5]
          clear hX12 hw5 c0 c1 c2 c3 c4 hix
          go_wp2_with fail
          go_ret
          exact ⟨rfl, HE.out⟩
        · have hk6 : 60 ≤ (k : Int) := by omega
          go_upto_region 12 with fail
          rw [← hX12]
          rw [← hw5]
          clear hX12 hw5 c0 c1 c2 c3 c4 hix
          go_wp2_with fail
          go_ret
          exact ⟨rfl, HE.out⟩
    · have HE := Lib.hid (show Below w.heap.size w wr from by obtain ⟨X, sb', A, Hl, Sl, -, -, -, -, -, -, h⟩ := HP.out; exact h)
      clear HP
      go_wp2_with fail
      go_ret
      exact ⟨rfl, HE.out⟩
end Go.Proofs.YtmomdfmilelilaaDoor
