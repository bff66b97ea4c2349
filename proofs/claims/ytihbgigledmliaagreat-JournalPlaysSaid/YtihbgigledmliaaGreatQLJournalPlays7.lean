/-
  What is used of: Jpn Jpq.
-/
import Derived.Test.YtihbgigledmliaaGreatQLJournalPlays6
import Derived.WalkKit
import Derived.WalkSpells
import Derived.WalkLawsBesides
import Derived.Lib.Hide
import Derived.Laws.BitsAllLaws
import Derived.Laws.AppendOwnNone
import Derived.BigQuiet
import Derived.Deep.QuietTactic
import Derived.Deep.MidRow
import Derived.Deep.RegionWith
import Derived.OrdersHeld
import Derived.Deep.RegionHeld
import Derived.RowKit
import Derived.Deep.RegionHeld3
import Derived.Deep.DrawnRows
import Derived.ProofKit
import Derived.OpenShut
import Derived.ShutString
import Derived.ChangeOld
import Derived.SizedLaws
import Derived.Laws.CopyOwn
import Derived.Laws.Rows
import Derived.Laws.Tables
import Derived.StillTailTactics
import Derived.Deep.CutRange
import Derived.Great.BuildSlice
import Derived.Maps.OwnSet
import Derived.RangeFuncFrom
import Derived.RangeFuncCalls
import Derived.RangeFuncLeaves
import Derived.OwnWalkIn
import Derived.TacticsInMore
import Derived.LoopNIn
import Derived.LoopIn
import Derived.Shelf.LaysM
import Derived.Shelf.Strconv.Clone
import Derived.Shelf.Sort.Plain
import Derived.Shelf.Strings.Prefix
import Derived.Shelf.Slices.In.SortNone
import Derived.Shelf.Bytes.SlEqualAll
import Derived.Shelf.Bytes.Small
import Derived.Maps.AppendAt
import Derived.Orders
import Derived.Sort.OwnSorted
import Derived.Maps.RangeWalk
import Derived.Lib.AppendZerosOnto
import Derived.Deep.Slices
import Derived.Deep.Fields
import Derived.Deep.Upon
import Derived.Lib.SlBytesConst
import Derived.Deep.CutBlock
namespace Go.Proofs.YtihbgigledmliaaGreat
open Go.RowKit
set_option linter.unusedVariables false
set_option maxRecDepth 100000 in
set_option maxHeartbeats 32000000 in
theorem jplays_bad (room : Int) (nm : ByteArray) (a2 : Option Addr) (len2 cap2 : Nat) (z2 : List (List FV)) (w : World) (r0 : (Lit.int .i64 room).wf = true) (r1 : nm.size ≤ maxLen) (hnm : nm.size = 0 ∨ 160 ≤ nm.size) (r2 : StsIn w [.i, .b, .bb, .i, .i] a2 len2 cap2 z2) :
  Calls Tryz.prog 3 #[.int .i64 room, .string nm, .slice a2 len2 cap2] w fun e w' => e = .returned (.bool true) ∧ Below w.heap.size w w' := by
 have hlc := r2.2.2.1
 have hcm := r2.2.2.2.1
 have HR2 := Lib.hid r2
 clear r2
 obtain ⟨R, hR4, hR⟩ := modNJ room 4000 (by omega) (by omega)
 rw [show ((4000 : Nat) : Int) = 4000 from rfl] at hR
 have HAW := Lib.hid (awake10_c w)
 by_cases h200 : 200 < nm.size
 ·
  have h2 : (200 : Int) < (nm.size : Int) := by omega
  clear hR hR4
  go_enter Tryz.func3, Tryz.ntmps3
  go_wp2_with fail
  refine HAW.out.mono ?_
  rintro e1 w1 ⟨rfl, hb1⟩
  have HAW2 := Lib.hid (awake10_c w1)
  have HB1 := Lib.hid hb1
  clear hb1 HAW
  go_wp2_with fail
  refine HAW2.out.mono ?_
  rintro e2 w2 ⟨rfl, hb2⟩
  have HB2 := Lib.hid (HB1.out.trans (hb2.mono HB1.out.size))
  clear hb2
  go_wp2_with fail
  go_ret
  exact ⟨rfl, HB2.out⟩
 ·
  have h2 : ¬ (200 : Int) < (nm.size : Int) := by omega
  have HNL := Lib.hid (show nm.size ≤ 200 from by omega)
  clear h200
  go_enter Tryz.func3, Tryz.ntmps3
  go_wp2_with fail
  refine HAW.out.mono ?_
  rintro e1 w1 ⟨rfl, hb1⟩
  have HB1 := Lib.hid hb1
  have HD := Lib.hid (dnew_c (R : Int) w1 (by omega) (by omega))
  clear hb1 HAW
  go_wp2_with fail
  (try rw [hR])
  refine HD.out.mono ?_
  rintro e2 w2 ⟨rfl, hk2, hb2⟩
  obtain ⟨d, hd⟩ : ∃ d, d = w1.heap.size := ⟨_, rfl⟩
  rw [← hd] at hk2 ⊢
  have HRN := Lib.hid (rnew_c ((newS (R : Int)).own d) (R : Int) w2 (fun k hk => (hk2.ownLt hk).2))
  have HK2 := Lib.hid hk2
  have HB2 := Lib.hid hb2
  have HDW := Lib.hid hd
  have HR4 := Lib.hid hR4
  clear hk2 hb2 HD hd hR4
  go_wp2_with fail
  refine HRN.out.mono ?_
  rintro e3 w3 ⟨rfl, hd3, hb3⟩
  obtain ⟨m, hm⟩ : ∃ m, m = w2.heap.size := ⟨_, rfl⟩
  rw [← hm] at hd3 ⊢
  have hwd : w.heap.size ≤ d := by have := HB1.out.size; have := HDW.out; omega
  have hdm : d ≤ m := by have := HB2.out.size; have := HDW.out; omega
  have HRO := Lib.hid (show Rel (fun _ => False) w.heap.size d m (3 * 0) ⟨(R : Int), -1, false, [], [], []⟩ ⟨(R : Int), -1, false, [], [], []⟩ w3 from ⟨⟨newS (R : Int), .slice none 0 0, by
   have e1 := HK2.out
   rw [HDW.out] at e1 hwd ⊢
   exact DK.base_leJ (e1.below hb3) HB1.out.size, anewS (R : Int) (by have := HR4.out; omega) (by have := HR4.out; omega), by
   have e2 := hd3.base_leJ (B' := w.heap.size) (by omega)
   exact e2.sta (Sta.refl _ _) (fun j hj => .inl (by rcases hj with hj | hj; exact hj; exact hj.elim)), fun j hj => hj.elim⟩, fun j hj => hj.elim⟩)
  have HBC3 := Lib.hid (HB1.out.trans ((HB2.out.mono HB1.out.size).trans (hb3.mono (Nat.le_trans HB1.out.size HB2.out.size))))
  have HRP3 := Lib.hid (Rp.start (R := 4000) (R : Int) (by omega) (by have := HR4.out; omega))
  have HLB3 := Lib.hid (show Lb 0 ⟨(R : Int), -1, false, [], [], []⟩ from ⟨Nat.le_refl _, Nat.le_refl _⟩)
  obtain ⟨A3, hA3⟩ : ∃ A3 : Ad, A3 = ⟨(R : Int), -1, false, [], [], []⟩ := ⟨_, rfl⟩
  rw [← hA3] at HRO HRP3 HLB3
  have HA3 := Lib.hid hA3
  obtain ⟨K3, hK3⟩ : ∃ K3, K3 = 0 := ⟨_, rfl⟩
  rw [← hK3] at HRO HLB3
  have HK3 := Lib.hid hK3
  clear hd3 hb3 HRN HK2 HB1 HB2 HDW hm hwd hdm hA3 hK3 HR4 hR
  clear HA3
  have POB := Lib.hid (popen_bad nm d w3 (by have := HNL.out; omega) hnm)
  have ROB := Lib.hid (ropen_bad nm m w3 (by have := HNL.out; omega) hnm)
  have HNB := Lib.hid hnm
  have HP0 := Lib.hid (show PlJ w d m 0 nm (.pointer none) (.pointer none) w3 from ⟨A3, K3, HRP3.out, HLB3.out, by have := HK3.out; omega, HBC3.out, .inl ⟨rfl, rfl, HRO.out⟩⟩)
  clear HRO HLB3 HRP3 HBC3 HK3 hnm
  go_wp2_with fail
  refine POB.out.mono ?_
  rintro eo wo ⟨rfl, e2⟩
  subst wo
  clear POB
  go_wp2_with fail
  refine ROB.out.mono ?_
  rintro eo wo ⟨rfl, e2⟩
  subst wo
  clear ROB
  go_wp2_with fail
  go_loopw [10, 13, 69] (fun jv kv i wr => ∃ k : Nat, k ≤ len2 ∧ k ≤ 40 ∧ i = .int .i64 k ∧ Hid (PlJ w d m k nm jv kv wr)) (fun _ _ i _ => len2 - (intOf i).toNat)
  case atStart => exact ⟨0, Nat.zero_le _, by omega, rfl, HP0⟩
  case round =>
   clear HP0
   obtain ⟨k, hk, hk40, rfl, HP⟩ := hrel
   by_cases hkn : k < len2
   ·
    obtain ⟨b, off, kd, s, ra, rn, rc, L, n, q, rfl, hb, hop⟩ := HR2.out.opj hkn
    obtain ⟨A, K, hrp, hlb, hK, hbw, hor⟩ := HP.out
    clear HP
    obtain ⟨za, zn, zc, zz⟩ := s
    have HOPJ := Lib.hid hop
    have HRP0 := Lib.hid hrp
    have HLB0 := Lib.hid hlb
    have HKK := Lib.hid hK
    have HKL := Lib.hid hk40
    have HOR := Lib.hid hor
    have c0 := (hbw.cell (p := ⟨b, off + k * 5, none⟩) hb).trans hop.c0
    have c1 := (hbw.cell (p := ⟨b, off + k * 5 + 1, none⟩) hb).trans hop.c1
    have c2 := (hbw.cell (p := ⟨b, off + k * 5 + 2, none⟩) hb).trans hop.c2
    have c3 := (hbw.cell (p := ⟨b, off + k * 5 + 3, none⟩) hb).trans hop.c3
    have c4 := (hbw.cell (p := ⟨b, off + k * 5 + 4, none⟩) hb).trans hop.c4
    have hix := fun W => run_opj_idx W b off len2 cap2 k hkn
    simp only at c1
    obtain ⟨w5, hw5⟩ : ∃ w5, w5 = wr.alloc (.cells #[.int .i64 kd, .slice za zn zc, .slice ra rn rc, .int .i64 n, .int .i64 q] 40) := ⟨_, rfl⟩
    have hb5 : Below wr.heap.size wr w5 := by rw [hw5]; exact (Below.refl _ _).alloc (Nat.le_refl _) _
    obtain ⟨X1, hX1⟩ : ∃ X1, X1 = wr.heap.size := ⟨_, rfl⟩
    have hbx : OpK w5 X1 kd (.slice za zn zc) (.slice ra rn rc) n q := by rw [hw5, hX1]; exact heap_alloc_new wr _
    obtain ⟨y0, y1, y2, y3, y4⟩ := hbx.cells
    have hsz5 : w5.heap.size = X1 + 1 := by rw [hw5, hX1]; simp
    have HOK := Lib.hid hbx
    have HB5 := Lib.hid hb5
    have HWR := Lib.hid hbw
    have HX5 := Lib.hid (show X1 = wr.heap.size ∧ w5.heap.size = X1 + 1 from ⟨hX1, hsz5⟩)
    have HBW := Lib.hid (show Below w.heap.size w w5 from hbw.trans (hb5.mono hbw.size))
    have HSM := Lib.hid (small_c ra rn rc L w5 (show BssIn w5 ra rn rc L from by
     obtain ⟨h1, h2, h3, h4, h5, h6⟩ := hop.s2
     exact ⟨h1, h2, h3, h4, h5.imp id fun ⟨b, o, e, hlt, hc⟩ => ⟨b, o, e, Nat.lt_of_lt_of_le hlt HBW.out.size, fun i s hs => (HBW.out.cell (p := ⟨b, o + i, none⟩) hlt).trans (hc i s hs)⟩, fun s hs => ⟨(h6 s hs).1.below HBW.out, (h6 s hs).2⟩⟩))
    clear hrp hlb hK hbw hor hop hbx hb5 hsz5 hb
    by_cases h40 : k < 40
    ·
     have hk4 : ¬ 40 ≤ (k : Int) := by omega
     go_upto_region 15 with fail
     rw [← hX1]
     rw [← hw5]
     clear hX1 hw5 c0 c1 c2 c3 c4 hix
     go_wp2_with fail
     refine HSM.out.mono ?_
     rintro e6 w6 ⟨r, rfl, e2, hsm⟩
     subst w6
     clear HSM
     cases r with
     | true =>
      have HSL := Lib.hid (hsm rfl)
      clear hsm
      by_cases hzn : zn ≤ 2000
      ·
       have hz3 : ¬ 2000 < (zn : Int) := by omega
       by_cases h0 : kd = 0
       ·
        as_aux_lemma =>
         subst h0
         have hor := HOR.out
         clear HOR
         rcases hor with hor | hor
         ·
          obtain ⟨rfl, rfl, hrl⟩ := hor
          have HRL := Lib.hid (hrl.below HB5.out)
          have HBC := HBW
          have HRP := HRP0
          have HLB := HLB0
          have HK9 := Lib.hid (show K ≤ 12 * (k + 1) + 12 from by have := HKK.out; omega)
          clear hrl
          go_upto_region 19 with fail
          obtain ⟨w104, hw104⟩ : ∃ W, W = World.drew w5 := ⟨_, rfl⟩
          have hb104 : Below w5.heap.size w5 w104 := by rw [hw104]; exact below_drewN' _ w5 1
          have HRLN := Lib.hid (HRL.out.below hb104)
          have HBCN := Lib.hid (HBC.out.trans (hb104.mono HBC.out.size))
          refine anyH_begin (S := fun _ => True) (by kernel_rfl) ?_
          rw [← hw104]
          clear hw104 hb104 HRL HBC
          have HRL := HRLN
          have HBC := HBCN
          clear HRLN HBCN
          refine aP 0 (d := 100) (op := .move (.tmp 13)) (.pointer none) trivial ?_
          simp only [Act.put, sT, sZ, sS]
          refine anyH_pureG 1 (d := 101) (op := .binOp .neq 35 (.tmp 100) (.const (.pointer none)) 35) (gd := none) (.bool false) (by rfl) wantedP (by kernel_rfl) (by kernel_rfl) (by kernel_rfl) (fun _ _ _ h => h) (fun o1 ho W hW => by unfold execOp; simp only [ho]; go_simp; try simp) trivial ?_
          simp only [Act.put, sT, sZ, sS]
          refine aP 2 (d := 102) (op := .move (.tmp 101)) (.bool false) trivial ?_
          simp only [Act.put, sT, sZ, sS]
          refine anyH_skip 3 (d := 103) (op := .move (.tmp 10)) (gd := some (2, true)) (by rfl) (fun o ho => by simp only [Region.wanted, ho]; rfl) (by kernel_rfl) (by kernel_rfl) (by kernel_rfl) (fun _ _ _ h => h) trivial ?_
          simp only [Act.put, sT, sZ, sS]
          refine anyH_skip 4 (d := 104) (op := .fieldAddr 40 (.tmp 16) 1) (gd := some (2, true)) (by rfl) (fun o ho => by simp only [Region.wanted, ho]; rfl) (by kernel_rfl) (by kernel_rfl) (by kernel_rfl) (fun _ _ _ h => h) trivial ?_
          simp only [Act.put, sT, sZ, sS]
          refine anyH_skip 5 (d := 105) (op := .load 38 (.tmp 104)) (gd := some (2, true)) (by rfl) (fun o ho => by simp only [Region.wanted, ho]; rfl) (by kernel_rfl) (by kernel_rfl) (by kernel_rfl) (fun _ _ _ h => h) trivial ?_
          simp only [Act.put, sT, sZ, sS]
          refine anyH_skip 6 (d := 106) (op := .call { callee := .value (.func 11), args := #[(.tmp 103), (.tmp 105)], argTypes := #[31, 38] }) (gd := some (2, true)) (by rfl) (fun o ho => by simp only [Region.wanted, ho]; rfl) (by kernel_rfl) (by kernel_rfl) (by kernel_rfl) (fun _ _ _ h => h) trivial ?_
          simp only [Act.put, sT, sZ, sS]
          refine anyH_skip 7 (d := 107) (op := .move (.tmp 13)) (gd := some (2, true)) (by rfl) (fun o ho => by simp only [Region.wanted, ho]; rfl) (by kernel_rfl) (by kernel_rfl) (by kernel_rfl) (fun _ _ _ h => h) trivial ?_
          simp only [Act.put, sT, sZ, sS]
          refine anyH_skip 8 (d := 108) (op := .fieldAddr 40 (.tmp 16) 1) (gd := some (2, true)) (by rfl) (fun o ho => by simp only [Region.wanted, ho]; rfl) (by kernel_rfl) (by kernel_rfl) (by kernel_rfl) (fun _ _ _ h => h) trivial ?_
          simp only [Act.put, sT, sZ, sS]
          refine anyH_skip 9 (d := 109) (op := .load 38 (.tmp 108)) (gd := some (2, true)) (by rfl) (fun o ho => by simp only [Region.wanted, ho]; rfl) (by kernel_rfl) (by kernel_rfl) (by kernel_rfl) (fun _ _ _ h => h) trivial ?_
          simp only [Act.put, sT, sZ, sS]
          refine anyH_skip 10 (d := 110) (op := .call { callee := .value (.func 12), args := #[(.tmp 107), (.tmp 109)], argTypes := #[35, 38] }) (gd := some (2, true)) (by rfl) (fun o ho => by simp only [Region.wanted, ho]; rfl) (by kernel_rfl) (by kernel_rfl) (by kernel_rfl) (fun _ _ _ h => h) trivial ?_
          simp only [Act.put, sT, sZ, sS]
          refine anyH_skip 11 (d := 111) (op := .binOp .neq 3 (.tmp 106) (.tmp 110) 3) (gd := some (2, true)) (by rfl) (fun o ho => by simp only [Region.wanted, ho]; rfl) (by kernel_rfl) (by kernel_rfl) (by kernel_rfl) (fun _ _ _ h => h) trivial ?_
          simp only [Act.put, sT, sZ, sS]
          refine anyH_pureG 12 (d := 112) (op := .pick (.tmp 102) (.tmp 111) (.const (.bool false))) (gd := none) (.bool false) (by rfl) wantedP (by kernel_rfl) (by kernel_rfl) (by kernel_rfl) (fun _ _ _ h => h) (fun o1 ho W hW => by unfold execOp; simp only [ho]; go_simp) trivial ?_
          simp only [Act.put, sT, sZ, sS]
          refine wpAnyH_done (by kernel_rfl) ?_ _
          go_upto_region 36 with fail
          obtain ⟨w105, hw105⟩ : ∃ W, W = World.drew w104 := ⟨_, rfl⟩
          have hb1050 : Below w104.heap.size w104 w105 := by rw [hw105]; exact below_drewN' _ w104 1
          have HR6 := Lib.hid (HRL.out.below hb1050)
          have HB6 := Lib.hid (HBC.out.trans (hb1050.mono HBC.out.size))
          have HIS := Lib.hid (is_c HR6.out HLB.out.bnd (by have := HK9.out; omega))
          refine anyH_begin (S := fun _ => True) (by kernel_rfl) ?_
          rw [← hw105]
          clear hw105 hb1050 HRL HBC
          refine aP 0 (d := 200) (op := .move (.tmp 7)) (.pointer (some ⟨d, 0, none⟩)) trivial ?_
          simp only [Act.put, sT, sZ, sS]
          refine aP 1 (d := 201) (op := .move (.tmp 9)) (.pointer (some ⟨m, 0, none⟩)) trivial ?_
          simp only [Act.put, sT, sZ, sS]
          refine anyH_callG 2 (d := some 202) (f := 19) (xs := #[(.tmp 200), (.tmp 201)]) (ts := #[25, 29]) (gd := none) (vs := #[.pointer (some ⟨d, 0, none⟩), .pointer (some ⟨m, 0, none⟩)]) (by kernel_rfl) (by rfl) wantedP (by go_simp) (by go_simp) (HIS.out) ?_
          rintro e105 w1051 ⟨rfl, hb105⟩
          have HR7 := Lib.hid (HR6.out.below hb105)
          have HB7 := Lib.hid (HB6.out.trans (hb105.mono HB6.out.size))
          clear hb105 HIS HR6 HB6
          refine ⟨_, rfl, trivial, fun _ => ?_⟩
          simp only [Act.put, sT, sZ, sS]
          refine anyH_pureG 3 (d := 203) (op := .unOp .not 4 (.tmp 202)) (gd := none) (.bool false) (by rfl) wantedP (by kernel_rfl) (by kernel_rfl) (by kernel_rfl) (fun _ _ _ h => h) (fun o1 ho W hW => by unfold execOp; simp only [ho]; go_simp) trivial ?_
          simp only [Act.put, sT, sZ, sS]
          refine aP 4 (d := 204) (op := .move (.tmp 203)) (.bool false) trivial ?_
          simp only [Act.put, sT, sZ, sS]
          refine anyH_pureG 5 (d := 205) (op := .move (.tmp 13)) (gd := some (4, false)) (.pointer none) (by rfl) (fun o ho => by simp only [Region.wanted, ho]; rfl) (by kernel_rfl) (by kernel_rfl) (by kernel_rfl) (fun _ _ _ h => h) (fun o ho W hW => by unfold execOp; simp only [ho]; go_simp) trivial ?_
          simp only [Act.put, sT, sZ, sS]
          refine anyH_pureG 6 (d := 206) (op := .binOp .neq 35 (.tmp 205) (.const (.pointer none)) 35) (gd := some (4, false)) (.bool false) (by rfl) (fun o ho => by simp only [Region.wanted, ho]; rfl) (by kernel_rfl) (by kernel_rfl) (by kernel_rfl) (fun _ _ _ h => h) (fun o1 ho W hW => by unfold execOp; simp only [ho]; go_simp; try simp) trivial ?_
          simp only [Act.put, sT, sZ, sS]
          refine anyH_pureG 7 (d := 207) (op := .move (.tmp 206)) (gd := some (4, false)) (.bool false) (by rfl) (fun o ho => by simp only [Region.wanted, ho]; rfl) (by kernel_rfl) (by kernel_rfl) (by kernel_rfl) (fun _ _ _ h => h) (fun o ho W hW => by unfold execOp; simp only [ho]; go_simp) trivial ?_
          simp only [Act.put, sT, sZ, sS]
          refine anyH_skip 8 (d := 208) (op := .move (.tmp 10)) (gd := some (7, true)) (by rfl) (fun o ho => by simp only [Region.wanted, ho]; rfl) (by kernel_rfl) (by kernel_rfl) (by kernel_rfl) (fun _ _ _ h => h) trivial ?_
          simp only [Act.put, sT, sZ, sS]
          refine anyH_skip 9 (d := 209) (op := .call { callee := .value (.func 20), args := #[(.tmp 208)], argTypes := #[31] }) (gd := some (7, true)) (by rfl) (fun o ho => by simp only [Region.wanted, ho]; rfl) (by kernel_rfl) (by kernel_rfl) (by kernel_rfl) (fun _ _ _ h => h) trivial ?_
          simp only [Act.put, sT, sZ, sS]
          refine anyH_skip 10 (d := 210) (op := .move (.tmp 13)) (gd := some (7, true)) (by rfl) (fun o ho => by simp only [Region.wanted, ho]; rfl) (by kernel_rfl) (by kernel_rfl) (by kernel_rfl) (fun _ _ _ h => h) trivial ?_
          simp only [Act.put, sT, sZ, sS]
          refine anyH_skip 11 (d := 211) (op := .nilCheck (.tmp 210)) (gd := some (7, true)) (by rfl) (fun o ho => by simp only [Region.wanted, ho]; rfl) (by kernel_rfl) (by kernel_rfl) (by kernel_rfl) (fun _ _ _ h => h) trivial ?_
          simp only [Act.put, sT, sZ, sS]
          refine anyH_skip 12 (d := 212) (op := .fieldAddr 53 (.tmp 211) 2) (gd := some (7, true)) (by rfl) (fun o ho => by simp only [Region.wanted, ho]; rfl) (by kernel_rfl) (by kernel_rfl) (by kernel_rfl) (fun _ _ _ h => h) trivial ?_
          simp only [Act.put, sT, sZ, sS]
          refine anyH_skip 13 (d := 213) (op := .load 32 (.tmp 212)) (gd := some (7, true)) (by rfl) (fun o ho => by simp only [Region.wanted, ho]; rfl) (by kernel_rfl) (by kernel_rfl) (by kernel_rfl) (fun _ _ _ h => h) trivial ?_
          simp only [Act.put, sT, sZ, sS]
          refine anyH_skip 14 (d := 214) (op := .call { callee := .value (.func 21), args := #[(.tmp 213)], argTypes := #[32] }) (gd := some (7, true)) (by rfl) (fun o ho => by simp only [Region.wanted, ho]; rfl) (by kernel_rfl) (by kernel_rfl) (by kernel_rfl) (fun _ _ _ h => h) trivial ?_
          simp only [Act.put, sT, sZ, sS]
          refine anyH_skip 15 (d := 215) (op := .binOp .neq 3 (.tmp 209) (.tmp 214) 3) (gd := some (7, true)) (by rfl) (fun o ho => by simp only [Region.wanted, ho]; rfl) (by kernel_rfl) (by kernel_rfl) (by kernel_rfl) (fun _ _ _ h => h) trivial ?_
          simp only [Act.put, sT, sZ, sS]
          refine anyH_pureG 16 (d := 216) (op := .pick (.tmp 207) (.tmp 215) (.const (.bool false))) (gd := some (4, false)) (.bool false) (by rfl) (fun o ho => by simp only [Region.wanted, ho]; rfl) (by kernel_rfl) (by kernel_rfl) (by kernel_rfl) (fun _ _ _ h => h) (fun o1 ho W hW => by unfold execOp; simp only [ho]; go_simp) trivial ?_
          simp only [Act.put, sT, sZ, sS]
          refine anyH_pureG 17 (d := 217) (op := .pick (.tmp 204) (.const (.bool true)) (.tmp 216)) (gd := none) (.bool false) (by rfl) wantedP (by kernel_rfl) (by kernel_rfl) (by kernel_rfl) (fun _ _ _ h => h) (fun o1 ho W hW => by unfold execOp; simp only [ho]; go_simp) trivial ?_
          simp only [Act.put, sT, sZ, sS]
          refine wpAnyH_done (by kernel_rfl) ?_ _
          have HPN := Lib.hid (show PlJ w d m (k + 1) nm (.pointer none) (.pointer none) w1051 from ⟨_, _, HRP.out, HLB.out, HK9.out, HB7.out, .inl ⟨rfl, rfl, HR7.out.less fun _ e => e.elim⟩⟩)
          clear HR7 HB7 HRP HLB
          go_wp2_with fail
          go_roundw
          case rel => exact ⟨k + 1, by omega, by omega, by go_num, HPN⟩
          case measure => simp [intOf]; omega
         ·
          exfalso
          obtain ⟨X, V, jb, kb, sz, rv, ps, -, -, hn1, hn2, -⟩ := hor
          have := HNB.out
          omega
       ·
        by_cases h1 : kd = 1
        ·
         as_aux_lemma =>
          subst h1
          have hor := HOR.out
          clear HOR
          rcases hor with hor | hor
          ·
           obtain ⟨rfl, rfl, hrl⟩ := hor
           have HRL := Lib.hid (hrl.below HB5.out)
           have HBC := HBW
           have HRP := HRP0
           have HLB := HLB0
           have HK9 := Lib.hid (show K ≤ 12 * (k + 1) + 12 from by have := HKK.out; omega)
           clear hrl
           go_upto_region 36 with fail
           obtain ⟨w108, hw108⟩ : ∃ W, W = World.drew w5 := ⟨_, rfl⟩
           have hb1080 : Below w5.heap.size w5 w108 := by rw [hw108]; exact below_drewN' _ w5 1
           have HR6 := Lib.hid (HRL.out.below hb1080)
           have HB6 := Lib.hid (HBC.out.trans (hb1080.mono HBC.out.size))
           have HIS := Lib.hid (is_c HR6.out HLB.out.bnd (by have := HK9.out; omega))
           refine anyH_begin (S := fun _ => True) (by kernel_rfl) ?_
           rw [← hw108]
           clear hw108 hb1080 HRL HBC
           refine aP 0 (d := 200) (op := .move (.tmp 7)) (.pointer (some ⟨d, 0, none⟩)) trivial ?_
           simp only [Act.put, sT, sZ, sS]
           refine aP 1 (d := 201) (op := .move (.tmp 9)) (.pointer (some ⟨m, 0, none⟩)) trivial ?_
           simp only [Act.put, sT, sZ, sS]
           refine anyH_callG 2 (d := some 202) (f := 19) (xs := #[(.tmp 200), (.tmp 201)]) (ts := #[25, 29]) (gd := none) (vs := #[.pointer (some ⟨d, 0, none⟩), .pointer (some ⟨m, 0, none⟩)]) (by kernel_rfl) (by rfl) wantedP (by go_simp) (by go_simp) (HIS.out) ?_
           rintro e108 w1081 ⟨rfl, hb108⟩
           have HR7 := Lib.hid (HR6.out.below hb108)
           have HB7 := Lib.hid (HB6.out.trans (hb108.mono HB6.out.size))
           clear hb108 HIS HR6 HB6
           refine ⟨_, rfl, trivial, fun _ => ?_⟩
           simp only [Act.put, sT, sZ, sS]
           refine anyH_pureG 3 (d := 203) (op := .unOp .not 4 (.tmp 202)) (gd := none) (.bool false) (by rfl) wantedP (by kernel_rfl) (by kernel_rfl) (by kernel_rfl) (fun _ _ _ h => h) (fun o1 ho W hW => by unfold execOp; simp only [ho]; go_simp) trivial ?_
           simp only [Act.put, sT, sZ, sS]
           refine aP 4 (d := 204) (op := .move (.tmp 203)) (.bool false) trivial ?_
           simp only [Act.put, sT, sZ, sS]
           refine anyH_pureG 5 (d := 205) (op := .move (.tmp 13)) (gd := some (4, false)) (.pointer none) (by rfl) (fun o ho => by simp only [Region.wanted, ho]; rfl) (by kernel_rfl) (by kernel_rfl) (by kernel_rfl) (fun _ _ _ h => h) (fun o ho W hW => by unfold execOp; simp only [ho]; go_simp) trivial ?_
           simp only [Act.put, sT, sZ, sS]
           refine anyH_pureG 6 (d := 206) (op := .binOp .neq 35 (.tmp 205) (.const (.pointer none)) 35) (gd := some (4, false)) (.bool false) (by rfl) (fun o ho => by simp only [Region.wanted, ho]; rfl) (by kernel_rfl) (by kernel_rfl) (by kernel_rfl) (fun _ _ _ h => h) (fun o1 ho W hW => by unfold execOp; simp only [ho]; go_simp; try simp) trivial ?_
           simp only [Act.put, sT, sZ, sS]
           refine anyH_pureG 7 (d := 207) (op := .move (.tmp 206)) (gd := some (4, false)) (.bool false) (by rfl) (fun o ho => by simp only [Region.wanted, ho]; rfl) (by kernel_rfl) (by kernel_rfl) (by kernel_rfl) (fun _ _ _ h => h) (fun o ho W hW => by unfold execOp; simp only [ho]; go_simp) trivial ?_
           simp only [Act.put, sT, sZ, sS]
           refine anyH_skip 8 (d := 208) (op := .move (.tmp 10)) (gd := some (7, true)) (by rfl) (fun o ho => by simp only [Region.wanted, ho]; rfl) (by kernel_rfl) (by kernel_rfl) (by kernel_rfl) (fun _ _ _ h => h) trivial ?_
           simp only [Act.put, sT, sZ, sS]
           refine anyH_skip 9 (d := 209) (op := .call { callee := .value (.func 20), args := #[(.tmp 208)], argTypes := #[31] }) (gd := some (7, true)) (by rfl) (fun o ho => by simp only [Region.wanted, ho]; rfl) (by kernel_rfl) (by kernel_rfl) (by kernel_rfl) (fun _ _ _ h => h) trivial ?_
           simp only [Act.put, sT, sZ, sS]
           refine anyH_skip 10 (d := 210) (op := .move (.tmp 13)) (gd := some (7, true)) (by rfl) (fun o ho => by simp only [Region.wanted, ho]; rfl) (by kernel_rfl) (by kernel_rfl) (by kernel_rfl) (fun _ _ _ h => h) trivial ?_
           simp only [Act.put, sT, sZ, sS]
           refine anyH_skip 11 (d := 211) (op := .nilCheck (.tmp 210)) (gd := some (7, true)) (by rfl) (fun o ho => by simp only [Region.wanted, ho]; rfl) (by kernel_rfl) (by kernel_rfl) (by kernel_rfl) (fun _ _ _ h => h) trivial ?_
           simp only [Act.put, sT, sZ, sS]
           refine anyH_skip 12 (d := 212) (op := .fieldAddr 53 (.tmp 211) 2) (gd := some (7, true)) (by rfl) (fun o ho => by simp only [Region.wanted, ho]; rfl) (by kernel_rfl) (by kernel_rfl) (by kernel_rfl) (fun _ _ _ h => h) trivial ?_
           simp only [Act.put, sT, sZ, sS]
           refine anyH_skip 13 (d := 213) (op := .load 32 (.tmp 212)) (gd := some (7, true)) (by rfl) (fun o ho => by simp only [Region.wanted, ho]; rfl) (by kernel_rfl) (by kernel_rfl) (by kernel_rfl) (fun _ _ _ h => h) trivial ?_
           simp only [Act.put, sT, sZ, sS]
           refine anyH_skip 14 (d := 214) (op := .call { callee := .value (.func 21), args := #[(.tmp 213)], argTypes := #[32] }) (gd := some (7, true)) (by rfl) (fun o ho => by simp only [Region.wanted, ho]; rfl) (by kernel_rfl) (by kernel_rfl) (by kernel_rfl) (fun _ _ _ h => h) trivial ?_
           simp only [Act.put, sT, sZ, sS]
           refine anyH_skip 15 (d := 215) (op := .binOp .neq 3 (.tmp 209) (.tmp 214) 3) (gd := some (7, true)) (by rfl) (fun o ho => by simp only [Region.wanted, ho]; rfl) (by kernel_rfl) (by kernel_rfl) (by kernel_rfl) (fun _ _ _ h => h) trivial ?_
           simp only [Act.put, sT, sZ, sS]
           refine anyH_pureG 16 (d := 216) (op := .pick (.tmp 207) (.tmp 215) (.const (.bool false))) (gd := some (4, false)) (.bool false) (by rfl) (fun o ho => by simp only [Region.wanted, ho]; rfl) (by kernel_rfl) (by kernel_rfl) (by kernel_rfl) (fun _ _ _ h => h) (fun o1 ho W hW => by unfold execOp; simp only [ho]; go_simp) trivial ?_
           simp only [Act.put, sT, sZ, sS]
           refine anyH_pureG 17 (d := 217) (op := .pick (.tmp 204) (.const (.bool true)) (.tmp 216)) (gd := none) (.bool false) (by rfl) wantedP (by kernel_rfl) (by kernel_rfl) (by kernel_rfl) (fun _ _ _ h => h) (fun o1 ho W hW => by unfold execOp; simp only [ho]; go_simp) trivial ?_
           simp only [Act.put, sT, sZ, sS]
           refine wpAnyH_done (by kernel_rfl) ?_ _
           have HPN := Lib.hid (show PlJ w d m (k + 1) nm (.pointer none) (.pointer none) w1081 from ⟨_, _, HRP.out, HLB.out, HK9.out, HB7.out, .inl ⟨rfl, rfl, HR7.out.less fun _ e => e.elim⟩⟩)
           clear HR7 HB7 HRP HLB
           go_wp2_with fail
           go_roundw
           case rel => exact ⟨k + 1, by omega, by omega, by go_num, HPN⟩
           case measure => simp [intOf]; omega
          ·
           exfalso
           obtain ⟨X, V, jb, kb, sz, rv, ps, -, -, hn1, hn2, -⟩ := hor
           have := HNB.out
           omega
        ·
         by_cases h2 : kd = 2
         ·
          as_aux_lemma =>
           subst h2
           have hor := HOR.out
           clear HOR
           rcases hor with hor | hor
           ·
            obtain ⟨rfl, rfl, hrl⟩ := hor
            have HRL := Lib.hid (hrl.below HB5.out)
            have HBC := HBW
            have HRP := HRP0
            have HLB := HLB0
            have HK9 := Lib.hid (show K ≤ 12 * (k + 1) + 12 from by have := HKK.out; omega)
            clear hrl
            go_upto_region 25 with fail
            obtain ⟨w112, hw112⟩ : ∃ W, W = World.drew w5 := ⟨_, rfl⟩
            have hb112 : Below w5.heap.size w5 w112 := by rw [hw112]; exact below_drewN' _ w5 1
            have HRLN := Lib.hid (HRL.out.below hb112)
            have HBCN := Lib.hid (HBC.out.trans (hb112.mono HBC.out.size))
            refine anyH_begin (S := fun _ => True) (by kernel_rfl) ?_
            rw [← hw112]
            clear hw112 hb112 HRL HBC
            have HRL := HRLN
            have HBC := HBCN
            clear HRLN HBCN
            refine aP 0 (d := 126) (op := .move (.tmp 13)) (.pointer none) trivial ?_
            simp only [Act.put, sT, sZ, sS]
            refine anyH_pureG 1 (d := 127) (op := .binOp .neq 35 (.tmp 126) (.const (.pointer none)) 35) (gd := none) (.bool false) (by rfl) wantedP (by kernel_rfl) (by kernel_rfl) (by kernel_rfl) (fun _ _ _ h => h) (fun o1 ho W hW => by unfold execOp; simp only [ho]; go_simp; try simp) trivial ?_
            simp only [Act.put, sT, sZ, sS]
            refine aP 2 (d := 128) (op := .move (.tmp 127)) (.bool false) trivial ?_
            simp only [Act.put, sT, sZ, sS]
            refine anyH_skip 3 (d := 129) (op := .move (.tmp 10)) (gd := some (2, true)) (by rfl) (fun o ho => by simp only [Region.wanted, ho]; rfl) (by kernel_rfl) (by kernel_rfl) (by kernel_rfl) (fun _ _ _ h => h) trivial ?_
            simp only [Act.put, sT, sZ, sS]
            refine anyH_skip 4 (d := 130) (op := .fieldAddr 40 (.tmp 16) 2) (gd := some (2, true)) (by rfl) (fun o ho => by simp only [Region.wanted, ho]; rfl) (by kernel_rfl) (by kernel_rfl) (by kernel_rfl) (fun _ _ _ h => h) trivial ?_
            simp only [Act.put, sT, sZ, sS]
            refine anyH_skip 5 (d := 131) (op := .load 32 (.tmp 130)) (gd := some (2, true)) (by rfl) (fun o ho => by simp only [Region.wanted, ho]; rfl) (by kernel_rfl) (by kernel_rfl) (by kernel_rfl) (fun _ _ _ h => h) trivial ?_
            simp only [Act.put, sT, sZ, sS]
            refine anyH_skip 6 (d := 132) (op := .call { callee := .value (.func 15), args := #[(.tmp 129), (.tmp 131)], argTypes := #[31, 32] }) (gd := some (2, true)) (by rfl) (fun o ho => by simp only [Region.wanted, ho]; rfl) (by kernel_rfl) (by kernel_rfl) (by kernel_rfl) (fun _ _ _ h => h) trivial ?_
            simp only [Act.put, sT, sZ, sS]
            refine anyH_skip 7 (d := 133) (op := .move (.tmp 13)) (gd := some (2, true)) (by rfl) (fun o ho => by simp only [Region.wanted, ho]; rfl) (by kernel_rfl) (by kernel_rfl) (by kernel_rfl) (fun _ _ _ h => h) trivial ?_
            simp only [Act.put, sT, sZ, sS]
            refine anyH_skip 8 (d := 134) (op := .fieldAddr 40 (.tmp 16) 2) (gd := some (2, true)) (by rfl) (fun o ho => by simp only [Region.wanted, ho]; rfl) (by kernel_rfl) (by kernel_rfl) (by kernel_rfl) (fun _ _ _ h => h) trivial ?_
            simp only [Act.put, sT, sZ, sS]
            refine anyH_skip 9 (d := 135) (op := .load 32 (.tmp 134)) (gd := some (2, true)) (by rfl) (fun o ho => by simp only [Region.wanted, ho]; rfl) (by kernel_rfl) (by kernel_rfl) (by kernel_rfl) (fun _ _ _ h => h) trivial ?_
            simp only [Act.put, sT, sZ, sS]
            refine anyH_skip 10 (d := 136) (op := .call { callee := .value (.func 16), args := #[(.tmp 133), (.tmp 135)], argTypes := #[35, 32] }) (gd := some (2, true)) (by rfl) (fun o ho => by simp only [Region.wanted, ho]; rfl) (by kernel_rfl) (by kernel_rfl) (by kernel_rfl) (fun _ _ _ h => h) trivial ?_
            simp only [Act.put, sT, sZ, sS]
            refine anyH_skip 11 (d := 137) (op := .binOp .neq 3 (.tmp 132) (.tmp 136) 3) (gd := some (2, true)) (by rfl) (fun o ho => by simp only [Region.wanted, ho]; rfl) (by kernel_rfl) (by kernel_rfl) (by kernel_rfl) (fun _ _ _ h => h) trivial ?_
            simp only [Act.put, sT, sZ, sS]
            refine anyH_pureG 12 (d := 138) (op := .pick (.tmp 128) (.tmp 137) (.const (.bool false))) (gd := none) (.bool false) (by rfl) wantedP (by kernel_rfl) (by kernel_rfl) (by kernel_rfl) (fun _ _ _ h => h) (fun o1 ho W hW => by unfold execOp; simp only [ho]; go_simp) trivial ?_
            simp only [Act.put, sT, sZ, sS]
            refine wpAnyH_done (by kernel_rfl) ?_ _
            go_upto_region 36 with fail
            obtain ⟨w113, hw113⟩ : ∃ W, W = World.drew w112 := ⟨_, rfl⟩
            have hb1130 : Below w112.heap.size w112 w113 := by rw [hw113]; exact below_drewN' _ w112 1
            have HR6 := Lib.hid (HRL.out.below hb1130)
            have HB6 := Lib.hid (HBC.out.trans (hb1130.mono HBC.out.size))
            have HIS := Lib.hid (is_c HR6.out HLB.out.bnd (by have := HK9.out; omega))
            refine anyH_begin (S := fun _ => True) (by kernel_rfl) ?_
            rw [← hw113]
            clear hw113 hb1130 HRL HBC
            refine aP 0 (d := 200) (op := .move (.tmp 7)) (.pointer (some ⟨d, 0, none⟩)) trivial ?_
            simp only [Act.put, sT, sZ, sS]
            refine aP 1 (d := 201) (op := .move (.tmp 9)) (.pointer (some ⟨m, 0, none⟩)) trivial ?_
            simp only [Act.put, sT, sZ, sS]
            refine anyH_callG 2 (d := some 202) (f := 19) (xs := #[(.tmp 200), (.tmp 201)]) (ts := #[25, 29]) (gd := none) (vs := #[.pointer (some ⟨d, 0, none⟩), .pointer (some ⟨m, 0, none⟩)]) (by kernel_rfl) (by rfl) wantedP (by go_simp) (by go_simp) (HIS.out) ?_
            rintro e113 w1131 ⟨rfl, hb113⟩
            have HR7 := Lib.hid (HR6.out.below hb113)
            have HB7 := Lib.hid (HB6.out.trans (hb113.mono HB6.out.size))
            clear hb113 HIS HR6 HB6
            refine ⟨_, rfl, trivial, fun _ => ?_⟩
            simp only [Act.put, sT, sZ, sS]
            refine anyH_pureG 3 (d := 203) (op := .unOp .not 4 (.tmp 202)) (gd := none) (.bool false) (by rfl) wantedP (by kernel_rfl) (by kernel_rfl) (by kernel_rfl) (fun _ _ _ h => h) (fun o1 ho W hW => by unfold execOp; simp only [ho]; go_simp) trivial ?_
            simp only [Act.put, sT, sZ, sS]
            refine aP 4 (d := 204) (op := .move (.tmp 203)) (.bool false) trivial ?_
            simp only [Act.put, sT, sZ, sS]
            refine anyH_pureG 5 (d := 205) (op := .move (.tmp 13)) (gd := some (4, false)) (.pointer none) (by rfl) (fun o ho => by simp only [Region.wanted, ho]; rfl) (by kernel_rfl) (by kernel_rfl) (by kernel_rfl) (fun _ _ _ h => h) (fun o ho W hW => by unfold execOp; simp only [ho]; go_simp) trivial ?_
            simp only [Act.put, sT, sZ, sS]
            refine anyH_pureG 6 (d := 206) (op := .binOp .neq 35 (.tmp 205) (.const (.pointer none)) 35) (gd := some (4, false)) (.bool false) (by rfl) (fun o ho => by simp only [Region.wanted, ho]; rfl) (by kernel_rfl) (by kernel_rfl) (by kernel_rfl) (fun _ _ _ h => h) (fun o1 ho W hW => by unfold execOp; simp only [ho]; go_simp; try simp) trivial ?_
            simp only [Act.put, sT, sZ, sS]
            refine anyH_pureG 7 (d := 207) (op := .move (.tmp 206)) (gd := some (4, false)) (.bool false) (by rfl) (fun o ho => by simp only [Region.wanted, ho]; rfl) (by kernel_rfl) (by kernel_rfl) (by kernel_rfl) (fun _ _ _ h => h) (fun o ho W hW => by unfold execOp; simp only [ho]; go_simp) trivial ?_
            simp only [Act.put, sT, sZ, sS]
            refine anyH_skip 8 (d := 208) (op := .move (.tmp 10)) (gd := some (7, true)) (by rfl) (fun o ho => by simp only [Region.wanted, ho]; rfl) (by kernel_rfl) (by kernel_rfl) (by kernel_rfl) (fun _ _ _ h => h) trivial ?_
            simp only [Act.put, sT, sZ, sS]
            refine anyH_skip 9 (d := 209) (op := .call { callee := .value (.func 20), args := #[(.tmp 208)], argTypes := #[31] }) (gd := some (7, true)) (by rfl) (fun o ho => by simp only [Region.wanted, ho]; rfl) (by kernel_rfl) (by kernel_rfl) (by kernel_rfl) (fun _ _ _ h => h) trivial ?_
            simp only [Act.put, sT, sZ, sS]
            refine anyH_skip 10 (d := 210) (op := .move (.tmp 13)) (gd := some (7, true)) (by rfl) (fun o ho => by simp only [Region.wanted, ho]; rfl) (by kernel_rfl) (by kernel_rfl) (by kernel_rfl) (fun _ _ _ h => h) trivial ?_
            simp only [Act.put, sT, sZ, sS]
            refine anyH_skip 11 (d := 211) (op := .nilCheck (.tmp 210)) (gd := some (7, true)) (by rfl) (fun o ho => by simp only [Region.wanted, ho]; rfl) (by kernel_rfl) (by kernel_rfl) (by kernel_rfl) (fun _ _ _ h => h) trivial ?_
            simp only [Act.put, sT, sZ, sS]
            refine anyH_skip 12 (d := 212) (op := .fieldAddr 53 (.tmp 211) 2) (gd := some (7, true)) (by rfl) (fun o ho => by simp only [Region.wanted, ho]; rfl) (by kernel_rfl) (by kernel_rfl) (by kernel_rfl) (fun _ _ _ h => h) trivial ?_
            simp only [Act.put, sT, sZ, sS]
            refine anyH_skip 13 (d := 213) (op := .load 32 (.tmp 212)) (gd := some (7, true)) (by rfl) (fun o ho => by simp only [Region.wanted, ho]; rfl) (by kernel_rfl) (by kernel_rfl) (by kernel_rfl) (fun _ _ _ h => h) trivial ?_
            simp only [Act.put, sT, sZ, sS]
            refine anyH_skip 14 (d := 214) (op := .call { callee := .value (.func 21), args := #[(.tmp 213)], argTypes := #[32] }) (gd := some (7, true)) (by rfl) (fun o ho => by simp only [Region.wanted, ho]; rfl) (by kernel_rfl) (by kernel_rfl) (by kernel_rfl) (fun _ _ _ h => h) trivial ?_
            simp only [Act.put, sT, sZ, sS]
            refine anyH_skip 15 (d := 215) (op := .binOp .neq 3 (.tmp 209) (.tmp 214) 3) (gd := some (7, true)) (by rfl) (fun o ho => by simp only [Region.wanted, ho]; rfl) (by kernel_rfl) (by kernel_rfl) (by kernel_rfl) (fun _ _ _ h => h) trivial ?_
            simp only [Act.put, sT, sZ, sS]
            refine anyH_pureG 16 (d := 216) (op := .pick (.tmp 207) (.tmp 215) (.const (.bool false))) (gd := some (4, false)) (.bool false) (by rfl) (fun o ho => by simp only [Region.wanted, ho]; rfl) (by kernel_rfl) (by kernel_rfl) (by kernel_rfl) (fun _ _ _ h => h) (fun o1 ho W hW => by unfold execOp; simp only [ho]; go_simp) trivial ?_
            simp only [Act.put, sT, sZ, sS]
            refine anyH_pureG 17 (d := 217) (op := .pick (.tmp 204) (.const (.bool true)) (.tmp 216)) (gd := none) (.bool false) (by rfl) wantedP (by kernel_rfl) (by kernel_rfl) (by kernel_rfl) (fun _ _ _ h => h) (fun o1 ho W hW => by unfold execOp; simp only [ho]; go_simp) trivial ?_
            simp only [Act.put, sT, sZ, sS]
            refine wpAnyH_done (by kernel_rfl) ?_ _
            have HPN := Lib.hid (show PlJ w d m (k + 1) nm (.pointer none) (.pointer none) w1131 from ⟨_, _, HRP.out, HLB.out, HK9.out, HB7.out, .inl ⟨rfl, rfl, HR7.out.less fun _ e => e.elim⟩⟩)
            clear HR7 HB7 HRP HLB
            go_wp2_with fail
            go_roundw
            case rel => exact ⟨k + 1, by omega, by omega, by go_num, HPN⟩
            case measure => simp [intOf]; omega
           ·
            exfalso
            obtain ⟨X, V, jb, kb, sz, rv, ps, -, -, hn1, hn2, -⟩ := hor
            have := HNB.out
            omega
         ·
          by_cases h3 : kd = 3
          ·
           as_aux_lemma =>
            subst h3
            obtain ⟨X0, hr0⟩ := HOR.out.rel
            have HRO0 := Lib.hid (hr0.below HB5.out)
            clear hr0 HOR
            have HRO := HRO0
            have HRP3 := HRP0
            have HLB3 := HLB0
            have HBC3 := HBW
            obtain ⟨A3, hA3⟩ : ∃ A3, A3 = A := ⟨_, rfl⟩
            obtain ⟨K3, hK3⟩ : ∃ K3, K3 = K := ⟨_, rfl⟩
            rw [← hA3] at HRO HRP3 HLB3
            rw [← hK3] at HRO HLB3
            have HK3 := Lib.hid (show K3 + 8 ≤ 12 * (k + 1) + 12 from by have := HKK.out; omega)
            clear hA3 hK3 HRO0 HRP0 HLB0
            have hnm := HNB.out
            have POB := Lib.hid (popen_bad nm d w5 (by have := HNL.out; omega) hnm)
            have ROB := Lib.hid (ropen_bad nm m w5 (by have := HNL.out; omega) hnm)
            have HRL := HRO
            have HLB := HLB3
            have HRP := HRP3
            have HBC := HBC3
            have HK9 := Lib.hid (show K3 ≤ 12 * (k + 1) + 12 from by have := HK3.out; omega)
            clear HRO HLB3 HRP3 HBC3 HK3 hnm
            go_wp2_with fail
            refine POB.out.mono ?_
            rintro eo wo ⟨rfl, e2⟩
            subst wo
            clear POB
            go_wp2_with fail
            refine ROB.out.mono ?_
            rintro eo wo ⟨rfl, e2⟩
            subst wo
            clear ROB
            go_upto_region 36 with fail
            obtain ⟨w114, hw114⟩ : ∃ W, W = World.drew w5 := ⟨_, rfl⟩
            have hb1140 : Below w5.heap.size w5 w114 := by rw [hw114]; exact below_drewN' _ w5 1
            have HR6 := Lib.hid (HRL.out.below hb1140)
            have HB6 := Lib.hid (HBC.out.trans (hb1140.mono HBC.out.size))
            have HIS := Lib.hid (is_c HR6.out HLB.out.bnd (by have := HK9.out; omega))
            refine anyH_begin (S := fun _ => True) (by kernel_rfl) ?_
            rw [← hw114]
            clear hw114 hb1140 HRL HBC
            refine aP 0 (d := 200) (op := .move (.tmp 7)) (.pointer (some ⟨d, 0, none⟩)) trivial ?_
            simp only [Act.put, sT, sZ, sS]
            refine aP 1 (d := 201) (op := .move (.tmp 9)) (.pointer (some ⟨m, 0, none⟩)) trivial ?_
            simp only [Act.put, sT, sZ, sS]
            refine anyH_callG 2 (d := some 202) (f := 19) (xs := #[(.tmp 200), (.tmp 201)]) (ts := #[25, 29]) (gd := none) (vs := #[.pointer (some ⟨d, 0, none⟩), .pointer (some ⟨m, 0, none⟩)]) (by kernel_rfl) (by rfl) wantedP (by go_simp) (by go_simp) (HIS.out) ?_
            rintro e114 w1141 ⟨rfl, hb114⟩
            have HR7 := Lib.hid (HR6.out.below hb114)
            have HB7 := Lib.hid (HB6.out.trans (hb114.mono HB6.out.size))
            clear hb114 HIS HR6 HB6
            refine ⟨_, rfl, trivial, fun _ => ?_⟩
            simp only [Act.put, sT, sZ, sS]
            refine anyH_pureG 3 (d := 203) (op := .unOp .not 4 (.tmp 202)) (gd := none) (.bool false) (by rfl) wantedP (by kernel_rfl) (by kernel_rfl) (by kernel_rfl) (fun _ _ _ h => h) (fun o1 ho W hW => by unfold execOp; simp only [ho]; go_simp) trivial ?_
            simp only [Act.put, sT, sZ, sS]
            refine aP 4 (d := 204) (op := .move (.tmp 203)) (.bool false) trivial ?_
            simp only [Act.put, sT, sZ, sS]
            refine anyH_pureG 5 (d := 205) (op := .move (.tmp 13)) (gd := some (4, false)) (.pointer none) (by rfl) (fun o ho => by simp only [Region.wanted, ho]; rfl) (by kernel_rfl) (by kernel_rfl) (by kernel_rfl) (fun _ _ _ h => h) (fun o ho W hW => by unfold execOp; simp only [ho]; go_simp) trivial ?_
            simp only [Act.put, sT, sZ, sS]
            refine anyH_pureG 6 (d := 206) (op := .binOp .neq 35 (.tmp 205) (.const (.pointer none)) 35) (gd := some (4, false)) (.bool false) (by rfl) (fun o ho => by simp only [Region.wanted, ho]; rfl) (by kernel_rfl) (by kernel_rfl) (by kernel_rfl) (fun _ _ _ h => h) (fun o1 ho W hW => by unfold execOp; simp only [ho]; go_simp; try simp) trivial ?_
            simp only [Act.put, sT, sZ, sS]
            refine anyH_pureG 7 (d := 207) (op := .move (.tmp 206)) (gd := some (4, false)) (.bool false) (by rfl) (fun o ho => by simp only [Region.wanted, ho]; rfl) (by kernel_rfl) (by kernel_rfl) (by kernel_rfl) (fun _ _ _ h => h) (fun o ho W hW => by unfold execOp; simp only [ho]; go_simp) trivial ?_
            simp only [Act.put, sT, sZ, sS]
            refine anyH_skip 8 (d := 208) (op := .move (.tmp 10)) (gd := some (7, true)) (by rfl) (fun o ho => by simp only [Region.wanted, ho]; rfl) (by kernel_rfl) (by kernel_rfl) (by kernel_rfl) (fun _ _ _ h => h) trivial ?_
            simp only [Act.put, sT, sZ, sS]
            refine anyH_skip 9 (d := 209) (op := .call { callee := .value (.func 20), args := #[(.tmp 208)], argTypes := #[31] }) (gd := some (7, true)) (by rfl) (fun o ho => by simp only [Region.wanted, ho]; rfl) (by kernel_rfl) (by kernel_rfl) (by kernel_rfl) (fun _ _ _ h => h) trivial ?_
            simp only [Act.put, sT, sZ, sS]
            refine anyH_skip 10 (d := 210) (op := .move (.tmp 13)) (gd := some (7, true)) (by rfl) (fun o ho => by simp only [Region.wanted, ho]; rfl) (by kernel_rfl) (by kernel_rfl) (by kernel_rfl) (fun _ _ _ h => h) trivial ?_
            simp only [Act.put, sT, sZ, sS]
            refine anyH_skip 11 (d := 211) (op := .nilCheck (.tmp 210)) (gd := some (7, true)) (by rfl) (fun o ho => by simp only [Region.wanted, ho]; rfl) (by kernel_rfl) (by kernel_rfl) (by kernel_rfl) (fun _ _ _ h => h) trivial ?_
            simp only [Act.put, sT, sZ, sS]
            refine anyH_skip 12 (d := 212) (op := .fieldAddr 53 (.tmp 211) 2) (gd := some (7, true)) (by rfl) (fun o ho => by simp only [Region.wanted, ho]; rfl) (by kernel_rfl) (by kernel_rfl) (by kernel_rfl) (fun _ _ _ h => h) trivial ?_
            simp only [Act.put, sT, sZ, sS]
            refine anyH_skip 13 (d := 213) (op := .load 32 (.tmp 212)) (gd := some (7, true)) (by rfl) (fun o ho => by simp only [Region.wanted, ho]; rfl) (by kernel_rfl) (by kernel_rfl) (by kernel_rfl) (fun _ _ _ h => h) trivial ?_
            simp only [Act.put, sT, sZ, sS]
            refine anyH_skip 14 (d := 214) (op := .call { callee := .value (.func 21), args := #[(.tmp 213)], argTypes := #[32] }) (gd := some (7, true)) (by rfl) (fun o ho => by simp only [Region.wanted, ho]; rfl) (by kernel_rfl) (by kernel_rfl) (by kernel_rfl) (fun _ _ _ h => h) trivial ?_
            simp only [Act.put, sT, sZ, sS]
            refine anyH_skip 15 (d := 215) (op := .binOp .neq 3 (.tmp 209) (.tmp 214) 3) (gd := some (7, true)) (by rfl) (fun o ho => by simp only [Region.wanted, ho]; rfl) (by kernel_rfl) (by kernel_rfl) (by kernel_rfl) (fun _ _ _ h => h) trivial ?_
            simp only [Act.put, sT, sZ, sS]
            refine anyH_pureG 16 (d := 216) (op := .pick (.tmp 207) (.tmp 215) (.const (.bool false))) (gd := some (4, false)) (.bool false) (by rfl) (fun o ho => by simp only [Region.wanted, ho]; rfl) (by kernel_rfl) (by kernel_rfl) (by kernel_rfl) (fun _ _ _ h => h) (fun o1 ho W hW => by unfold execOp; simp only [ho]; go_simp) trivial ?_
            simp only [Act.put, sT, sZ, sS]
            refine anyH_pureG 17 (d := 217) (op := .pick (.tmp 204) (.const (.bool true)) (.tmp 216)) (gd := none) (.bool false) (by rfl) wantedP (by kernel_rfl) (by kernel_rfl) (by kernel_rfl) (fun _ _ _ h => h) (fun o1 ho W hW => by unfold execOp; simp only [ho]; go_simp) trivial ?_
            simp only [Act.put, sT, sZ, sS]
            refine wpAnyH_done (by kernel_rfl) ?_ _
            have HPN := Lib.hid (show PlJ w d m (k + 1) nm (.pointer none) (.pointer none) w1141 from ⟨_, _, HRP.out, HLB.out, HK9.out, HB7.out, .inl ⟨rfl, rfl, HR7.out.less fun _ e => e.elim⟩⟩)
            clear HR7 HB7 HRP HLB
            go_wp2_with fail
            go_roundw
            case rel => exact ⟨k + 1, by omega, by omega, by go_num, HPN⟩
            case measure => simp [intOf]; omega
          ·
           by_cases h4 : kd = 4
           ·
            as_aux_lemma =>
             subst h4
             have hor := HOR.out
             clear HOR
             rcases hor with hor | hor
             ·
              obtain ⟨rfl, rfl, hrl⟩ := hor
              have HRL := Lib.hid (hrl.below HB5.out)
              have HBC := HBW
              have HRP := HRP0
              have HLB := HLB0
              have HK9 := Lib.hid (show K ≤ 12 * (k + 1) + 12 from by have := HKK.out; omega)
              clear hrl
              have htw : Two _ w.heap.size d m K A w5 := ⟨HRL.out, HLB0.out.bnd⟩
              have HDO := Lib.hid (does5_c htw HBW.out.size (by have := HKK.out; have := HKL.out; omega) ⟨#[]⟩ ⟨#[]⟩ none 0 0 n q HOPJ.out.s4)
              have HRP1 := Lib.hid (HRP0.out.fused n)
              obtain ⟨A9, hA9⟩ : ∃ A9, A9 = (A.fused n).1 := ⟨_, rfl⟩
              rw [← hA9] at HDO HRP1
              clear htw hA9
              go_wp2_with fail
              refine HDO.out.mono ?_
              rintro e119 w119 ⟨rfl, htw, hb119, hk119⟩
              have HLB1 := Lib.hid ((Lb.of htw.bnd htw.rel.gd).mono (show K + 1 ≤ K + 2 by omega))
              have HRT := Lib.hid htw.rel
              have HBT := Lib.hid (HBW.out.trans hb119)
              have HKT := Lib.hid hk119
              clear htw hb119 hk119 HDO HRP0 HLB0
              have HRP := HRP1
              have HLB := HLB1
              have HBC := HBT
              have HK9 := Lib.hid (show K + 2 ≤ 12 * (k + 1) + 12 from by have := HKK.out; omega)
              have HRLN := Lib.hid (HRT.out.mono (show 3 * (K + 1) ≤ 3 * (K + 2) by omega))
              clear HRL
              have HRL := HRLN
              clear HRLN HRT HKT HBT HRP1 HLB1
              go_upto_region 36 with fail
              obtain ⟨w120, hw120⟩ : ∃ W, W = World.drew w119 := ⟨_, rfl⟩
              have hb1200 : Below w119.heap.size w119 w120 := by rw [hw120]; exact below_drewN' _ w119 1
              have HR6 := Lib.hid (HRL.out.below hb1200)
              have HB6 := Lib.hid (HBC.out.trans (hb1200.mono HBC.out.size))
              have HIS := Lib.hid (is_c HR6.out HLB.out.bnd (by have := HK9.out; omega))
              refine anyH_begin (S := fun _ => True) (by kernel_rfl) ?_
              rw [← hw120]
              clear hw120 hb1200 HRL HBC
              refine aP 0 (d := 200) (op := .move (.tmp 7)) (.pointer (some ⟨d, 0, none⟩)) trivial ?_
              simp only [Act.put, sT, sZ, sS]
              refine aP 1 (d := 201) (op := .move (.tmp 9)) (.pointer (some ⟨m, 0, none⟩)) trivial ?_
              simp only [Act.put, sT, sZ, sS]
              refine anyH_callG 2 (d := some 202) (f := 19) (xs := #[(.tmp 200), (.tmp 201)]) (ts := #[25, 29]) (gd := none) (vs := #[.pointer (some ⟨d, 0, none⟩), .pointer (some ⟨m, 0, none⟩)]) (by kernel_rfl) (by rfl) wantedP (by go_simp) (by go_simp) (HIS.out) ?_
              rintro e120 w1201 ⟨rfl, hb120⟩
              have HR7 := Lib.hid (HR6.out.below hb120)
              have HB7 := Lib.hid (HB6.out.trans (hb120.mono HB6.out.size))
              clear hb120 HIS HR6 HB6
              refine ⟨_, rfl, trivial, fun _ => ?_⟩
              simp only [Act.put, sT, sZ, sS]
              refine anyH_pureG 3 (d := 203) (op := .unOp .not 4 (.tmp 202)) (gd := none) (.bool false) (by rfl) wantedP (by kernel_rfl) (by kernel_rfl) (by kernel_rfl) (fun _ _ _ h => h) (fun o1 ho W hW => by unfold execOp; simp only [ho]; go_simp) trivial ?_
              simp only [Act.put, sT, sZ, sS]
              refine aP 4 (d := 204) (op := .move (.tmp 203)) (.bool false) trivial ?_
              simp only [Act.put, sT, sZ, sS]
              refine anyH_pureG 5 (d := 205) (op := .move (.tmp 13)) (gd := some (4, false)) (.pointer none) (by rfl) (fun o ho => by simp only [Region.wanted, ho]; rfl) (by kernel_rfl) (by kernel_rfl) (by kernel_rfl) (fun _ _ _ h => h) (fun o ho W hW => by unfold execOp; simp only [ho]; go_simp) trivial ?_
              simp only [Act.put, sT, sZ, sS]
              refine anyH_pureG 6 (d := 206) (op := .binOp .neq 35 (.tmp 205) (.const (.pointer none)) 35) (gd := some (4, false)) (.bool false) (by rfl) (fun o ho => by simp only [Region.wanted, ho]; rfl) (by kernel_rfl) (by kernel_rfl) (by kernel_rfl) (fun _ _ _ h => h) (fun o1 ho W hW => by unfold execOp; simp only [ho]; go_simp; try simp) trivial ?_
              simp only [Act.put, sT, sZ, sS]
              refine anyH_pureG 7 (d := 207) (op := .move (.tmp 206)) (gd := some (4, false)) (.bool false) (by rfl) (fun o ho => by simp only [Region.wanted, ho]; rfl) (by kernel_rfl) (by kernel_rfl) (by kernel_rfl) (fun _ _ _ h => h) (fun o ho W hW => by unfold execOp; simp only [ho]; go_simp) trivial ?_
              simp only [Act.put, sT, sZ, sS]
              refine anyH_skip 8 (d := 208) (op := .move (.tmp 10)) (gd := some (7, true)) (by rfl) (fun o ho => by simp only [Region.wanted, ho]; rfl) (by kernel_rfl) (by kernel_rfl) (by kernel_rfl) (fun _ _ _ h => h) trivial ?_
              simp only [Act.put, sT, sZ, sS]
              refine anyH_skip 9 (d := 209) (op := .call { callee := .value (.func 20), args := #[(.tmp 208)], argTypes := #[31] }) (gd := some (7, true)) (by rfl) (fun o ho => by simp only [Region.wanted, ho]; rfl) (by kernel_rfl) (by kernel_rfl) (by kernel_rfl) (fun _ _ _ h => h) trivial ?_
              simp only [Act.put, sT, sZ, sS]
              refine anyH_skip 10 (d := 210) (op := .move (.tmp 13)) (gd := some (7, true)) (by rfl) (fun o ho => by simp only [Region.wanted, ho]; rfl) (by kernel_rfl) (by kernel_rfl) (by kernel_rfl) (fun _ _ _ h => h) trivial ?_
              simp only [Act.put, sT, sZ, sS]
              refine anyH_skip 11 (d := 211) (op := .nilCheck (.tmp 210)) (gd := some (7, true)) (by rfl) (fun o ho => by simp only [Region.wanted, ho]; rfl) (by kernel_rfl) (by kernel_rfl) (by kernel_rfl) (fun _ _ _ h => h) trivial ?_
              simp only [Act.put, sT, sZ, sS]
              refine anyH_skip 12 (d := 212) (op := .fieldAddr 53 (.tmp 211) 2) (gd := some (7, true)) (by rfl) (fun o ho => by simp only [Region.wanted, ho]; rfl) (by kernel_rfl) (by kernel_rfl) (by kernel_rfl) (fun _ _ _ h => h) trivial ?_
              simp only [Act.put, sT, sZ, sS]
              refine anyH_skip 13 (d := 213) (op := .load 32 (.tmp 212)) (gd := some (7, true)) (by rfl) (fun o ho => by simp only [Region.wanted, ho]; rfl) (by kernel_rfl) (by kernel_rfl) (by kernel_rfl) (fun _ _ _ h => h) trivial ?_
              simp only [Act.put, sT, sZ, sS]
              refine anyH_skip 14 (d := 214) (op := .call { callee := .value (.func 21), args := #[(.tmp 213)], argTypes := #[32] }) (gd := some (7, true)) (by rfl) (fun o ho => by simp only [Region.wanted, ho]; rfl) (by kernel_rfl) (by kernel_rfl) (by kernel_rfl) (fun _ _ _ h => h) trivial ?_
              simp only [Act.put, sT, sZ, sS]
              refine anyH_skip 15 (d := 215) (op := .binOp .neq 3 (.tmp 209) (.tmp 214) 3) (gd := some (7, true)) (by rfl) (fun o ho => by simp only [Region.wanted, ho]; rfl) (by kernel_rfl) (by kernel_rfl) (by kernel_rfl) (fun _ _ _ h => h) trivial ?_
              simp only [Act.put, sT, sZ, sS]
              refine anyH_pureG 16 (d := 216) (op := .pick (.tmp 207) (.tmp 215) (.const (.bool false))) (gd := some (4, false)) (.bool false) (by rfl) (fun o ho => by simp only [Region.wanted, ho]; rfl) (by kernel_rfl) (by kernel_rfl) (by kernel_rfl) (fun _ _ _ h => h) (fun o1 ho W hW => by unfold execOp; simp only [ho]; go_simp) trivial ?_
              simp only [Act.put, sT, sZ, sS]
              refine anyH_pureG 17 (d := 217) (op := .pick (.tmp 204) (.const (.bool true)) (.tmp 216)) (gd := none) (.bool false) (by rfl) wantedP (by kernel_rfl) (by kernel_rfl) (by kernel_rfl) (fun _ _ _ h => h) (fun o1 ho W hW => by unfold execOp; simp only [ho]; go_simp) trivial ?_
              simp only [Act.put, sT, sZ, sS]
              refine wpAnyH_done (by kernel_rfl) ?_ _
              have HPN := Lib.hid (show PlJ w d m (k + 1) nm (.pointer none) (.pointer none) w1201 from ⟨_, _, HRP.out, HLB.out, HK9.out, HB7.out, .inl ⟨rfl, rfl, HR7.out.less fun _ e => e.elim⟩⟩)
              clear HR7 HB7 HRP HLB
              go_wp2_with fail
              go_roundw
              case rel => exact ⟨k + 1, by omega, by omega, by go_num, HPN⟩
              case measure => simp [intOf]; omega
             ·
              exfalso
              obtain ⟨X, V, jb, kb, sz, rv, ps, -, -, hn1, hn2, -⟩ := hor
              have := HNB.out
              omega
           ·
            by_cases h5 : kd = 5
            ·
             as_aux_lemma =>
              subst h5
              obtain ⟨X0, hr0⟩ := HOR.out.rel
              have HRO0 := Lib.hid (hr0.below HB5.out)
              clear hr0 HOR
              have htw : Two _ w.heap.size d m K A w5 := ⟨HRO0.out, HLB0.out.bnd⟩
              have HDO := Lib.hid (does6_c htw HBW.out.size (by have := HKK.out; have := HKL.out; omega) ⟨#[]⟩ ⟨#[]⟩ none 0 0 n q)
              have HRP1 := Lib.hid (HRP0.out.crash n q)
              obtain ⟨A9, hA9⟩ : ∃ A9, A9 = (A.crash n q) := ⟨_, rfl⟩
              rw [← hA9] at HDO HRP1
              clear htw hA9
              go_wp2_with fail
              refine HDO.out.mono ?_
              rintro e121 w121 ⟨rfl, htw, hb121, hk121⟩
              have HLB1 := Lib.hid ((Lb.of htw.bnd htw.rel.gd).mono (show K + 1 ≤ K + 2 by omega))
              have HRT := Lib.hid htw.rel
              have HBT := Lib.hid (HBW.out.trans hb121)
              have HKT := Lib.hid hk121
              clear htw hb121 hk121 HDO HRP0 HLB0
              have HRO := Lib.hid (HRT.out.mono (show 3 * (K + 1) ≤ 3 * (K + 2) by omega))
              have HRP3 := HRP1
              have HLB3 := HLB1
              have HBC3 := HBT
              obtain ⟨A3, hA3⟩ : ∃ A3, A3 = A9 := ⟨_, rfl⟩
              obtain ⟨K3, hK3⟩ : ∃ K3, K3 = K + 2 := ⟨_, rfl⟩
              rw [← hA3] at HRO HRP3 HLB3
              rw [← hK3] at HRO HLB3
              have HK3 := Lib.hid (show K3 + 8 ≤ 12 * (k + 1) + 12 from by have := HKK.out; omega)
              clear hA3 hK3 HRT HKT HBT HRP1 HLB1 HRO0
              have hnm := HNB.out
              have POB := Lib.hid (popen_bad nm d w121 (by have := HNL.out; omega) hnm)
              have ROB := Lib.hid (ropen_bad nm m w121 (by have := HNL.out; omega) hnm)
              have HRL := HRO
              have HLB := HLB3
              have HRP := HRP3
              have HBC := HBC3
              have HK9 := Lib.hid (show K3 ≤ 12 * (k + 1) + 12 from by have := HK3.out; omega)
              clear HRO HLB3 HRP3 HBC3 HK3 hnm
              go_wp2_with fail
              refine POB.out.mono ?_
              rintro eo wo ⟨rfl, e2⟩
              subst wo
              clear POB
              go_wp2_with fail
              refine ROB.out.mono ?_
              rintro eo wo ⟨rfl, e2⟩
              subst wo
              clear ROB
              go_upto_region 36 with fail
              obtain ⟨w122, hw122⟩ : ∃ W, W = World.drew w121 := ⟨_, rfl⟩
              have hb1220 : Below w121.heap.size w121 w122 := by rw [hw122]; exact below_drewN' _ w121 1
              have HR6 := Lib.hid (HRL.out.below hb1220)
              have HB6 := Lib.hid (HBC.out.trans (hb1220.mono HBC.out.size))
              have HIS := Lib.hid (is_c HR6.out HLB.out.bnd (by have := HK9.out; omega))
              refine anyH_begin (S := fun _ => True) (by kernel_rfl) ?_
              rw [← hw122]
              clear hw122 hb1220 HRL HBC
              refine aP 0 (d := 200) (op := .move (.tmp 7)) (.pointer (some ⟨d, 0, none⟩)) trivial ?_
              simp only [Act.put, sT, sZ, sS]
              refine aP 1 (d := 201) (op := .move (.tmp 9)) (.pointer (some ⟨m, 0, none⟩)) trivial ?_
              simp only [Act.put, sT, sZ, sS]
              refine anyH_callG 2 (d := some 202) (f := 19) (xs := #[(.tmp 200), (.tmp 201)]) (ts := #[25, 29]) (gd := none) (vs := #[.pointer (some ⟨d, 0, none⟩), .pointer (some ⟨m, 0, none⟩)]) (by kernel_rfl) (by rfl) wantedP (by go_simp) (by go_simp) (HIS.out) ?_
              rintro e122 w1221 ⟨rfl, hb122⟩
              have HR7 := Lib.hid (HR6.out.below hb122)
              have HB7 := Lib.hid (HB6.out.trans (hb122.mono HB6.out.size))
              clear hb122 HIS HR6 HB6
              refine ⟨_, rfl, trivial, fun _ => ?_⟩
              simp only [Act.put, sT, sZ, sS]
              refine anyH_pureG 3 (d := 203) (op := .unOp .not 4 (.tmp 202)) (gd := none) (.bool false) (by rfl) wantedP (by kernel_rfl) (by kernel_rfl) (by kernel_rfl) (fun _ _ _ h => h) (fun o1 ho W hW => by unfold execOp; simp only [ho]; go_simp) trivial ?_
              simp only [Act.put, sT, sZ, sS]
              refine aP 4 (d := 204) (op := .move (.tmp 203)) (.bool false) trivial ?_
              simp only [Act.put, sT, sZ, sS]
              refine anyH_pureG 5 (d := 205) (op := .move (.tmp 13)) (gd := some (4, false)) (.pointer none) (by rfl) (fun o ho => by simp only [Region.wanted, ho]; rfl) (by kernel_rfl) (by kernel_rfl) (by kernel_rfl) (fun _ _ _ h => h) (fun o ho W hW => by unfold execOp; simp only [ho]; go_simp) trivial ?_
              simp only [Act.put, sT, sZ, sS]
              refine anyH_pureG 6 (d := 206) (op := .binOp .neq 35 (.tmp 205) (.const (.pointer none)) 35) (gd := some (4, false)) (.bool false) (by rfl) (fun o ho => by simp only [Region.wanted, ho]; rfl) (by kernel_rfl) (by kernel_rfl) (by kernel_rfl) (fun _ _ _ h => h) (fun o1 ho W hW => by unfold execOp; simp only [ho]; go_simp; try simp) trivial ?_
              simp only [Act.put, sT, sZ, sS]
              refine anyH_pureG 7 (d := 207) (op := .move (.tmp 206)) (gd := some (4, false)) (.bool false) (by rfl) (fun o ho => by simp only [Region.wanted, ho]; rfl) (by kernel_rfl) (by kernel_rfl) (by kernel_rfl) (fun _ _ _ h => h) (fun o ho W hW => by unfold execOp; simp only [ho]; go_simp) trivial ?_
              simp only [Act.put, sT, sZ, sS]
              refine anyH_skip 8 (d := 208) (op := .move (.tmp 10)) (gd := some (7, true)) (by rfl) (fun o ho => by simp only [Region.wanted, ho]; rfl) (by kernel_rfl) (by kernel_rfl) (by kernel_rfl) (fun _ _ _ h => h) trivial ?_
              simp only [Act.put, sT, sZ, sS]
              refine anyH_skip 9 (d := 209) (op := .call { callee := .value (.func 20), args := #[(.tmp 208)], argTypes := #[31] }) (gd := some (7, true)) (by rfl) (fun o ho => by simp only [Region.wanted, ho]; rfl) (by kernel_rfl) (by kernel_rfl) (by kernel_rfl) (fun _ _ _ h => h) trivial ?_
              simp only [Act.put, sT, sZ, sS]
              refine anyH_skip 10 (d := 210) (op := .move (.tmp 13)) (gd := some (7, true)) (by rfl) (fun o ho => by simp only [Region.wanted, ho]; rfl) (by kernel_rfl) (by kernel_rfl) (by kernel_rfl) (fun _ _ _ h => h) trivial ?_
              simp only [Act.put, sT, sZ, sS]
              refine anyH_skip 11 (d := 211) (op := .nilCheck (.tmp 210)) (gd := some (7, true)) (by rfl) (fun o ho => by simp only [Region.wanted, ho]; rfl) (by kernel_rfl) (by kernel_rfl) (by kernel_rfl) (fun _ _ _ h => h) trivial ?_
              simp only [Act.put, sT, sZ, sS]
              refine anyH_skip 12 (d := 212) (op := .fieldAddr 53 (.tmp 211) 2) (gd := some (7, true)) (by rfl) (fun o ho => by simp only [Region.wanted, ho]; rfl) (by kernel_rfl) (by kernel_rfl) (by kernel_rfl) (fun _ _ _ h => h) trivial ?_
              simp only [Act.put, sT, sZ, sS]
              refine anyH_skip 13 (d := 213) (op := .load 32 (.tmp 212)) (gd := some (7, true)) (by rfl) (fun o ho => by simp only [Region.wanted, ho]; rfl) (by kernel_rfl) (by kernel_rfl) (by kernel_rfl) (fun _ _ _ h => h) trivial ?_
              simp only [Act.put, sT, sZ, sS]
              refine anyH_skip 14 (d := 214) (op := .call { callee := .value (.func 21), args := #[(.tmp 213)], argTypes := #[32] }) (gd := some (7, true)) (by rfl) (fun o ho => by simp only [Region.wanted, ho]; rfl) (by kernel_rfl) (by kernel_rfl) (by kernel_rfl) (fun _ _ _ h => h) trivial ?_
              simp only [Act.put, sT, sZ, sS]
              refine anyH_skip 15 (d := 215) (op := .binOp .neq 3 (.tmp 209) (.tmp 214) 3) (gd := some (7, true)) (by rfl) (fun o ho => by simp only [Region.wanted, ho]; rfl) (by kernel_rfl) (by kernel_rfl) (by kernel_rfl) (fun _ _ _ h => h) trivial ?_
              simp only [Act.put, sT, sZ, sS]
              refine anyH_pureG 16 (d := 216) (op := .pick (.tmp 207) (.tmp 215) (.const (.bool false))) (gd := some (4, false)) (.bool false) (by rfl) (fun o ho => by simp only [Region.wanted, ho]; rfl) (by kernel_rfl) (by kernel_rfl) (by kernel_rfl) (fun _ _ _ h => h) (fun o1 ho W hW => by unfold execOp; simp only [ho]; go_simp) trivial ?_
              simp only [Act.put, sT, sZ, sS]
              refine anyH_pureG 17 (d := 217) (op := .pick (.tmp 204) (.const (.bool true)) (.tmp 216)) (gd := none) (.bool false) (by rfl) wantedP (by kernel_rfl) (by kernel_rfl) (by kernel_rfl) (fun _ _ _ h => h) (fun o1 ho W hW => by unfold execOp; simp only [ho]; go_simp) trivial ?_
              simp only [Act.put, sT, sZ, sS]
              refine wpAnyH_done (by kernel_rfl) ?_ _
              have HPN := Lib.hid (show PlJ w d m (k + 1) nm (.pointer none) (.pointer none) w1221 from ⟨_, _, HRP.out, HLB.out, HK9.out, HB7.out, .inl ⟨rfl, rfl, HR7.out.less fun _ e => e.elim⟩⟩)
              clear HR7 HB7 HRP HLB
              go_wp2_with fail
              go_roundw
              case rel => exact ⟨k + 1, by omega, by omega, by go_num, HPN⟩
              case measure => simp [intOf]; omega
            ·
             have hk0 : (kd == 0) = false := by simp [h0]
             have hk1 : (kd == 1) = false := by simp [h1]
             have hk2 : (kd == 2) = false := by simp [h2]
             have hk3 : (kd == 3) = false := by simp [h3]
             have hk4 : (kd == 4) = false := by simp [h4]
             have hk5 : (kd == 5) = false := by simp [h5]
             have hor := HOR.out
             clear HOR
             rcases hor with hor | hor
             ·
              obtain ⟨rfl, rfl, hrl⟩ := hor
              have HRL := Lib.hid (hrl.below HB5.out)
              have HBC := HBW
              have HRP := HRP0
              have HLB := HLB0
              have HK9 := Lib.hid (show K ≤ 12 * (k + 1) + 12 from by have := HKK.out; omega)
              clear hrl
              go_upto_region 36 with fail
              obtain ⟨w126, hw126⟩ : ∃ W, W = World.drew w5 := ⟨_, rfl⟩
              have hb1260 : Below w5.heap.size w5 w126 := by rw [hw126]; exact below_drewN' _ w5 1
              have HR6 := Lib.hid (HRL.out.below hb1260)
              have HB6 := Lib.hid (HBC.out.trans (hb1260.mono HBC.out.size))
              have HIS := Lib.hid (is_c HR6.out HLB.out.bnd (by have := HK9.out; omega))
              refine anyH_begin (S := fun _ => True) (by kernel_rfl) ?_
              rw [← hw126]
              clear hw126 hb1260 HRL HBC
              refine aP 0 (d := 200) (op := .move (.tmp 7)) (.pointer (some ⟨d, 0, none⟩)) trivial ?_
              simp only [Act.put, sT, sZ, sS]
              refine aP 1 (d := 201) (op := .move (.tmp 9)) (.pointer (some ⟨m, 0, none⟩)) trivial ?_
              simp only [Act.put, sT, sZ, sS]
              refine anyH_callG 2 (d := some 202) (f := 19) (xs := #[(.tmp 200), (.tmp 201)]) (ts := #[25, 29]) (gd := none) (vs := #[.pointer (some ⟨d, 0, none⟩), .pointer (some ⟨m, 0, none⟩)]) (by kernel_rfl) (by rfl) wantedP (by go_simp) (by go_simp) (HIS.out) ?_
              rintro e126 w1261 ⟨rfl, hb126⟩
              have HR7 := Lib.hid (HR6.out.below hb126)
              have HB7 := Lib.hid (HB6.out.trans (hb126.mono HB6.out.size))
              clear hb126 HIS HR6 HB6
              refine ⟨_, rfl, trivial, fun _ => ?_⟩
              simp only [Act.put, sT, sZ, sS]
              refine anyH_pureG 3 (d := 203) (op := .unOp .not 4 (.tmp 202)) (gd := none) (.bool false) (by rfl) wantedP (by kernel_rfl) (by kernel_rfl) (by kernel_rfl) (fun _ _ _ h => h) (fun o1 ho W hW => by unfold execOp; simp only [ho]; go_simp) trivial ?_
              simp only [Act.put, sT, sZ, sS]
              refine aP 4 (d := 204) (op := .move (.tmp 203)) (.bool false) trivial ?_
              simp only [Act.put, sT, sZ, sS]
              refine anyH_pureG 5 (d := 205) (op := .move (.tmp 13)) (gd := some (4, false)) (.pointer none) (by rfl) (fun o ho => by simp only [Region.wanted, ho]; rfl) (by kernel_rfl) (by kernel_rfl) (by kernel_rfl) (fun _ _ _ h => h) (fun o ho W hW => by unfold execOp; simp only [ho]; go_simp) trivial ?_
              simp only [Act.put, sT, sZ, sS]
              refine anyH_pureG 6 (d := 206) (op := .binOp .neq 35 (.tmp 205) (.const (.pointer none)) 35) (gd := some (4, false)) (.bool false) (by rfl) (fun o ho => by simp only [Region.wanted, ho]; rfl) (by kernel_rfl) (by kernel_rfl) (by kernel_rfl) (fun _ _ _ h => h) (fun o1 ho W hW => by unfold execOp; simp only [ho]; go_simp; try simp) trivial ?_
              simp only [Act.put, sT, sZ, sS]
              refine anyH_pureG 7 (d := 207) (op := .move (.tmp 206)) (gd := some (4, false)) (.bool false) (by rfl) (fun o ho => by simp only [Region.wanted, ho]; rfl) (by kernel_rfl) (by kernel_rfl) (by kernel_rfl) (fun _ _ _ h => h) (fun o ho W hW => by unfold execOp; simp only [ho]; go_simp) trivial ?_
              simp only [Act.put, sT, sZ, sS]
              refine anyH_skip 8 (d := 208) (op := .move (.tmp 10)) (gd := some (7, true)) (by rfl) (fun o ho => by simp only [Region.wanted, ho]; rfl) (by kernel_rfl) (by kernel_rfl) (by kernel_rfl) (fun _ _ _ h => h) trivial ?_
              simp only [Act.put, sT, sZ, sS]
              refine anyH_skip 9 (d := 209) (op := .call { callee := .value (.func 20), args := #[(.tmp 208)], argTypes := #[31] }) (gd := some (7, true)) (by rfl) (fun o ho => by simp only [Region.wanted, ho]; rfl) (by kernel_rfl) (by kernel_rfl) (by kernel_rfl) (fun _ _ _ h => h) trivial ?_
              simp only [Act.put, sT, sZ, sS]
              refine anyH_skip 10 (d := 210) (op := .move (.tmp 13)) (gd := some (7, true)) (by rfl) (fun o ho => by simp only [Region.wanted, ho]; rfl) (by kernel_rfl) (by kernel_rfl) (by kernel_rfl) (fun _ _ _ h => h) trivial ?_
              simp only [Act.put, sT, sZ, sS]
              refine anyH_skip 11 (d := 211) (op := .nilCheck (.tmp 210)) (gd := some (7, true)) (by rfl) (fun o ho => by simp only [Region.wanted, ho]; rfl) (by kernel_rfl) (by kernel_rfl) (by kernel_rfl) (fun _ _ _ h => h) trivial ?_
              simp only [Act.put, sT, sZ, sS]
              refine anyH_skip 12 (d := 212) (op := .fieldAddr 53 (.tmp 211) 2) (gd := some (7, true)) (by rfl) (fun o ho => by simp only [Region.wanted, ho]; rfl) (by kernel_rfl) (by kernel_rfl) (by kernel_rfl) (fun _ _ _ h => h) trivial ?_
              simp only [Act.put, sT, sZ, sS]
              refine anyH_skip 13 (d := 213) (op := .load 32 (.tmp 212)) (gd := some (7, true)) (by rfl) (fun o ho => by simp only [Region.wanted, ho]; rfl) (by kernel_rfl) (by kernel_rfl) (by kernel_rfl) (fun _ _ _ h => h) trivial ?_
              simp only [Act.put, sT, sZ, sS]
              refine anyH_skip 14 (d := 214) (op := .call { callee := .value (.func 21), args := #[(.tmp 213)], argTypes := #[32] }) (gd := some (7, true)) (by rfl) (fun o ho => by simp only [Region.wanted, ho]; rfl) (by kernel_rfl) (by kernel_rfl) (by kernel_rfl) (fun _ _ _ h => h) trivial ?_
              simp only [Act.put, sT, sZ, sS]
              refine anyH_skip 15 (d := 215) (op := .binOp .neq 3 (.tmp 209) (.tmp 214) 3) (gd := some (7, true)) (by rfl) (fun o ho => by simp only [Region.wanted, ho]; rfl) (by kernel_rfl) (by kernel_rfl) (by kernel_rfl) (fun _ _ _ h => h) trivial ?_
              simp only [Act.put, sT, sZ, sS]
              refine anyH_pureG 16 (d := 216) (op := .pick (.tmp 207) (.tmp 215) (.const (.bool false))) (gd := some (4, false)) (.bool false) (by rfl) (fun o ho => by simp only [Region.wanted, ho]; rfl) (by kernel_rfl) (by kernel_rfl) (by kernel_rfl) (fun _ _ _ h => h) (fun o1 ho W hW => by unfold execOp; simp only [ho]; go_simp) trivial ?_
              simp only [Act.put, sT, sZ, sS]
              refine anyH_pureG 17 (d := 217) (op := .pick (.tmp 204) (.const (.bool true)) (.tmp 216)) (gd := none) (.bool false) (by rfl) wantedP (by kernel_rfl) (by kernel_rfl) (by kernel_rfl) (fun _ _ _ h => h) (fun o1 ho W hW => by unfold execOp; simp only [ho]; go_simp) trivial ?_
              simp only [Act.put, sT, sZ, sS]
              refine wpAnyH_done (by kernel_rfl) ?_ _
              have HPN := Lib.hid (show PlJ w d m (k + 1) nm (.pointer none) (.pointer none) w1261 from ⟨_, _, HRP.out, HLB.out, HK9.out, HB7.out, .inl ⟨rfl, rfl, HR7.out.less fun _ e => e.elim⟩⟩)
              clear HR7 HB7 HRP HLB
              go_wp2_with fail
              go_roundw
              case rel => exact ⟨k + 1, by omega, by omega, by go_num, HPN⟩
              case measure => simp [intOf]; omega
             ·
              exfalso
              obtain ⟨X, V, jb, kb, sz, rv, ps, -, -, hn1, hn2, -⟩ := hor
              have := HNB.out
              omega
      ·
       have hz3 : (2000 : Int) < (zn : Int) := by omega
       go_wp2_with fail
       go_ret
       exact ⟨rfl, HBW.out⟩
     | false =>
      clear hsm
      go_wp2_with fail
      go_ret
      exact ⟨rfl, HBW.out⟩
    ·
     have hk4 : 40 ≤ (k : Int) := by omega
     go_upto_region 15 with fail
     rw [← hX1]
     rw [← hw5]
     clear hX1 hw5 c0 c1 c2 c3 c4 hix
     go_wp2_with fail
     go_ret
     exact ⟨rfl, HBW.out⟩
   ·
    have HE := Lib.hid (show Below w.heap.size w wr from by obtain ⟨_, _, _, _, _, h, _⟩ := HP.out; exact h)
    clear HP
    go_wp2_with fail
    go_ret
    exact ⟨rfl, HE.out⟩
end Go.Proofs.YtihbgigledmliaaGreat

namespace Go.Proofs.YtihbgigledmliaaGreat
open Go.RowKit
theorem jplays_c (room : Int) (nm : ByteArray) (a2 : Option Addr) (len2 cap2 : Nat) (z2 : List (List FV)) (w : World) (r0 : (Lit.int .i64 room).wf = true) (r1 : nm.size ≤ maxLen) (r2 : StsIn w [.i, .b, .bb, .i, .i] a2 len2 cap2 z2) :
  Calls Tryz.prog 3 #[.int .i64 room, .string nm, .slice a2 len2 cap2] w fun e w' => e = .returned (.bool true) ∧ Below w.heap.size w w' := by
 by_cases h : 1 ≤ nm.size ∧ nm.size ≤ 159
 ·
  exact jplays_ok room nm a2 len2 cap2 z2 w r0 r1 h r2
 ·
  exact jplays_bad room nm a2 len2 cap2 z2 w r0 r1 (by omega) r2
end Go.Proofs.YtihbgigledmliaaGreat

