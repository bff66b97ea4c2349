/-
  What is used of: Jpi.
-/
import Derived.Test.YtihbgigledmliaaGreatQLJournalPlays5
import Derived.WalkKit
import Derived.WalkSpells
import Derived.WalkLawsBesides
import Derived.Lib.Hide
import Derived.Laws.BitsAllLaws
import Derived.Laws.AppendOwnNone
import Derived.BigQuiet
import Derived.Deep.QuietTactic
import Derived.Deep.MidRow
import Derived.Deep.RegionWith
import Derived.OrdersHeld
import Derived.Deep.RegionHeld
import Derived.RowKit
import Derived.Deep.RegionHeld3
import Derived.Deep.DrawnRows
import Derived.ProofKit
import Derived.OpenShut
import Derived.ShutString
import Derived.ChangeOld
import Derived.SizedLaws
import Derived.Laws.CopyOwn
import Derived.Laws.Rows
import Derived.Laws.Tables
import Derived.StillTailTactics
import Derived.Deep.CutRange
import Derived.Great.BuildSlice
import Derived.Maps.OwnSet
import Derived.RangeFuncFrom
import Derived.RangeFuncCalls
import Derived.RangeFuncLeaves
import Derived.OwnWalkIn
import Derived.TacticsInMore
import Derived.LoopNIn
import Derived.LoopIn
import Derived.Shelf.LaysM
import Derived.Shelf.Strconv.Clone
import Derived.Shelf.Sort.Plain
import Derived.Shelf.Strings.Prefix
import Derived.Shelf.Slices.In.SortNone
import Derived.Shelf.Bytes.SlEqualAll
import Derived.Shelf.Bytes.Small
import Derived.Maps.AppendAt
import Derived.Orders
import Derived.Sort.OwnSorted
import Derived.Maps.RangeWalk
import Derived.Lib.AppendZerosOnto
import Derived.Deep.Slices
import Derived.Deep.Fields
import Derived.Deep.Upon
import Derived.Lib.SlBytesConst
import Derived.Deep.CutBlock
namespace Go.Proofs.YtihbgigledmliaaGreat
open Go.RowKit
set_option linter.unusedVariables false
set_option maxRecDepth 100000 in
set_option maxHeartbeats 32000000 in
theorem jplays_ok (room : Int) (nm : ByteArray) (a2 : Option Addr) (len2 cap2 : Nat) (z2 : List (List FV)) (w : World) (r0 : (Lit.int .i64 room).wf = true) (r1 : nm.size ≤ maxLen) (hnm : 1 ≤ nm.size ∧ nm.size ≤ 159) (r2 : StsIn w [.i, .b, .bb, .i, .i] a2 len2 cap2 z2) :
  Calls Tryz.prog 3 #[.int .i64 room, .string nm, .slice a2 len2 cap2] w fun e w' => e = .returned (.bool true) ∧ Below w.heap.size w w' := by
 have hlc := r2.2.2.1
 have hcm := r2.2.2.2.1
 have HR2 := Lib.hid r2
 clear r2
 obtain ⟨R, hR4, hR⟩ := modNJ room 4000 (by omega) (by omega)
 rw [show ((4000 : Nat) : Int) = 4000 from rfl] at hR
 have HAW := Lib.hid (awake10_c w)
 have h2 : ¬ (200 : Int) < (nm.size : Int) := by omega
 have HNL := Lib.hid (show nm.size ≤ 200 from by omega)
 go_enter Tryz.func3, Tryz.ntmps3
 go_wp2_with fail
 refine HAW.out.mono ?_
 rintro e1 w1 ⟨rfl, hb1⟩
 have HB1 := Lib.hid hb1
 have HD := Lib.hid (dnew_c (R : Int) w1 (by omega) (by omega))
 clear hb1 HAW
 go_wp2_with fail
 (try rw [hR])
 refine HD.out.mono ?_
 rintro e2 w2 ⟨rfl, hk2, hb2⟩
 obtain ⟨d, hd⟩ : ∃ d, d = w1.heap.size := ⟨_, rfl⟩
 rw [← hd] at hk2 ⊢
 have HRN := Lib.hid (rnew_c ((newS (R : Int)).own d) (R : Int) w2 (fun k hk => (hk2.ownLt hk).2))
 have HK2 := Lib.hid hk2
 have HB2 := Lib.hid hb2
 have HDW := Lib.hid hd
 have HR4 := Lib.hid hR4
 clear hk2 hb2 HD hd hR4
 go_wp2_with fail
 refine HRN.out.mono ?_
 rintro e3 w3 ⟨rfl, hd3, hb3⟩
 obtain ⟨m, hm⟩ : ∃ m, m = w2.heap.size := ⟨_, rfl⟩
 rw [← hm] at hd3 ⊢
 have hwd : w.heap.size ≤ d := by have := HB1.out.size; have := HDW.out; omega
 have hdm : d ≤ m := by have := HB2.out.size; have := HDW.out; omega
 have HRO := Lib.hid (show Rel (fun _ => False) w.heap.size d m (3 * 0) ⟨(R : Int), -1, false, [], [], []⟩ ⟨(R : Int), -1, false, [], [], []⟩ w3 from ⟨⟨newS (R : Int), .slice none 0 0, by
  have e1 := HK2.out
  rw [HDW.out] at e1 hwd ⊢
  exact DK.base_leJ (e1.below hb3) HB1.out.size, anewS (R : Int) (by have := HR4.out; omega) (by have := HR4.out; omega), by
  have e2 := hd3.base_leJ (B' := w.heap.size) (by omega)
  exact e2.sta (Sta.refl _ _) (fun j hj => .inl (by rcases hj with hj | hj; exact hj; exact hj.elim)), fun j hj => hj.elim⟩, fun j hj => hj.elim⟩)
 have HBC3 := Lib.hid (HB1.out.trans ((HB2.out.mono HB1.out.size).trans (hb3.mono (Nat.le_trans HB1.out.size HB2.out.size))))
 have HRP3 := Lib.hid (Rp.start (R := 4000) (R : Int) (by omega) (by have := HR4.out; omega))
 have HLB3 := Lib.hid (show Lb 0 ⟨(R : Int), -1, false, [], [], []⟩ from ⟨Nat.le_refl _, Nat.le_refl _⟩)
 obtain ⟨A3, hA3⟩ : ∃ A3 : Ad, A3 = ⟨(R : Int), -1, false, [], [], []⟩ := ⟨_, rfl⟩
 rw [← hA3] at HRO HRP3 HLB3
 have HA3 := Lib.hid hA3
 obtain ⟨K3, hK3⟩ : ∃ K3, K3 = 0 := ⟨_, rfl⟩
 rw [← hK3] at HRO HLB3
 have HK3 := Lib.hid hK3
 clear hd3 hb3 HRN HK2 HB1 HB2 HDW hm hwd hdm hA3 hK3 HR4 hR
 have HNM := Lib.hid hnm
 have HGK3 := Lib.hid (HLB3.out.gk HRO.out.gd)
 have hr2 : (A3.load nm).2 = 0 := by rw [HA3.out]; exact first_ok R nm HNM.out.1 HNM.out.2
 have hrs : recsA A3 nm = [] := by rw [HA3.out]; rfl
 have hus : usedA A3 nm = 0 := by rw [HA3.out]; rfl
 have hpo := popen_c HRO.out (by have := HK3.out; omega) nm HNM.out.1 HNM.out.2 (HRP3.out.zl nm)
 have hkp := kp4_load nm HRP3.out HLB3.out
 have HRD := Lib.hid (fun (X : Nat → Prop) (N : Nat) (A1 : Ad) (W : World) (hw : Rel X w.heap.size d m N A1 A3 W) => ropen_c hw HGK3.out (by have := HK3.out; omega) nm HNM.out.1 HNM.out.2 (HRP3.out.zl nm))
 rw [hrs] at hpo HRD
 rw [hus] at hpo
 obtain ⟨r, hrr⟩ : ∃ r, A3.load nm = r := ⟨_, rfl⟩
 rw [hrr] at hpo HRD hkp hr2
 obtain ⟨A9, x⟩ := r
 (try simp only at hr2)
 subst hr2
 have HKP := Lib.hid hkp
 have HPO := Lib.hid hpo
 clear hpo hkp hrr hrs hus hnm HRP3 HLB3 HGK3
 go_wp2_with fail
 refine HPO.out.mono ?_
 intro eo wa hpo
 clear HPO
 obtain ⟨-, jb, E, a, n, c, rfl, g1, g2, g3, g4, g5, g6, g7, g8, g9⟩ := hpo.resolve_right (fun h => h.1 rfl)
 have hn0 : n = 0 := g5.ln.symm
 subst hn0
 have HRA := Lib.hid g1
 have HE1 := Lib.hid (And.intro g2 g3)
 have HJB := Lib.hid g4
 have HBA := Lib.hid (HBC3.out.trans g8)
 have HRD2 := Lib.hid (HRD.out _ _ _ _ HRA.out)
 clear g1 g2 g3 g4 g5 g6 g7 g8 g9 HRD HBC3 HRO hpo
 go_wp2_with fail
 refine HRD2.out.mono ?_
 intro eo wb hro
 clear HRD2
 obtain ⟨-, kb, V, rv9, rfl, f1, f2, f3, f4, f5⟩ := hro.resolve_right (fun h => h.1 rfl)
 have HP0 := Lib.hid (show PlJ w d m 0 nm (.pointer (some ⟨jb, 0, none⟩)) (.pointer (some ⟨kb, 0, none⟩)) wb from ⟨A9, K3 + 8, HKP.out.1, HKP.out.2, by have := HK3.out; omega, HBA.out.trans f4, .inr ⟨_, V, jb, kb, 0, rv9, [], rfl, rfl, HNM.out.1, HNM.out.2, ⟨f1.mono (by omega), .inl (.inr HE1.out.1), fun hv => by have := f3 jb hv; have := (HRA.out.lt jb (.inr HE1.out.1)).2; omega, (f5 jb (.inr HE1.out.1)).trans HJB.out, f2, fun j hj => .inr hj⟩, rfl, by omega⟩⟩)
 clear f1 f2 f3 f4 f5 hro HRA HE1 HJB HBA HKP HK3 HA3
 have HNG := HNM
 clear HNM
 go_wp2_with fail
 go_loopw [10, 13, 69] (fun jv kv i wr => ∃ k : Nat, k ≤ len2 ∧ k ≤ 40 ∧ i = .int .i64 k ∧ Hid (PlJ w d m k nm jv kv wr)) (fun _ _ i _ => len2 - (intOf i).toNat)
 case atStart => exact ⟨0, Nat.zero_le _, by omega, rfl, HP0⟩
 case round =>
  clear HP0
  obtain ⟨k, hk, hk40, rfl, HP⟩ := hrel
  by_cases hkn : k < len2
  ·
   obtain ⟨b, off, kd, s, ra, rn, rc, L, n, q, rfl, hb, hop⟩ := HR2.out.opj hkn
   obtain ⟨A, K, hrp, hlb, hK, hbw, hor⟩ := HP.out
   clear HP
   obtain ⟨za, zn, zc, zz⟩ := s
   have HOPJ := Lib.hid hop
   have HRP0 := Lib.hid hrp
   have HLB0 := Lib.hid hlb
   have HKK := Lib.hid hK
   have HKL := Lib.hid hk40
   have HOR := Lib.hid hor
   have c0 := (hbw.cell (p := ⟨b, off + k * 5, none⟩) hb).trans hop.c0
   have c1 := (hbw.cell (p := ⟨b, off + k * 5 + 1, none⟩) hb).trans hop.c1
   have c2 := (hbw.cell (p := ⟨b, off + k * 5 + 2, none⟩) hb).trans hop.c2
   have c3 := (hbw.cell (p := ⟨b, off + k * 5 + 3, none⟩) hb).trans hop.c3
   have c4 := (hbw.cell (p := ⟨b, off + k * 5 + 4, none⟩) hb).trans hop.c4
   have hix := fun W => run_opj_idx W b off len2 cap2 k hkn
   simp only at c1
   obtain ⟨w5, hw5⟩ : ∃ w5, w5 = wr.alloc (.cells #[.int .i64 kd, .slice za zn zc, .slice ra rn rc, .int .i64 n, .int .i64 q] 40) := ⟨_, rfl⟩
   have hb5 : Below wr.heap.size wr w5 := by rw [hw5]; exact (Below.refl _ _).alloc (Nat.le_refl _) _
   obtain ⟨X1, hX1⟩ : ∃ X1, X1 = wr.heap.size := ⟨_, rfl⟩
   have hbx : OpK w5 X1 kd (.slice za zn zc) (.slice ra rn rc) n q := by rw [hw5, hX1]; exact heap_alloc_new wr _
   obtain ⟨y0, y1, y2, y3, y4⟩ := hbx.cells
   have hsz5 : w5.heap.size = X1 + 1 := by rw [hw5, hX1]; simp
   have HOK := Lib.hid hbx
   have HB5 := Lib.hid hb5
   have HWR := Lib.hid hbw
   have HX5 := Lib.hid (show X1 = wr.heap.size ∧ w5.heap.size = X1 + 1 from ⟨hX1, hsz5⟩)
   have HBW := Lib.hid (show Below w.heap.size w w5 from hbw.trans (hb5.mono hbw.size))
   have HSM := Lib.hid (small_c ra rn rc L w5 (show BssIn w5 ra rn rc L from by
    obtain ⟨h1, h2, h3, h4, h5, h6⟩ := hop.s2
    exact ⟨h1, h2, h3, h4, h5.imp id fun ⟨b, o, e, hlt, hc⟩ => ⟨b, o, e, Nat.lt_of_lt_of_le hlt HBW.out.size, fun i s hs => (HBW.out.cell (p := ⟨b, o + i, none⟩) hlt).trans (hc i s hs)⟩, fun s hs => ⟨(h6 s hs).1.below HBW.out, (h6 s hs).2⟩⟩))
   clear hrp hlb hK hbw hor hop hbx hb5 hsz5 hb
   by_cases h40 : k < 40
   ·
    have hk4 : ¬ 40 ≤ (k : Int) := by omega
    go_upto_region 15 with fail
    rw [← hX1]
    rw [← hw5]
    clear hX1 hw5 c0 c1 c2 c3 c4 hix
    go_wp2_with fail
    refine HSM.out.mono ?_
    rintro e6 w6 ⟨r, rfl, e2, hsm⟩
    subst w6
    clear HSM
    cases r with
    | true =>
     have HSL := Lib.hid (hsm rfl)
     clear hsm
     by_cases hzn : zn ≤ 2000
     ·
      have hz3 : ¬ 2000 < (zn : Int) := by omega
      by_cases h0 : kd = 0
      ·
       as_aux_lemma =>
        subst h0
        have hor := HOR.out
        clear HOR
        rcases hor with hor | hor
        ·
         obtain ⟨rfl, rfl, hrl⟩ := hor
         have HRL := Lib.hid (hrl.below HB5.out)
         have HBC := HBW
         have HRP := HRP0
         have HLB := HLB0
         have HK9 := Lib.hid (show K ≤ 12 * (k + 1) + 12 from by have := HKK.out; omega)
         clear hrl
         go_upto_region 19 with fail
         obtain ⟨w130, hw130⟩ : ∃ W, W = World.drew w5 := ⟨_, rfl⟩
         have hb130 : Below w5.heap.size w5 w130 := by rw [hw130]; exact below_drewN' _ w5 1
         have HRLN := Lib.hid (HRL.out.below hb130)
         have HBCN := Lib.hid (HBC.out.trans (hb130.mono HBC.out.size))
         refine anyH_begin (S := fun _ => True) (by kernel_rfl) ?_
         rw [← hw130]
         clear hw130 hb130 HRL HBC
         have HRL := HRLN
         have HBC := HBCN
         clear HRLN HBCN
         refine aP 0 (d := 100) (op := .move (.tmp 13)) (.pointer none) trivial ?_
         simp only [Act.put, sT, sZ, sS]
         refine anyH_pureG 1 (d := 101) (op := .binOp .neq 35 (.tmp 100) (.const (.pointer none)) 35) (gd := none) (.bool false) (by rfl) wantedP (by kernel_rfl) (by kernel_rfl) (by kernel_rfl) (fun _ _ _ h => h) (fun o1 ho W hW => by unfold execOp; simp only [ho]; go_simp; try simp) trivial ?_
         simp only [Act.put, sT, sZ, sS]
         refine aP 2 (d := 102) (op := .move (.tmp 101)) (.bool false) trivial ?_
         simp only [Act.put, sT, sZ, sS]
         refine anyH_skip 3 (d := 103) (op := .move (.tmp 10)) (gd := some (2, true)) (by rfl) (fun o ho => by simp only [Region.wanted, ho]; rfl) (by kernel_rfl) (by kernel_rfl) (by kernel_rfl) (fun _ _ _ h => h) trivial ?_
         simp only [Act.put, sT, sZ, sS]
         refine anyH_skip 4 (d := 104) (op := .fieldAddr 40 (.tmp 16) 1) (gd := some (2, true)) (by rfl) (fun o ho => by simp only [Region.wanted, ho]; rfl) (by kernel_rfl) (by kernel_rfl) (by kernel_rfl) (fun _ _ _ h => h) trivial ?_
         simp only [Act.put, sT, sZ, sS]
         refine anyH_skip 5 (d := 105) (op := .load 38 (.tmp 104)) (gd := some (2, true)) (by rfl) (fun o ho => by simp only [Region.wanted, ho]; rfl) (by kernel_rfl) (by kernel_rfl) (by kernel_rfl) (fun _ _ _ h => h) trivial ?_
         simp only [Act.put, sT, sZ, sS]
         refine anyH_skip 6 (d := 106) (op := .call { callee := .value (.func 11), args := #[(.tmp 103), (.tmp 105)], argTypes := #[31, 38] }) (gd := some (2, true)) (by rfl) (fun o ho => by simp only [Region.wanted, ho]; rfl) (by kernel_rfl) (by kernel_rfl) (by kernel_rfl) (fun _ _ _ h => h) trivial ?_
         simp only [Act.put, sT, sZ, sS]
         refine anyH_skip 7 (d := 107) (op := .move (.tmp 13)) (gd := some (2, true)) (by rfl) (fun o ho => by simp only [Region.wanted, ho]; rfl) (by kernel_rfl) (by kernel_rfl) (by kernel_rfl) (fun _ _ _ h => h) trivial ?_
         simp only [Act.put, sT, sZ, sS]
         refine anyH_skip 8 (d := 108) (op := .fieldAddr 40 (.tmp 16) 1) (gd := some (2, true)) (by rfl) (fun o ho => by simp only [Region.wanted, ho]; rfl) (by kernel_rfl) (by kernel_rfl) (by kernel_rfl) (fun _ _ _ h => h) trivial ?_
         simp only [Act.put, sT, sZ, sS]
         refine anyH_skip 9 (d := 109) (op := .load 38 (.tmp 108)) (gd := some (2, true)) (by rfl) (fun o ho => by simp only [Region.wanted, ho]; rfl) (by kernel_rfl) (by kernel_rfl) (by kernel_rfl) (fun _ _ _ h => h) trivial ?_
         simp only [Act.put, sT, sZ, sS]
         refine anyH_skip 10 (d := 110) (op := .call { callee := .value (.func 12), args := #[(.tmp 107), (.tmp 109)], argTypes := #[35, 38] }) (gd := some (2, true)) (by rfl) (fun o ho => by simp only [Region.wanted, ho]; rfl) (by kernel_rfl) (by kernel_rfl) (by kernel_rfl) (fun _ _ _ h => h) trivial ?_
         simp only [Act.put, sT, sZ, sS]
         refine anyH_skip 11 (d := 111) (op := .binOp .neq 3 (.tmp 106) (.tmp 110) 3) (gd := some (2, true)) (by rfl) (fun o ho => by simp only [Region.wanted, ho]; rfl) (by kernel_rfl) (by kernel_rfl) (by kernel_rfl) (fun _ _ _ h => h) trivial ?_
         simp only [Act.put, sT, sZ, sS]
         refine anyH_pureG 12 (d := 112) (op := .pick (.tmp 102) (.tmp 111) (.const (.bool false))) (gd := none) (.bool false) (by rfl) wantedP (by kernel_rfl) (by kernel_rfl) (by kernel_rfl) (fun _ _ _ h => h) (fun o1 ho W hW => by unfold execOp; simp only [ho]; go_simp) trivial ?_
         simp only [Act.put, sT, sZ, sS]
         refine wpAnyH_done (by kernel_rfl) ?_ _
         go_upto_region 36 with fail
         obtain ⟨w131, hw131⟩ : ∃ W, W = World.drew w130 := ⟨_, rfl⟩
         have hb1310 : Below w130.heap.size w130 w131 := by rw [hw131]; exact below_drewN' _ w130 1
         have HR6 := Lib.hid (HRL.out.below hb1310)
         have HB6 := Lib.hid (HBC.out.trans (hb1310.mono HBC.out.size))
         have HIS := Lib.hid (is_c HR6.out HLB.out.bnd (by have := HK9.out; omega))
         refine anyH_begin (S := fun _ => True) (by kernel_rfl) ?_
         rw [← hw131]
         clear hw131 hb1310 HRL HBC
         refine aP 0 (d := 200) (op := .move (.tmp 7)) (.pointer (some ⟨d, 0, none⟩)) trivial ?_
         simp only [Act.put, sT, sZ, sS]
         refine aP 1 (d := 201) (op := .move (.tmp 9)) (.pointer (some ⟨m, 0, none⟩)) trivial ?_
         simp only [Act.put, sT, sZ, sS]
         refine anyH_callG 2 (d := some 202) (f := 19) (xs := #[(.tmp 200), (.tmp 201)]) (ts := #[25, 29]) (gd := none) (vs := #[.pointer (some ⟨d, 0, none⟩), .pointer (some ⟨m, 0, none⟩)]) (by kernel_rfl) (by rfl) wantedP (by go_simp) (by go_simp) (HIS.out) ?_
         rintro e131 w1311 ⟨rfl, hb131⟩
         have HR7 := Lib.hid (HR6.out.below hb131)
         have HB7 := Lib.hid (HB6.out.trans (hb131.mono HB6.out.size))
         clear hb131 HIS HR6 HB6
         refine ⟨_, rfl, trivial, fun _ => ?_⟩
         simp only [Act.put, sT, sZ, sS]
         refine anyH_pureG 3 (d := 203) (op := .unOp .not 4 (.tmp 202)) (gd := none) (.bool false) (by rfl) wantedP (by kernel_rfl) (by kernel_rfl) (by kernel_rfl) (fun _ _ _ h => h) (fun o1 ho W hW => by unfold execOp; simp only [ho]; go_simp) trivial ?_
         simp only [Act.put, sT, sZ, sS]
         refine aP 4 (d := 204) (op := .move (.tmp 203)) (.bool false) trivial ?_
         simp only [Act.put, sT, sZ, sS]
         refine anyH_pureG 5 (d := 205) (op := .move (.tmp 13)) (gd := some (4, false)) (.pointer none) (by rfl) (fun o ho => by simp only [Region.wanted, ho]; rfl) (by kernel_rfl) (by kernel_rfl) (by kernel_rfl) (fun _ _ _ h => h) (fun o ho W hW => by unfold execOp; simp only [ho]; go_simp) trivial ?_
         simp only [Act.put, sT, sZ, sS]
         refine anyH_pureG 6 (d := 206) (op := .binOp .neq 35 (.tmp 205) (.const (.pointer none)) 35) (gd := some (4, false)) (.bool false) (by rfl) (fun o ho => by simp only [Region.wanted, ho]; rfl) (by kernel_rfl) (by kernel_rfl) (by kernel_rfl) (fun _ _ _ h => h) (fun o1 ho W hW => by unfold execOp; simp only [ho]; go_simp; try simp) trivial ?_
         simp only [Act.put, sT, sZ, sS]
         refine anyH_pureG 7 (d := 207) (op := .move (.tmp 206)) (gd := some (4, false)) (.bool false) (by rfl) (fun o ho => by simp only [Region.wanted, ho]; rfl) (by kernel_rfl) (by kernel_rfl) (by kernel_rfl) (fun _ _ _ h => h) (fun o ho W hW => by unfold execOp; simp only [ho]; go_simp) trivial ?_
         simp only [Act.put, sT, sZ, sS]
         refine anyH_skip 8 (d := 208) (op := .move (.tmp 10)) (gd := some (7, true)) (by rfl) (fun o ho => by simp only [Region.wanted, ho]; rfl) (by kernel_rfl) (by kernel_rfl) (by kernel_rfl) (fun _ _ _ h => h) trivial ?_
         simp only [Act.put, sT, sZ, sS]
         refine anyH_skip 9 (d := 209) (op := .call { callee := .value (.func 20), args := #[(.tmp 208)], argTypes := #[31] }) (gd := some (7, true)) (by rfl) (fun o ho => by simp only [Region.wanted, ho]; rfl) (by kernel_rfl) (by kernel_rfl) (by kernel_rfl) (fun _ _ _ h => h) trivial ?_
         simp only [Act.put, sT, sZ, sS]
         refine anyH_skip 10 (d := 210) (op := .move (.tmp 13)) (gd := some (7, true)) (by rfl) (fun o ho => by simp only [Region.wanted, ho]; rfl) (by kernel_rfl) (by kernel_rfl) (by kernel_rfl) (fun _ _ _ h => h) trivial ?_
         simp only [Act.put, sT, sZ, sS]
         refine anyH_skip 11 (d := 211) (op := .nilCheck (.tmp 210)) (gd := some (7, true)) (by rfl) (fun o ho => by simp only [Region.wanted, ho]; rfl) (by kernel_rfl) (by kernel_rfl) (by kernel_rfl) (fun _ _ _ h => h) trivial ?_
         simp only [Act.put, sT, sZ, sS]
         refine anyH_skip 12 (d := 212) (op := .fieldAddr 53 (.tmp 211) 2) (gd := some (7, true)) (by rfl) (fun o ho => by simp only [Region.wanted, ho]; rfl) (by kernel_rfl) (by kernel_rfl) (by kernel_rfl) (fun _ _ _ h => h) trivial ?_
         simp only [Act.put, sT, sZ, sS]
         refine anyH_skip 13 (d := 213) (op := .load 32 (.tmp 212)) (gd := some (7, true)) (by rfl) (fun o ho => by simp only [Region.wanted, ho]; rfl) (by kernel_rfl) (by kernel_rfl) (by kernel_rfl) (fun _ _ _ h => h) trivial ?_
         simp only [Act.put, sT, sZ, sS]
         refine anyH_skip 14 (d := 214) (op := .call { callee := .value (.func 21), args := #[(.tmp 213)], argTypes := #[32] }) (gd := some (7, true)) (by rfl) (fun o ho => by simp only [Region.wanted, ho]; rfl) (by kernel_rfl) (by kernel_rfl) (by kernel_rfl) (fun _ _ _ h => h) trivial ?_
         simp only [Act.put, sT, sZ, sS]
         refine anyH_skip 15 (d := 215) (op := .binOp .neq 3 (.tmp 209) (.tmp 214) 3) (gd := some (7, true)) (by rfl) (fun o ho => by simp only [Region.wanted, ho]; rfl) (by kernel_rfl) (by kernel_rfl) (by kernel_rfl) (fun _ _ _ h => h) trivial ?_
         simp only [Act.put, sT, sZ, sS]
         refine anyH_pureG 16 (d := 216) (op := .pick (.tmp 207) (.tmp 215) (.const (.bool false))) (gd := some (4, false)) (.bool false) (by rfl) (fun o ho => by simp only [Region.wanted, ho]; rfl) (by kernel_rfl) (by kernel_rfl) (by kernel_rfl) (fun _ _ _ h => h) (fun o1 ho W hW => by unfold execOp; simp only [ho]; go_simp) trivial ?_
         simp only [Act.put, sT, sZ, sS]
         refine anyH_pureG 17 (d := 217) (op := .pick (.tmp 204) (.const (.bool true)) (.tmp 216)) (gd := none) (.bool false) (by rfl) wantedP (by kernel_rfl) (by kernel_rfl) (by kernel_rfl) (fun _ _ _ h => h) (fun o1 ho W hW => by unfold execOp; simp only [ho]; go_simp) trivial ?_
         simp only [Act.put, sT, sZ, sS]
         refine wpAnyH_done (by kernel_rfl) ?_ _
         have HPN := Lib.hid (show PlJ w d m (k + 1) nm (.pointer none) (.pointer none) w1311 from ⟨_, _, HRP.out, HLB.out, HK9.out, HB7.out, .inl ⟨rfl, rfl, HR7.out.less fun _ e => e.elim⟩⟩)
         clear HR7 HB7 HRP HLB
         go_wp2_with fail
         go_roundw
         case rel => exact ⟨k + 1, by omega, by omega, by go_num, HPN⟩
         case measure => simp [intOf]; omega
        ·
         obtain ⟨X, V, jb, kb, sz, rv, ps, rfl, rfl, hn1, hn2, hjs, hsz, hsb⟩ := hor
         have HNM := Lib.hid (And.intro hn1 hn2)
         have HXJ := Lib.hid (show X1 ≠ jb from fun e => by have := (hjs.rel.lt jb hjs.xj).2; have := HX5.out; omega)
         have HXV := Lib.hid (show ¬ V X1 from fun e => by have := (hjs.rel.lt X1 (hjs.vx X1 e)).2; have := HX5.out; omega)
         have HGK := Lib.hid (HLB0.out.gk hjs.rel.gd)
         have HJS := Lib.hid (hjs.with HB5.out HWR.out.size X1 (by have := HX5.out; omega) (by have := HX5.out; omega))
         have HSZ0 := Lib.hid hsz
         have HSB0 := Lib.hid hsb
         clear hn1 hn2 hjs hsz hsb
         go_upto_region 19 with fail
         obtain ⟨w1270, hw127⟩ : ∃ W, W = World.drew w5 := ⟨_, rfl⟩
         have hb1270 : Below w5.heap.size w5 w1270 := by rw [hw127]; exact below_drewN' _ w5 1
         have HJ0 := Lib.hid (HJS.out.below hb1270)
         have HB0 := Lib.hid (HBW.out.trans (hb1270.mono HBW.out.size))
         have HOK0 := Lib.hid (HOK.out.below hb1270)
         have HSK := Lib.hid (fun (W : World) (hk : W.heap[X1]? = w1270.heap[X1]?) => show HasC [(⟨X1, 1, none⟩, .slice za zn zc)] W from by
          obtain ⟨g0, g1, g2, g3, g4⟩ := (HOK0.out.at hk).cells
          intro q hq
          simp only [List.mem_cons, List.not_mem_nil, or_false] at hq
          subst hq
          exact g1)
         have HS := Lib.hid (HSK.out w1270 rfl)
         have HLC := Lib.hid (fun W (hW : HasC [(⟨X1, 1, none⟩, .slice za zn zc)] W) => run_cell_sl W X1 1 za zn zc (hW (⟨X1, 1, none⟩, .slice za zn zc) (by simp)))
         have hc1 := papp_c HJ0.out (by have := HKK.out; have := HKL.out; omega) (by have := HNM.out; omega) (by have := HSB0.out; have := HKL.out; omega) za zn zc zz (HOPJ.out.s1.1.below HB0.out) HOPJ.out.s1.2.1 (by omega)
         obtain ⟨r, hrr⟩ : ∃ r, A.step ⟨1, nm, ⟨#[]⟩, Frm.frameL zz⟩ = r := ⟨_, rfl⟩
         rw [hrr] at hc1
         have HRR := Lib.hid hrr
         obtain ⟨A9, x⟩ := r
         have HC1 := Lib.hid hc1
         refine anyH_begin (S := HasC [(⟨X1, 1, none⟩, .slice za zn zc)]) (by kernel_rfl) ?_
         rw [← hw127]
         clear hw127 hb1270 hc1
         refine aP 0 (d := 100) (op := .move (.tmp 13)) (.pointer (some ⟨kb, 0, none⟩)) HS.out ?_
         simp only [Act.put, sT, sZ, sS]
         refine anyH_pureG 1 (d := 101) (op := .binOp .neq 35 (.tmp 100) (.const (.pointer none)) 35) (gd := none) (.bool true) (by rfl) wantedP (by kernel_rfl) (by kernel_rfl) (by kernel_rfl) (fun _ _ _ h => h) (fun o1 ho W hW => by unfold execOp; simp only [ho]; go_simp; try simp) HS.out ?_
         simp only [Act.put, sT, sZ, sS]
         refine aP 2 (d := 102) (op := .move (.tmp 101)) (.bool true) HS.out ?_
         simp only [Act.put, sT, sZ, sS]
         refine anyH_pureG 3 (d := 103) (op := .move (.tmp 10)) (gd := some (2, true)) (.pointer (some ⟨jb, 0, none⟩)) (by rfl) (fun o ho => by simp only [Region.wanted, ho]; rfl) (by kernel_rfl) (by kernel_rfl) (by kernel_rfl) (fun _ _ _ h => h) (fun o ho W hW => by unfold execOp; simp only [ho]; go_simp) HS.out ?_
         simp only [Act.put, sT, sZ, sS]
         refine anyH_pureG 4 (d := 104) (op := .fieldAddr 40 (.tmp 16) 1) (gd := some (2, true)) (.pointer (some ⟨X1, 1, none⟩)) (by rfl) (fun o ho => by simp only [Region.wanted, ho]; rfl) (by kernel_rfl) (by kernel_rfl) (by kernel_rfl) (fun _ _ _ h => h) (fun o ho W hW => by unfold execOp; simp only [ho]; go_simp) HS.out ?_
         simp only [Act.put, sT, sZ, sS]
         refine anyH_loadG 5 (d := 105) (ty := 38) (x := (.tmp 104)) (gd := some (2, true)) (p := .pointer (some ⟨X1, 1, none⟩)) (.slice za zn zc) (by rfl) (fun o ho => by simp only [Region.wanted, ho]; rfl) (by kernel_rfl) (by kernel_rfl) (by kernel_rfl) (fun _ _ _ h => h) (by rfl) HLC.out HS.out ?_
         simp only [Act.put, sT, sZ, sS]
         refine anyH_pureG 7 (d := 107) (op := .move (.tmp 13)) (gd := some (2, true)) (.pointer (some ⟨kb, 0, none⟩)) (by rfl) (fun o ho => by simp only [Region.wanted, ho]; rfl) (by kernel_rfl) (by kernel_rfl) (by kernel_rfl) (fun _ _ _ h => h) (fun o ho W hW => by unfold execOp; simp only [ho]; go_simp) HS.out ?_
         simp only [Act.put, sT, sZ, sS]
         refine anyH_pureG 8 (d := 108) (op := .fieldAddr 40 (.tmp 16) 1) (gd := some (2, true)) (.pointer (some ⟨X1, 1, none⟩)) (by rfl) (fun o ho => by simp only [Region.wanted, ho]; rfl) (by kernel_rfl) (by kernel_rfl) (by kernel_rfl) (fun _ _ _ h => h) (fun o ho W hW => by unfold execOp; simp only [ho]; go_simp) HS.out ?_
         simp only [Act.put, sT, sZ, sS]
         refine anyH_loadG 9 (d := 109) (ty := 38) (x := (.tmp 108)) (gd := some (2, true)) (p := .pointer (some ⟨X1, 1, none⟩)) (.slice za zn zc) (by rfl) (fun o ho => by simp only [Region.wanted, ho]; rfl) (by kernel_rfl) (by kernel_rfl) (by kernel_rfl) (fun _ _ _ h => h) (by rfl) HLC.out HS.out ?_
         simp only [Act.put, sT, sZ, sS]
         refine anyH_callG 6 (d := some 106) (f := 11) (xs := #[(.tmp 103), (.tmp 105)]) (ts := #[31, 38]) (gd := some (2, true)) (vs := #[.pointer (some ⟨jb, 0, none⟩), .slice za zn zc]) (by kernel_rfl) (by rfl) (fun o ho => by simp only [Region.wanted, ho]; rfl) (by go_simp) (by go_simp) (HC1.out) ?_
         rintro e127 w127 ⟨rfl, g1, g2, g3⟩
         have HJ1 := Lib.hid g1
         have HB1 := Lib.hid (HB0.out.trans g2)
         have HS1 := Lib.hid (HSK.out w127 (g3 X1 (.inr rfl) HXJ.out))
         have HOX1 := Lib.hid (g3 X1 (.inr rfl) HXJ.out)
         have HC2 := Lib.hid (dapp_c HJ1.out HGK.out (by have := HKK.out; have := HKL.out; omega) (by have := HNM.out; omega) (by have := flat_low ps; have := HSZ0.out; have := HSB0.out; have := HKL.out; omega) za zn zc zz (HOPJ.out.s1.1.below HB1.out) (fun b o s e hn => rd_blkJ HOPJ.out.s1.1 e hn) HOPJ.out.s1.2.1 (by omega))
         rw [hrr] at HC2
         clear g1 g2 g3 HC1
         refine ⟨_, rfl, HS1.out, fun _ => ?_⟩
         simp only [Act.put, sT, sZ, sS]
         refine anyH_callG 10 (d := some 110) (f := 12) (xs := #[(.tmp 107), (.tmp 109)]) (ts := #[35, 38]) (gd := some (2, true)) (vs := #[.pointer (some ⟨kb, 0, none⟩), .slice za zn zc]) (by kernel_rfl) (by rfl) (fun o ho => by simp only [Region.wanted, ho]; rfl) (by go_simp) (by go_simp) (HC2.out) ?_
         rintro e127b w127b ⟨rfl, X9, V9, rv9, g1, g2, g3, g4⟩
         have HS2 := Lib.hid (HSK.out w127b ((g4 X1 (.inr rfl) HXV.out).trans HOX1.out))
         have HJ2 := Lib.hid g1
         have HBC := Lib.hid (HB1.out.trans g3)
         clear g1 g2 g3 g4 HC2 HJ1 HB1
         refine ⟨_, rfl, HS2.out, fun _ => ?_⟩
         simp only [Act.put, sT, sZ, sS]
         refine anyH_pureG 11 (d := 111) (op := .binOp .neq 3 (.tmp 106) (.tmp 110) 3) (gd := some (2, true)) (.bool false) (by rfl) (fun o ho => by simp only [Region.wanted, ho]; rfl) (by kernel_rfl) (by kernel_rfl) (by kernel_rfl) (fun _ _ _ h => h) (fun o1 ho W hW => by unfold execOp; simp only [ho]; go_simp; try simp) HS2.out ?_
         simp only [Act.put, sT, sZ, sS]
         refine anyH_pureG 12 (d := 112) (op := .pick (.tmp 102) (.tmp 111) (.const (.bool false))) (gd := none) (.bool false) (by rfl) wantedP (by kernel_rfl) (by kernel_rfl) (by kernel_rfl) (fun _ _ _ h => h) (fun o1 ho W hW => by unfold execOp; simp only [ho]; go_simp) HS2.out ?_
         simp only [Act.put, sT, sZ, sS]
         refine wpAnyH_done (by kernel_rfl) ?_ _
         clear HS HS1 HS2 HLC HSK HOK0 HJ0 HB0 hrr HOX1
         have HRP9 := Lib.hid (show Rp 4000 A9 ∧ Lb (K + 8) A9 from by
          have h9 := kp4_step ⟨1, nm, ⟨#[]⟩, Frm.frameL zz⟩ K A HRP0.out HLB0.out
          simp only [HRR.out] at h9
          exact ⟨h9.1, h9.2.mono (by omega)⟩)
         have HRP := Lib.hid HRP9.out.1
         have HLB := Lib.hid HRP9.out.2
         have HK9 := Lib.hid (show K + 8 ≤ 12 * (k + 1) + 12 from by have := HKK.out; omega)
         clear HRP9 HRP0 HLB0
         by_cases hx : x = 0
         ·
          subst hx
          have HJ := Lib.hid (show Js X9 V9 w.heap.size d m jb kb (3 * (K + 8)) nm A9 A9 (sz + (8 + zn)) rv9 (ps ++ [zz]) w127b from HJ2.out.mono (by omega))
          have HSZ := Lib.hid (show sz + (8 + zn) = (Frm.flatF (ps ++ [zz])).length from by rw [Frm.flat_app, Frm.flat_one, List.length_append, Frm.frame_len, ← HSZ0.out]; have h1 : zz.length = zn := HOPJ.out.s1.1.1; rw [h1])
          have HSB := Lib.hid (show sz + (8 + zn) ≤ 10000 * (k + 1 + 1) from by have := HSB0.out; omega)
          clear HJ2 HSZ0 HSB0 HRR HGK
          go_upto_region 36 with fail
          obtain ⟨w128, hw128⟩ : ∃ W, W = World.drew w127b := ⟨_, rfl⟩
          have hb1280 : Below w127b.heap.size w127b w128 := by rw [hw128]; exact below_drewN' _ w127b 1
          have HJ6 := Lib.hid (HJ.out.below hb1280)
          have HB6 := Lib.hid (HBC.out.trans (hb1280.mono HBC.out.size))
          have HIS := Lib.hid (is_c HJ6.out.rel HLB.out.bnd (by have := HK9.out; omega))
          obtain ⟨rx9, rxn9, rxc9, hrv9⟩ := HJ6.out.rk.own.sl
          have HS36 := Lib.hid (show HasC [(⟨kb, 2, none⟩, rv9)] w128 from by
           obtain ⟨q0, q1, q2⟩ := HJ6.out.rk.cells
           intro q hq
           simp only [List.mem_cons, List.not_mem_nil, or_false] at hq
           subst hq
           exact q2)
          have HX36 := Lib.hid (show ∀ q ∈ ([(⟨kb, 2, none⟩, rv9)] : List (Addr × Value)), q.1.block < w128.heap.size from by
           have := (Array.getElem?_eq_some_iff.1 HJ6.out.rk.row).1
           intro q hq
           simp only [List.mem_cons, List.not_mem_nil, or_false] at hq
           subst hq
           exact this)
          have HL36 := Lib.hid (fun W (hW : HasC [(⟨kb, 2, none⟩, rv9)] W) => run_cell_v W ⟨kb, 2, none⟩ rv9 ⟨rx9, rxn9, rxc9, hrv9⟩ (hW (⟨kb, 2, none⟩, rv9) (by simp)))
          refine anyH_begin (S := HasC [(⟨kb, 2, none⟩, rv9)]) (by kernel_rfl) ?_
          rw [← hw128]
          clear hw128 hb1280 HJ HBC hrv9
          refine aP 0 (d := 200) (op := .move (.tmp 7)) (.pointer (some ⟨d, 0, none⟩)) HS36.out ?_
          simp only [Act.put, sT, sZ, sS]
          refine aP 1 (d := 201) (op := .move (.tmp 9)) (.pointer (some ⟨m, 0, none⟩)) HS36.out ?_
          simp only [Act.put, sT, sZ, sS]
          refine anyH_callG 2 (d := some 202) (f := 19) (xs := #[(.tmp 200), (.tmp 201)]) (ts := #[25, 29]) (gd := none) (vs := #[.pointer (some ⟨d, 0, none⟩), .pointer (some ⟨m, 0, none⟩)]) (by kernel_rfl) (by rfl) wantedP (by go_simp) (by go_simp) (HIS.out) ?_
          rintro e128 w1281 ⟨rfl, hb128⟩
          have HS37 := Lib.hid (HS36.out.below hb128 HX36.out)
          have HJ7 := Lib.hid (HJ6.out.below hb128)
          have HB7 := Lib.hid (HB6.out.trans (hb128.mono HB6.out.size))
          have HPZ := Lib.hid (psize_c jb d nm ((sz + (8 + zn) : Nat) : Int) w1281 HJ7.out.rj)
          have HRZ := Lib.hid (show Calls Tryz.prog 21 #[rv9] w1281 fun e w' => e = .returned (.int .i64 ((sz + (8 + zn) : Nat) : Int)) ∧ w' = w1281 from by
           obtain ⟨ya, yn, yc, hyv, -, -, -, hyr⟩ := HJ7.out.rk.own.row
           rw [hyv, HSZ.out]
           exact rsize_c ya yn yc _ w1281 hyr (by have := hyr.1; have := flat_low (ps ++ [zz]); have := HSZ.out; have := HSB.out; omega) (by have := HSZ.out; have := HSB.out; omega))
          clear hb128 HIS HS36 HX36 HJ6 HB6
          refine ⟨_, rfl, HS37.out, fun _ => ?_⟩
          simp only [Act.put, sT, sZ, sS]
          refine anyH_pureG 3 (d := 203) (op := .unOp .not 4 (.tmp 202)) (gd := none) (.bool false) (by rfl) wantedP (by kernel_rfl) (by kernel_rfl) (by kernel_rfl) (fun _ _ _ h => h) (fun o1 ho W hW => by unfold execOp; simp only [ho]; go_simp) HS37.out ?_
          simp only [Act.put, sT, sZ, sS]
          refine aP 4 (d := 204) (op := .move (.tmp 203)) (.bool false) HS37.out ?_
          simp only [Act.put, sT, sZ, sS]
          refine anyH_pureG 5 (d := 205) (op := .move (.tmp 13)) (gd := some (4, false)) (.pointer (some ⟨kb, 0, none⟩)) (by rfl) (fun o ho => by simp only [Region.wanted, ho]; rfl) (by kernel_rfl) (by kernel_rfl) (by kernel_rfl) (fun _ _ _ h => h) (fun o ho W hW => by unfold execOp; simp only [ho]; go_simp) HS37.out ?_
          simp only [Act.put, sT, sZ, sS]
          refine anyH_pureG 6 (d := 206) (op := .binOp .neq 35 (.tmp 205) (.const (.pointer none)) 35) (gd := some (4, false)) (.bool true) (by rfl) (fun o ho => by simp only [Region.wanted, ho]; rfl) (by kernel_rfl) (by kernel_rfl) (by kernel_rfl) (fun _ _ _ h => h) (fun o1 ho W hW => by unfold execOp; simp only [ho]; go_simp; try simp) HS37.out ?_
          simp only [Act.put, sT, sZ, sS]
          refine anyH_pureG 7 (d := 207) (op := .move (.tmp 206)) (gd := some (4, false)) (.bool true) (by rfl) (fun o ho => by simp only [Region.wanted, ho]; rfl) (by kernel_rfl) (by kernel_rfl) (by kernel_rfl) (fun _ _ _ h => h) (fun o ho W hW => by unfold execOp; simp only [ho]; go_simp) HS37.out ?_
          simp only [Act.put, sT, sZ, sS]
          refine anyH_pureG 8 (d := 208) (op := .move (.tmp 10)) (gd := some (7, true)) (.pointer (some ⟨jb, 0, none⟩)) (by rfl) (fun o ho => by simp only [Region.wanted, ho]; rfl) (by kernel_rfl) (by kernel_rfl) (by kernel_rfl) (fun _ _ _ h => h) (fun o ho W hW => by unfold execOp; simp only [ho]; go_simp) HS37.out ?_
          simp only [Act.put, sT, sZ, sS]
          refine anyH_pureG 10 (d := 210) (op := .move (.tmp 13)) (gd := some (7, true)) (.pointer (some ⟨kb, 0, none⟩)) (by rfl) (fun o ho => by simp only [Region.wanted, ho]; rfl) (by kernel_rfl) (by kernel_rfl) (by kernel_rfl) (fun _ _ _ h => h) (fun o ho W hW => by unfold execOp; simp only [ho]; go_simp) HS37.out ?_
          simp only [Act.put, sT, sZ, sS]
          refine anyH_pureG 11 (d := 211) (op := .nilCheck (.tmp 210)) (gd := some (7, true)) (.pointer (some ⟨kb, 0, none⟩)) (by rfl) (fun o ho => by simp only [Region.wanted, ho]; rfl) (by kernel_rfl) (by kernel_rfl) (by kernel_rfl) (fun _ _ _ h => h) (fun o ho W hW => by unfold execOp; simp only [ho]; go_simp) HS37.out ?_
          simp only [Act.put, sT, sZ, sS]
          refine anyH_pureG 12 (d := 212) (op := .fieldAddr 53 (.tmp 211) 2) (gd := some (7, true)) (.pointer (some ⟨kb, 2, none⟩)) (by rfl) (fun o ho => by simp only [Region.wanted, ho]; rfl) (by kernel_rfl) (by kernel_rfl) (by kernel_rfl) (fun _ _ _ h => h) (fun o ho W hW => by unfold execOp; simp only [ho]; go_simp) HS37.out ?_
          simp only [Act.put, sT, sZ, sS]
          refine anyH_loadG 13 (d := 213) (ty := 32) (x := (.tmp 212)) (gd := some (7, true)) (p := .pointer (some ⟨kb, 2, none⟩)) (rv9) (by rfl) (fun o ho => by simp only [Region.wanted, ho]; rfl) (by kernel_rfl) (by kernel_rfl) (by kernel_rfl) (fun _ _ _ h => h) (by rfl) HL36.out HS37.out ?_
          simp only [Act.put, sT, sZ, sS]
          refine anyH_callG 9 (d := some 209) (f := 20) (xs := #[(.tmp 208)]) (ts := #[31]) (gd := some (7, true)) (vs := #[.pointer (some ⟨jb, 0, none⟩)]) (by kernel_rfl) (by rfl) (fun o ho => by simp only [Region.wanted, ho]; rfl) (by go_simp) (by go_simp) (HPZ.out) ?_
          rintro e128a e128aw ⟨rfl, e128ah⟩
          subst e128aw
          refine ⟨_, rfl, HS37.out, fun _ => ?_⟩
          simp only [Act.put, sT, sZ, sS]
          refine anyH_callG 14 (d := some 214) (f := 21) (xs := #[(.tmp 213)]) (ts := #[32]) (gd := some (7, true)) (vs := #[rv9]) (by kernel_rfl) (by rfl) (fun o ho => by simp only [Region.wanted, ho]; rfl) (by go_simp) (by go_simp) (HRZ.out) ?_
          rintro e128b e128bw ⟨rfl, e128bh⟩
          subst e128bw
          refine ⟨_, rfl, HS37.out, fun _ => ?_⟩
          simp only [Act.put, sT, sZ, sS]
          refine anyH_pureG 15 (d := 215) (op := .binOp .neq 3 (.tmp 209) (.tmp 214) 3) (gd := some (7, true)) (.bool false) (by rfl) (fun o ho => by simp only [Region.wanted, ho]; rfl) (by kernel_rfl) (by kernel_rfl) (by kernel_rfl) (fun _ _ _ h => h) (fun o1 ho W hW => by unfold execOp; simp only [ho]; go_simp; try simp) HS37.out ?_
          simp only [Act.put, sT, sZ, sS]
          refine anyH_pureG 16 (d := 216) (op := .pick (.tmp 207) (.tmp 215) (.const (.bool false))) (gd := some (4, false)) (.bool false) (by rfl) (fun o ho => by simp only [Region.wanted, ho]; rfl) (by kernel_rfl) (by kernel_rfl) (by kernel_rfl) (fun _ _ _ h => h) (fun o1 ho W hW => by unfold execOp; simp only [ho]; go_simp) HS37.out ?_
          simp only [Act.put, sT, sZ, sS]
          refine anyH_pureG 17 (d := 217) (op := .pick (.tmp 204) (.const (.bool true)) (.tmp 216)) (gd := none) (.bool false) (by rfl) wantedP (by kernel_rfl) (by kernel_rfl) (by kernel_rfl) (fun _ _ _ h => h) (fun o1 ho W hW => by unfold execOp; simp only [ho]; go_simp) HS37.out ?_
          simp only [Act.put, sT, sZ, sS]
          refine wpAnyH_done (by kernel_rfl) ?_ _
          have HPN := Lib.hid (show PlJ w d m (k + 1) nm (.pointer (some ⟨jb, 0, none⟩)) (.pointer (some ⟨kb, 0, none⟩)) w1281 from ⟨_, _, HRP.out, HLB.out, HK9.out, HB7.out, .inr ⟨_, _, _, _, _, _, _, rfl, rfl, HNM.out.1, HNM.out.2, HJ7.out, HSZ.out, HSB.out⟩⟩)
          clear HS37 HL36 HPZ HRZ HJ7 HB7 HRP HLB
          go_wp2_with fail
          go_roundw
          case rel => exact ⟨k + 1, by omega, by omega, by go_num, HPN⟩
          case measure => simp [intOf]; omega
         ·
          have HJ := Lib.hid (show Js X9 V9 w.heap.size d m jb kb (3 * (K + 8)) nm A9 A9 sz rv9 ps w127b from by
           have h9 := HJ2.out
           simp only [hx, if_false] at h9
           exact h9.mono (by omega))
          have HSZ := HSZ0
          have HSB := Lib.hid (show sz ≤ 10000 * (k + 1 + 1) from by have := HSB0.out; omega)
          clear HJ2 HSB0 HRR HGK
          go_upto_region 36 with fail
          obtain ⟨w129, hw129⟩ : ∃ W, W = World.drew w127b := ⟨_, rfl⟩
          have hb1290 : Below w127b.heap.size w127b w129 := by rw [hw129]; exact below_drewN' _ w127b 1
          have HJ6 := Lib.hid (HJ.out.below hb1290)
          have HB6 := Lib.hid (HBC.out.trans (hb1290.mono HBC.out.size))
          have HIS := Lib.hid (is_c HJ6.out.rel HLB.out.bnd (by have := HK9.out; omega))
          obtain ⟨rx9, rxn9, rxc9, hrv9⟩ := HJ6.out.rk.own.sl
          have HS36 := Lib.hid (show HasC [(⟨kb, 2, none⟩, rv9)] w129 from by
           obtain ⟨q0, q1, q2⟩ := HJ6.out.rk.cells
           intro q hq
           simp only [List.mem_cons, List.not_mem_nil, or_false] at hq
           subst hq
           exact q2)
          have HX36 := Lib.hid (show ∀ q ∈ ([(⟨kb, 2, none⟩, rv9)] : List (Addr × Value)), q.1.block < w129.heap.size from by
           have := (Array.getElem?_eq_some_iff.1 HJ6.out.rk.row).1
           intro q hq
           simp only [List.mem_cons, List.not_mem_nil, or_false] at hq
           subst hq
           exact this)
          have HL36 := Lib.hid (fun W (hW : HasC [(⟨kb, 2, none⟩, rv9)] W) => run_cell_v W ⟨kb, 2, none⟩ rv9 ⟨rx9, rxn9, rxc9, hrv9⟩ (hW (⟨kb, 2, none⟩, rv9) (by simp)))
          refine anyH_begin (S := HasC [(⟨kb, 2, none⟩, rv9)]) (by kernel_rfl) ?_
          rw [← hw129]
          clear hw129 hb1290 HJ HBC hrv9
          refine aP 0 (d := 200) (op := .move (.tmp 7)) (.pointer (some ⟨d, 0, none⟩)) HS36.out ?_
          simp only [Act.put, sT, sZ, sS]
          refine aP 1 (d := 201) (op := .move (.tmp 9)) (.pointer (some ⟨m, 0, none⟩)) HS36.out ?_
          simp only [Act.put, sT, sZ, sS]
          refine anyH_callG 2 (d := some 202) (f := 19) (xs := #[(.tmp 200), (.tmp 201)]) (ts := #[25, 29]) (gd := none) (vs := #[.pointer (some ⟨d, 0, none⟩), .pointer (some ⟨m, 0, none⟩)]) (by kernel_rfl) (by rfl) wantedP (by go_simp) (by go_simp) (HIS.out) ?_
          rintro e129 w1291 ⟨rfl, hb129⟩
          have HS37 := Lib.hid (HS36.out.below hb129 HX36.out)
          have HJ7 := Lib.hid (HJ6.out.below hb129)
          have HB7 := Lib.hid (HB6.out.trans (hb129.mono HB6.out.size))
          have HPZ := Lib.hid (psize_c jb d nm (sz : Int) w1291 HJ7.out.rj)
          have HRZ := Lib.hid (show Calls Tryz.prog 21 #[rv9] w1291 fun e w' => e = .returned (.int .i64 (sz : Int)) ∧ w' = w1291 from by
           obtain ⟨ya, yn, yc, hyv, -, -, -, hyr⟩ := HJ7.out.rk.own.row
           rw [hyv, HSZ.out]
           exact rsize_c ya yn yc _ w1291 hyr (by have := hyr.1; have := flat_low ps; have := HSZ.out; have := HSB.out; omega) (by have := HSZ.out; have := HSB.out; omega))
          clear hb129 HIS HS36 HX36 HJ6 HB6
          refine ⟨_, rfl, HS37.out, fun _ => ?_⟩
          simp only [Act.put, sT, sZ, sS]
          refine anyH_pureG 3 (d := 203) (op := .unOp .not 4 (.tmp 202)) (gd := none) (.bool false) (by rfl) wantedP (by kernel_rfl) (by kernel_rfl) (by kernel_rfl) (fun _ _ _ h => h) (fun o1 ho W hW => by unfold execOp; simp only [ho]; go_simp) HS37.out ?_
          simp only [Act.put, sT, sZ, sS]
          refine aP 4 (d := 204) (op := .move (.tmp 203)) (.bool false) HS37.out ?_
          simp only [Act.put, sT, sZ, sS]
          refine anyH_pureG 5 (d := 205) (op := .move (.tmp 13)) (gd := some (4, false)) (.pointer (some ⟨kb, 0, none⟩)) (by rfl) (fun o ho => by simp only [Region.wanted, ho]; rfl) (by kernel_rfl) (by kernel_rfl) (by kernel_rfl) (fun _ _ _ h => h) (fun o ho W hW => by unfold execOp; simp only [ho]; go_simp) HS37.out ?_
          simp only [Act.put, sT, sZ, sS]
          refine anyH_pureG 6 (d := 206) (op := .binOp .neq 35 (.tmp 205) (.const (.pointer none)) 35) (gd := some (4, false)) (.bool true) (by rfl) (fun o ho => by simp only [Region.wanted, ho]; rfl) (by kernel_rfl) (by kernel_rfl) (by kernel_rfl) (fun _ _ _ h => h) (fun o1 ho W hW => by unfold execOp; simp only [ho]; go_simp; try simp) HS37.out ?_
          simp only [Act.put, sT, sZ, sS]
          refine anyH_pureG 7 (d := 207) (op := .move (.tmp 206)) (gd := some (4, false)) (.bool true) (by rfl) (fun o ho => by simp only [Region.wanted, ho]; rfl) (by kernel_rfl) (by kernel_rfl) (by kernel_rfl) (fun _ _ _ h => h) (fun o ho W hW => by unfold execOp; simp only [ho]; go_simp) HS37.out ?_
          simp only [Act.put, sT, sZ, sS]
          refine anyH_pureG 8 (d := 208) (op := .move (.tmp 10)) (gd := some (7, true)) (.pointer (some ⟨jb, 0, none⟩)) (by rfl) (fun o ho => by simp only [Region.wanted, ho]; rfl) (by kernel_rfl) (by kernel_rfl) (by kernel_rfl) (fun _ _ _ h => h) (fun o ho W hW => by unfold execOp; simp only [ho]; go_simp) HS37.out ?_
          simp only [Act.put, sT, sZ, sS]
          refine anyH_pureG 10 (d := 210) (op := .move (.tmp 13)) (gd := some (7, true)) (.pointer (some ⟨kb, 0, none⟩)) (by rfl) (fun o ho => by simp only [Region.wanted, ho]; rfl) (by kernel_rfl) (by kernel_rfl) (by kernel_rfl) (fun _ _ _ h => h) (fun o ho W hW => by unfold execOp; simp only [ho]; go_simp) HS37.out ?_
          simp only [Act.put, sT, sZ, sS]
          refine anyH_pureG 11 (d := 211) (op := .nilCheck (.tmp 210)) (gd := some (7, true)) (.pointer (some ⟨kb, 0, none⟩)) (by rfl) (fun o ho => by simp only [Region.wanted, ho]; rfl) (by kernel_rfl) (by kernel_rfl) (by kernel_rfl) (fun _ _ _ h => h) (fun o ho W hW => by unfold execOp; simp only [ho]; go_simp) HS37.out ?_
          simp only [Act.put, sT, sZ, sS]
          refine anyH_pureG 12 (d := 212) (op := .fieldAddr 53 (.tmp 211) 2) (gd := some (7, true)) (.pointer (some ⟨kb, 2, none⟩)) (by rfl) (fun o ho => by simp only [Region.wanted, ho]; rfl) (by kernel_rfl) (by kernel_rfl) (by kernel_rfl) (fun _ _ _ h => h) (fun o ho W hW => by unfold execOp; simp only [ho]; go_simp) HS37.out ?_
          simp only [Act.put, sT, sZ, sS]
          refine anyH_loadG 13 (d := 213) (ty := 32) (x := (.tmp 212)) (gd := some (7, true)) (p := .pointer (some ⟨kb, 2, none⟩)) (rv9) (by rfl) (fun o ho => by simp only [Region.wanted, ho]; rfl) (by kernel_rfl) (by kernel_rfl) (by kernel_rfl) (fun _ _ _ h => h) (by rfl) HL36.out HS37.out ?_
          simp only [Act.put, sT, sZ, sS]
          refine anyH_callG 9 (d := some 209) (f := 20) (xs := #[(.tmp 208)]) (ts := #[31]) (gd := some (7, true)) (vs := #[.pointer (some ⟨jb, 0, none⟩)]) (by kernel_rfl) (by rfl) (fun o ho => by simp only [Region.wanted, ho]; rfl) (by go_simp) (by go_simp) (HPZ.out) ?_
          rintro e129a e129aw ⟨rfl, e129ah⟩
          subst e129aw
          refine ⟨_, rfl, HS37.out, fun _ => ?_⟩
          simp only [Act.put, sT, sZ, sS]
          refine anyH_callG 14 (d := some 214) (f := 21) (xs := #[(.tmp 213)]) (ts := #[32]) (gd := some (7, true)) (vs := #[rv9]) (by kernel_rfl) (by rfl) (fun o ho => by simp only [Region.wanted, ho]; rfl) (by go_simp) (by go_simp) (HRZ.out) ?_
          rintro e129b e129bw ⟨rfl, e129bh⟩
          subst e129bw
          refine ⟨_, rfl, HS37.out, fun _ => ?_⟩
          simp only [Act.put, sT, sZ, sS]
          refine anyH_pureG 15 (d := 215) (op := .binOp .neq 3 (.tmp 209) (.tmp 214) 3) (gd := some (7, true)) (.bool false) (by rfl) (fun o ho => by simp only [Region.wanted, ho]; rfl) (by kernel_rfl) (by kernel_rfl) (by kernel_rfl) (fun _ _ _ h => h) (fun o1 ho W hW => by unfold execOp; simp only [ho]; go_simp; try simp) HS37.out ?_
          simp only [Act.put, sT, sZ, sS]
          refine anyH_pureG 16 (d := 216) (op := .pick (.tmp 207) (.tmp 215) (.const (.bool false))) (gd := some (4, false)) (.bool false) (by rfl) (fun o ho => by simp only [Region.wanted, ho]; rfl) (by kernel_rfl) (by kernel_rfl) (by kernel_rfl) (fun _ _ _ h => h) (fun o1 ho W hW => by unfold execOp; simp only [ho]; go_simp) HS37.out ?_
          simp only [Act.put, sT, sZ, sS]
          refine anyH_pureG 17 (d := 217) (op := .pick (.tmp 204) (.const (.bool true)) (.tmp 216)) (gd := none) (.bool false) (by rfl) wantedP (by kernel_rfl) (by kernel_rfl) (by kernel_rfl) (fun _ _ _ h => h) (fun o1 ho W hW => by unfold execOp; simp only [ho]; go_simp) HS37.out ?_
          simp only [Act.put, sT, sZ, sS]
          refine wpAnyH_done (by kernel_rfl) ?_ _
          have HPN := Lib.hid (show PlJ w d m (k + 1) nm (.pointer (some ⟨jb, 0, none⟩)) (.pointer (some ⟨kb, 0, none⟩)) w1291 from ⟨_, _, HRP.out, HLB.out, HK9.out, HB7.out, .inr ⟨_, _, _, _, _, _, _, rfl, rfl, HNM.out.1, HNM.out.2, HJ7.out, HSZ.out, HSB.out⟩⟩)
          clear HS37 HL36 HPZ HRZ HJ7 HB7 HRP HLB
          go_wp2_with fail
          go_roundw
          case rel => exact ⟨k + 1, by omega, by omega, by go_num, HPN⟩
          case measure => simp [intOf]; omega
      ·
       by_cases h1 : kd = 1
       ·
        as_aux_lemma =>
         subst h1
         have hor := HOR.out
         clear HOR
         rcases hor with hor | hor
         ·
          obtain ⟨rfl, rfl, hrl⟩ := hor
          have HRL := Lib.hid (hrl.below HB5.out)
          have HBC := HBW
          have HRP := HRP0
          have HLB := HLB0
          have HK9 := Lib.hid (show K ≤ 12 * (k + 1) + 12 from by have := HKK.out; omega)
          clear hrl
          go_upto_region 36 with fail
          obtain ⟨w134, hw134⟩ : ∃ W, W = World.drew w5 := ⟨_, rfl⟩
          have hb1340 : Below w5.heap.size w5 w134 := by rw [hw134]; exact below_drewN' _ w5 1
          have HR6 := Lib.hid (HRL.out.below hb1340)
          have HB6 := Lib.hid (HBC.out.trans (hb1340.mono HBC.out.size))
          have HIS := Lib.hid (is_c HR6.out HLB.out.bnd (by have := HK9.out; omega))
          refine anyH_begin (S := fun _ => True) (by kernel_rfl) ?_
          rw [← hw134]
          clear hw134 hb1340 HRL HBC
          refine aP 0 (d := 200) (op := .move (.tmp 7)) (.pointer (some ⟨d, 0, none⟩)) trivial ?_
          simp only [Act.put, sT, sZ, sS]
          refine aP 1 (d := 201) (op := .move (.tmp 9)) (.pointer (some ⟨m, 0, none⟩)) trivial ?_
          simp only [Act.put, sT, sZ, sS]
          refine anyH_callG 2 (d := some 202) (f := 19) (xs := #[(.tmp 200), (.tmp 201)]) (ts := #[25, 29]) (gd := none) (vs := #[.pointer (some ⟨d, 0, none⟩), .pointer (some ⟨m, 0, none⟩)]) (by kernel_rfl) (by rfl) wantedP (by go_simp) (by go_simp) (HIS.out) ?_
          rintro e134 w1341 ⟨rfl, hb134⟩
          have HR7 := Lib.hid (HR6.out.below hb134)
          have HB7 := Lib.hid (HB6.out.trans (hb134.mono HB6.out.size))
          clear hb134 HIS HR6 HB6
          refine ⟨_, rfl, trivial, fun _ => ?_⟩
          simp only [Act.put, sT, sZ, sS]
          refine anyH_pureG 3 (d := 203) (op := .unOp .not 4 (.tmp 202)) (gd := none) (.bool false) (by rfl) wantedP (by kernel_rfl) (by kernel_rfl) (by kernel_rfl) (fun _ _ _ h => h) (fun o1 ho W hW => by unfold execOp; simp only [ho]; go_simp) trivial ?_
          simp only [Act.put, sT, sZ, sS]
          refine aP 4 (d := 204) (op := .move (.tmp 203)) (.bool false) trivial ?_
          simp only [Act.put, sT, sZ, sS]
          refine anyH_pureG 5 (d := 205) (op := .move (.tmp 13)) (gd := some (4, false)) (.pointer none) (by rfl) (fun o ho => by simp only [Region.wanted, ho]; rfl) (by kernel_rfl) (by kernel_rfl) (by kernel_rfl) (fun _ _ _ h => h) (fun o ho W hW => by unfold execOp; simp only [ho]; go_simp) trivial ?_
          simp only [Act.put, sT, sZ, sS]
          refine anyH_pureG 6 (d := 206) (op := .binOp .neq 35 (.tmp 205) (.const (.pointer none)) 35) (gd := some (4, false)) (.bool false) (by rfl) (fun o ho => by simp only [Region.wanted, ho]; rfl) (by kernel_rfl) (by kernel_rfl) (by kernel_rfl) (fun _ _ _ h => h) (fun o1 ho W hW => by unfold execOp; simp only [ho]; go_simp; try simp) trivial ?_
          simp only [Act.put, sT, sZ, sS]
          refine anyH_pureG 7 (d := 207) (op := .move (.tmp 206)) (gd := some (4, false)) (.bool false) (by rfl) (fun o ho => by simp only [Region.wanted, ho]; rfl) (by kernel_rfl) (by kernel_rfl) (by kernel_rfl) (fun _ _ _ h => h) (fun o ho W hW => by unfold execOp; simp only [ho]; go_simp) trivial ?_
          simp only [Act.put, sT, sZ, sS]
          refine anyH_skip 8 (d := 208) (op := .move (.tmp 10)) (gd := some (7, true)) (by rfl) (fun o ho => by simp only [Region.wanted, ho]; rfl) (by kernel_rfl) (by kernel_rfl) (by kernel_rfl) (fun _ _ _ h => h) trivial ?_
          simp only [Act.put, sT, sZ, sS]
          refine anyH_skip 9 (d := 209) (op := .call { callee := .value (.func 20), args := #[(.tmp 208)], argTypes := #[31] }) (gd := some (7, true)) (by rfl) (fun o ho => by simp only [Region.wanted, ho]; rfl) (by kernel_rfl) (by kernel_rfl) (by kernel_rfl) (fun _ _ _ h => h) trivial ?_
          simp only [Act.put, sT, sZ, sS]
          refine anyH_skip 10 (d := 210) (op := .move (.tmp 13)) (gd := some (7, true)) (by rfl) (fun o ho => by simp only [Region.wanted, ho]; rfl) (by kernel_rfl) (by kernel_rfl) (by kernel_rfl) (fun _ _ _ h => h) trivial ?_
          simp only [Act.put, sT, sZ, sS]
          refine anyH_skip 11 (d := 211) (op := .nilCheck (.tmp 210)) (gd := some (7, true)) (by rfl) (fun o ho => by simp only [Region.wanted, ho]; rfl) (by kernel_rfl) (by kernel_rfl) (by kernel_rfl) (fun _ _ _ h => h) trivial ?_
          simp only [Act.put, sT, sZ, sS]
          refine anyH_skip 12 (d := 212) (op := .fieldAddr 53 (.tmp 211) 2) (gd := some (7, true)) (by rfl) (fun o ho => by simp only [Region.wanted, ho]; rfl) (by kernel_rfl) (by kernel_rfl) (by kernel_rfl) (fun _ _ _ h => h) trivial ?_
          simp only [Act.put, sT, sZ, sS]
          refine anyH_skip 13 (d := 213) (op := .load 32 (.tmp 212)) (gd := some (7, true)) (by rfl) (fun o ho => by simp only [Region.wanted, ho]; rfl) (by kernel_rfl) (by kernel_rfl) (by kernel_rfl) (fun _ _ _ h => h) trivial ?_
          simp only [Act.put, sT, sZ, sS]
          refine anyH_skip 14 (d := 214) (op := .call { callee := .value (.func 21), args := #[(.tmp 213)], argTypes := #[32] }) (gd := some (7, true)) (by rfl) (fun o ho => by simp only [Region.wanted, ho]; rfl) (by kernel_rfl) (by kernel_rfl) (by kernel_rfl) (fun _ _ _ h => h) trivial ?_
          simp only [Act.put, sT, sZ, sS]
          refine anyH_skip 15 (d := 215) (op := .binOp .neq 3 (.tmp 209) (.tmp 214) 3) (gd := some (7, true)) (by rfl) (fun o ho => by simp only [Region.wanted, ho]; rfl) (by kernel_rfl) (by kernel_rfl) (by kernel_rfl) (fun _ _ _ h => h) trivial ?_
          simp only [Act.put, sT, sZ, sS]
          refine anyH_pureG 16 (d := 216) (op := .pick (.tmp 207) (.tmp 215) (.const (.bool false))) (gd := some (4, false)) (.bool false) (by rfl) (fun o ho => by simp only [Region.wanted, ho]; rfl) (by kernel_rfl) (by kernel_rfl) (by kernel_rfl) (fun _ _ _ h => h) (fun o1 ho W hW => by unfold execOp; simp only [ho]; go_simp) trivial ?_
          simp only [Act.put, sT, sZ, sS]
          refine anyH_pureG 17 (d := 217) (op := .pick (.tmp 204) (.const (.bool true)) (.tmp 216)) (gd := none) (.bool false) (by rfl) wantedP (by kernel_rfl) (by kernel_rfl) (by kernel_rfl) (fun _ _ _ h => h) (fun o1 ho W hW => by unfold execOp; simp only [ho]; go_simp) trivial ?_
          simp only [Act.put, sT, sZ, sS]
          refine wpAnyH_done (by kernel_rfl) ?_ _
          have HPN := Lib.hid (show PlJ w d m (k + 1) nm (.pointer none) (.pointer none) w1341 from ⟨_, _, HRP.out, HLB.out, HK9.out, HB7.out, .inl ⟨rfl, rfl, HR7.out.less fun _ e => e.elim⟩⟩)
          clear HR7 HB7 HRP HLB
          go_wp2_with fail
          go_roundw
          case rel => exact ⟨k + 1, by omega, by omega, by go_num, HPN⟩
          case measure => simp [intOf]; omega
         ·
          obtain ⟨X, V, jb, kb, sz, rv, ps, rfl, rfl, hn1, hn2, hjs, hsz, hsb⟩ := hor
          have HNM := Lib.hid (And.intro hn1 hn2)
          have HXJ := Lib.hid (show X1 ≠ jb from fun e => by have := (hjs.rel.lt jb hjs.xj).2; have := HX5.out; omega)
          have HXV := Lib.hid (show ¬ V X1 from fun e => by have := (hjs.rel.lt X1 (hjs.vx X1 e)).2; have := HX5.out; omega)
          have HGK := Lib.hid (HLB0.out.gk hjs.rel.gd)
          have HJS := Lib.hid (hjs.with HB5.out HWR.out.size X1 (by have := HX5.out; omega) (by have := HX5.out; omega))
          have HSZ0 := Lib.hid hsz
          have HSB0 := Lib.hid hsb
          clear hn1 hn2 hjs hsz hsb
          have hc1 := psync_c HJS.out
          have HDS := Lib.hid (fun (X V : Nat → Prop) (N : Nat) (A1 : Ad) (sz : Nat) (rv : Value) (ps : List (List Nat)) (W : World) (hw : Js X V w.heap.size d m jb kb N nm A1 A sz rv ps W) => dsync_c hw HGK.out.gs)
          obtain ⟨r, hrr⟩ : ∃ r, A.sync = r := ⟨_, rfl⟩
          rw [hrr] at hc1 HDS
          have HRR := Lib.hid hrr
          obtain ⟨A9, x⟩ := r
          have HC1 := Lib.hid hc1
          clear hc1 hrr
          go_wp2_with fail
          refine HC1.out.mono ?_
          rintro e132 w132 ⟨rfl, g1, g2, g3⟩
          have HJ1 := Lib.hid g1
          have HB1 := Lib.hid (HBW.out.trans g2)
          have HC2 := Lib.hid (HDS.out _ _ _ _ _ _ _ _ HJ1.out)
          clear g1 g2 g3 HC1 HDS
          go_wp2_with fail
          refine HC2.out.mono ?_
          rintro e132b w132b ⟨rfl, X9, V9, rv9, g1, g2, g3, g4⟩
          have HJ2 := Lib.hid (show Js X9 V9 w.heap.size d m jb kb (3 * K + 3) nm A9 A9 sz rv9 ps w132b from by
           have h9 := g1
           simp only [ite_self] at h9
           exact h9)
          have HBC := Lib.hid (HB1.out.trans g3)
          clear g1 g2 g3 g4 HC2 HJ1 HB1
          have HRP9 := Lib.hid (show Rp 4000 A9 ∧ Lb (K + 8) A9 from by
           have h9 := kp4_sync K A HRP0.out HLB0.out
           simp only [HRR.out] at h9
           exact ⟨h9.1, h9.2.mono (by omega)⟩)
          have HRP := Lib.hid HRP9.out.1
          have HLB := Lib.hid HRP9.out.2
          have HK9 := Lib.hid (show K + 8 ≤ 12 * (k + 1) + 12 from by have := HKK.out; omega)
          clear HRP9 HRP0 HLB0
          have HJ := Lib.hid (show Js X9 V9 w.heap.size d m jb kb (3 * (K + 8)) nm A9 A9 sz rv9 ps w132b from HJ2.out.mono (by omega))
          have HSZ := HSZ0
          have HSB := Lib.hid (show sz ≤ 10000 * (k + 1 + 1) from by have := HSB0.out; omega)
          clear HJ2 HSB0 HRR HGK
          go_upto_region 36 with fail
          obtain ⟨w133, hw133⟩ : ∃ W, W = World.drew w132b := ⟨_, rfl⟩
          have hb1330 : Below w132b.heap.size w132b w133 := by rw [hw133]; exact below_drewN' _ w132b 1
          have HJ6 := Lib.hid (HJ.out.below hb1330)
          have HB6 := Lib.hid (HBC.out.trans (hb1330.mono HBC.out.size))
          have HIS := Lib.hid (is_c HJ6.out.rel HLB.out.bnd (by have := HK9.out; omega))
          obtain ⟨rx9, rxn9, rxc9, hrv9⟩ := HJ6.out.rk.own.sl
          have HS36 := Lib.hid (show HasC [(⟨kb, 2, none⟩, rv9)] w133 from by
           obtain ⟨q0, q1, q2⟩ := HJ6.out.rk.cells
           intro q hq
           simp only [List.mem_cons, List.not_mem_nil, or_false] at hq
           subst hq
           exact q2)
          have HX36 := Lib.hid (show ∀ q ∈ ([(⟨kb, 2, none⟩, rv9)] : List (Addr × Value)), q.1.block < w133.heap.size from by
           have := (Array.getElem?_eq_some_iff.1 HJ6.out.rk.row).1
           intro q hq
           simp only [List.mem_cons, List.not_mem_nil, or_false] at hq
           subst hq
           exact this)
          have HL36 := Lib.hid (fun W (hW : HasC [(⟨kb, 2, none⟩, rv9)] W) => run_cell_v W ⟨kb, 2, none⟩ rv9 ⟨rx9, rxn9, rxc9, hrv9⟩ (hW (⟨kb, 2, none⟩, rv9) (by simp)))
          refine anyH_begin (S := HasC [(⟨kb, 2, none⟩, rv9)]) (by kernel_rfl) ?_
          rw [← hw133]
          clear hw133 hb1330 HJ HBC hrv9
          refine aP 0 (d := 200) (op := .move (.tmp 7)) (.pointer (some ⟨d, 0, none⟩)) HS36.out ?_
          simp only [Act.put, sT, sZ, sS]
          refine aP 1 (d := 201) (op := .move (.tmp 9)) (.pointer (some ⟨m, 0, none⟩)) HS36.out ?_
          simp only [Act.put, sT, sZ, sS]
          refine anyH_callG 2 (d := some 202) (f := 19) (xs := #[(.tmp 200), (.tmp 201)]) (ts := #[25, 29]) (gd := none) (vs := #[.pointer (some ⟨d, 0, none⟩), .pointer (some ⟨m, 0, none⟩)]) (by kernel_rfl) (by rfl) wantedP (by go_simp) (by go_simp) (HIS.out) ?_
          rintro e133 w1331 ⟨rfl, hb133⟩
          have HS37 := Lib.hid (HS36.out.below hb133 HX36.out)
          have HJ7 := Lib.hid (HJ6.out.below hb133)
          have HB7 := Lib.hid (HB6.out.trans (hb133.mono HB6.out.size))
          have HPZ := Lib.hid (psize_c jb d nm (sz : Int) w1331 HJ7.out.rj)
          have HRZ := Lib.hid (show Calls Tryz.prog 21 #[rv9] w1331 fun e w' => e = .returned (.int .i64 (sz : Int)) ∧ w' = w1331 from by
           obtain ⟨ya, yn, yc, hyv, -, -, -, hyr⟩ := HJ7.out.rk.own.row
           rw [hyv, HSZ.out]
           exact rsize_c ya yn yc _ w1331 hyr (by have := hyr.1; have := flat_low ps; have := HSZ.out; have := HSB.out; omega) (by have := HSZ.out; have := HSB.out; omega))
          clear hb133 HIS HS36 HX36 HJ6 HB6
          refine ⟨_, rfl, HS37.out, fun _ => ?_⟩
          simp only [Act.put, sT, sZ, sS]
          refine anyH_pureG 3 (d := 203) (op := .unOp .not 4 (.tmp 202)) (gd := none) (.bool false) (by rfl) wantedP (by kernel_rfl) (by kernel_rfl) (by kernel_rfl) (fun _ _ _ h => h) (fun o1 ho W hW => by unfold execOp; simp only [ho]; go_simp) HS37.out ?_
          simp only [Act.put, sT, sZ, sS]
          refine aP 4 (d := 204) (op := .move (.tmp 203)) (.bool false) HS37.out ?_
          simp only [Act.put, sT, sZ, sS]
          refine anyH_pureG 5 (d := 205) (op := .move (.tmp 13)) (gd := some (4, false)) (.pointer (some ⟨kb, 0, none⟩)) (by rfl) (fun o ho => by simp only [Region.wanted, ho]; rfl) (by kernel_rfl) (by kernel_rfl) (by kernel_rfl) (fun _ _ _ h => h) (fun o ho W hW => by unfold execOp; simp only [ho]; go_simp) HS37.out ?_
          simp only [Act.put, sT, sZ, sS]
          refine anyH_pureG 6 (d := 206) (op := .binOp .neq 35 (.tmp 205) (.const (.pointer none)) 35) (gd := some (4, false)) (.bool true) (by rfl) (fun o ho => by simp only [Region.wanted, ho]; rfl) (by kernel_rfl) (by kernel_rfl) (by kernel_rfl) (fun _ _ _ h => h) (fun o1 ho W hW => by unfold execOp; simp only [ho]; go_simp; try simp) HS37.out ?_
          simp only [Act.put, sT, sZ, sS]
          refine anyH_pureG 7 (d := 207) (op := .move (.tmp 206)) (gd := some (4, false)) (.bool true) (by rfl) (fun o ho => by simp only [Region.wanted, ho]; rfl) (by kernel_rfl) (by kernel_rfl) (by kernel_rfl) (fun _ _ _ h => h) (fun o ho W hW => by unfold execOp; simp only [ho]; go_simp) HS37.out ?_
          simp only [Act.put, sT, sZ, sS]
          refine anyH_pureG 8 (d := 208) (op := .move (.tmp 10)) (gd := some (7, true)) (.pointer (some ⟨jb, 0, none⟩)) (by rfl) (fun o ho => by simp only [Region.wanted, ho]; rfl) (by kernel_rfl) (by kernel_rfl) (by kernel_rfl) (fun _ _ _ h => h) (fun o ho W hW => by unfold execOp; simp only [ho]; go_simp) HS37.out ?_
          simp only [Act.put, sT, sZ, sS]
          refine anyH_pureG 10 (d := 210) (op := .move (.tmp 13)) (gd := some (7, true)) (.pointer (some ⟨kb, 0, none⟩)) (by rfl) (fun o ho => by simp only [Region.wanted, ho]; rfl) (by kernel_rfl) (by kernel_rfl) (by kernel_rfl) (fun _ _ _ h => h) (fun o ho W hW => by unfold execOp; simp only [ho]; go_simp) HS37.out ?_
          simp only [Act.put, sT, sZ, sS]
          refine anyH_pureG 11 (d := 211) (op := .nilCheck (.tmp 210)) (gd := some (7, true)) (.pointer (some ⟨kb, 0, none⟩)) (by rfl) (fun o ho => by simp only [Region.wanted, ho]; rfl) (by kernel_rfl) (by kernel_rfl) (by kernel_rfl) (fun _ _ _ h => h) (fun o ho W hW => by unfold execOp; simp only [ho]; go_simp) HS37.out ?_
          simp only [Act.put, sT, sZ, sS]
          refine anyH_pureG 12 (d := 212) (op := .fieldAddr 53 (.tmp 211) 2) (gd := some (7, true)) (.pointer (some ⟨kb, 2, none⟩)) (by rfl) (fun o ho => by simp only [Region.wanted, ho]; rfl) (by kernel_rfl) (by kernel_rfl) (by kernel_rfl) (fun _ _ _ h => h) (fun o ho W hW => by unfold execOp; simp only [ho]; go_simp) HS37.out ?_
          simp only [Act.put, sT, sZ, sS]
          refine anyH_loadG 13 (d := 213) (ty := 32) (x := (.tmp 212)) (gd := some (7, true)) (p := .pointer (some ⟨kb, 2, none⟩)) (rv9) (by rfl) (fun o ho => by simp only [Region.wanted, ho]; rfl) (by kernel_rfl) (by kernel_rfl) (by kernel_rfl) (fun _ _ _ h => h) (by rfl) HL36.out HS37.out ?_
          simp only [Act.put, sT, sZ, sS]
          refine anyH_callG 9 (d := some 209) (f := 20) (xs := #[(.tmp 208)]) (ts := #[31]) (gd := some (7, true)) (vs := #[.pointer (some ⟨jb, 0, none⟩)]) (by kernel_rfl) (by rfl) (fun o ho => by simp only [Region.wanted, ho]; rfl) (by go_simp) (by go_simp) (HPZ.out) ?_
          rintro e133a e133aw ⟨rfl, e133ah⟩
          subst e133aw
          refine ⟨_, rfl, HS37.out, fun _ => ?_⟩
          simp only [Act.put, sT, sZ, sS]
          refine anyH_callG 14 (d := some 214) (f := 21) (xs := #[(.tmp 213)]) (ts := #[32]) (gd := some (7, true)) (vs := #[rv9]) (by kernel_rfl) (by rfl) (fun o ho => by simp only [Region.wanted, ho]; rfl) (by go_simp) (by go_simp) (HRZ.out) ?_
          rintro e133b e133bw ⟨rfl, e133bh⟩
          subst e133bw
          refine ⟨_, rfl, HS37.out, fun _ => ?_⟩
          simp only [Act.put, sT, sZ, sS]
          refine anyH_pureG 15 (d := 215) (op := .binOp .neq 3 (.tmp 209) (.tmp 214) 3) (gd := some (7, true)) (.bool false) (by rfl) (fun o ho => by simp only [Region.wanted, ho]; rfl) (by kernel_rfl) (by kernel_rfl) (by kernel_rfl) (fun _ _ _ h => h) (fun o1 ho W hW => by unfold execOp; simp only [ho]; go_simp; try simp) HS37.out ?_
          simp only [Act.put, sT, sZ, sS]
          refine anyH_pureG 16 (d := 216) (op := .pick (.tmp 207) (.tmp 215) (.const (.bool false))) (gd := some (4, false)) (.bool false) (by rfl) (fun o ho => by simp only [Region.wanted, ho]; rfl) (by kernel_rfl) (by kernel_rfl) (by kernel_rfl) (fun _ _ _ h => h) (fun o1 ho W hW => by unfold execOp; simp only [ho]; go_simp) HS37.out ?_
          simp only [Act.put, sT, sZ, sS]
          refine anyH_pureG 17 (d := 217) (op := .pick (.tmp 204) (.const (.bool true)) (.tmp 216)) (gd := none) (.bool false) (by rfl) wantedP (by kernel_rfl) (by kernel_rfl) (by kernel_rfl) (fun _ _ _ h => h) (fun o1 ho W hW => by unfold execOp; simp only [ho]; go_simp) HS37.out ?_
          simp only [Act.put, sT, sZ, sS]
          refine wpAnyH_done (by kernel_rfl) ?_ _
          have HPN := Lib.hid (show PlJ w d m (k + 1) nm (.pointer (some ⟨jb, 0, none⟩)) (.pointer (some ⟨kb, 0, none⟩)) w1331 from ⟨_, _, HRP.out, HLB.out, HK9.out, HB7.out, .inr ⟨_, _, _, _, _, _, _, rfl, rfl, HNM.out.1, HNM.out.2, HJ7.out, HSZ.out, HSB.out⟩⟩)
          clear HS37 HL36 HPZ HRZ HJ7 HB7 HRP HLB
          go_wp2_with fail
          go_roundw
          case rel => exact ⟨k + 1, by omega, by omega, by go_num, HPN⟩
          case measure => simp [intOf]; omega
       ·
        by_cases h2 : kd = 2
        ·
         as_aux_lemma =>
          subst h2
          have hor := HOR.out
          clear HOR
          rcases hor with hor | hor
          ·
           obtain ⟨rfl, rfl, hrl⟩ := hor
           have HRL := Lib.hid (hrl.below HB5.out)
           have HBC := HBW
           have HRP := HRP0
           have HLB := HLB0
           have HK9 := Lib.hid (show K ≤ 12 * (k + 1) + 12 from by have := HKK.out; omega)
           clear hrl
           go_upto_region 25 with fail
           obtain ⟨w138, hw138⟩ : ∃ W, W = World.drew w5 := ⟨_, rfl⟩
           have hb138 : Below w5.heap.size w5 w138 := by rw [hw138]; exact below_drewN' _ w5 1
           have HRLN := Lib.hid (HRL.out.below hb138)
           have HBCN := Lib.hid (HBC.out.trans (hb138.mono HBC.out.size))
           refine anyH_begin (S := fun _ => True) (by kernel_rfl) ?_
           rw [← hw138]
           clear hw138 hb138 HRL HBC
           have HRL := HRLN
           have HBC := HBCN
           clear HRLN HBCN
           refine aP 0 (d := 126) (op := .move (.tmp 13)) (.pointer none) trivial ?_
           simp only [Act.put, sT, sZ, sS]
           refine anyH_pureG 1 (d := 127) (op := .binOp .neq 35 (.tmp 126) (.const (.pointer none)) 35) (gd := none) (.bool false) (by rfl) wantedP (by kernel_rfl) (by kernel_rfl) (by kernel_rfl) (fun _ _ _ h => h) (fun o1 ho W hW => by unfold execOp; simp only [ho]; go_simp; try simp) trivial ?_
           simp only [Act.put, sT, sZ, sS]
           refine aP 2 (d := 128) (op := .move (.tmp 127)) (.bool false) trivial ?_
           simp only [Act.put, sT, sZ, sS]
           refine anyH_skip 3 (d := 129) (op := .move (.tmp 10)) (gd := some (2, true)) (by rfl) (fun o ho => by simp only [Region.wanted, ho]; rfl) (by kernel_rfl) (by kernel_rfl) (by kernel_rfl) (fun _ _ _ h => h) trivial ?_
           simp only [Act.put, sT, sZ, sS]
           refine anyH_skip 4 (d := 130) (op := .fieldAddr 40 (.tmp 16) 2) (gd := some (2, true)) (by rfl) (fun o ho => by simp only [Region.wanted, ho]; rfl) (by kernel_rfl) (by kernel_rfl) (by kernel_rfl) (fun _ _ _ h => h) trivial ?_
           simp only [Act.put, sT, sZ, sS]
           refine anyH_skip 5 (d := 131) (op := .load 32 (.tmp 130)) (gd := some (2, true)) (by rfl) (fun o ho => by simp only [Region.wanted, ho]; rfl) (by kernel_rfl) (by kernel_rfl) (by kernel_rfl) (fun _ _ _ h => h) trivial ?_
           simp only [Act.put, sT, sZ, sS]
           refine anyH_skip 6 (d := 132) (op := .call { callee := .value (.func 15), args := #[(.tmp 129), (.tmp 131)], argTypes := #[31, 32] }) (gd := some (2, true)) (by rfl) (fun o ho => by simp only [Region.wanted, ho]; rfl) (by kernel_rfl) (by kernel_rfl) (by kernel_rfl) (fun _ _ _ h => h) trivial ?_
           simp only [Act.put, sT, sZ, sS]
           refine anyH_skip 7 (d := 133) (op := .move (.tmp 13)) (gd := some (2, true)) (by rfl) (fun o ho => by simp only [Region.wanted, ho]; rfl) (by kernel_rfl) (by kernel_rfl) (by kernel_rfl) (fun _ _ _ h => h) trivial ?_
           simp only [Act.put, sT, sZ, sS]
           refine anyH_skip 8 (d := 134) (op := .fieldAddr 40 (.tmp 16) 2) (gd := some (2, true)) (by rfl) (fun o ho => by simp only [Region.wanted, ho]; rfl) (by kernel_rfl) (by kernel_rfl) (by kernel_rfl) (fun _ _ _ h => h) trivial ?_
           simp only [Act.put, sT, sZ, sS]
           refine anyH_skip 9 (d := 135) (op := .load 32 (.tmp 134)) (gd := some (2, true)) (by rfl) (fun o ho => by simp only [Region.wanted, ho]; rfl) (by kernel_rfl) (by kernel_rfl) (by kernel_rfl) (fun _ _ _ h => h) trivial ?_
           simp only [Act.put, sT, sZ, sS]
           refine anyH_skip 10 (d := 136) (op := .call { callee := .value (.func 16), args := #[(.tmp 133), (.tmp 135)], argTypes := #[35, 32] }) (gd := some (2, true)) (by rfl) (fun o ho => by simp only [Region.wanted, ho]; rfl) (by kernel_rfl) (by kernel_rfl) (by kernel_rfl) (fun _ _ _ h => h) trivial ?_
           simp only [Act.put, sT, sZ, sS]
           refine anyH_skip 11 (d := 137) (op := .binOp .neq 3 (.tmp 132) (.tmp 136) 3) (gd := some (2, true)) (by rfl) (fun o ho => by simp only [Region.wanted, ho]; rfl) (by kernel_rfl) (by kernel_rfl) (by kernel_rfl) (fun _ _ _ h => h) trivial ?_
           simp only [Act.put, sT, sZ, sS]
           refine anyH_pureG 12 (d := 138) (op := .pick (.tmp 128) (.tmp 137) (.const (.bool false))) (gd := none) (.bool false) (by rfl) wantedP (by kernel_rfl) (by kernel_rfl) (by kernel_rfl) (fun _ _ _ h => h) (fun o1 ho W hW => by unfold execOp; simp only [ho]; go_simp) trivial ?_
           simp only [Act.put, sT, sZ, sS]
           refine wpAnyH_done (by kernel_rfl) ?_ _
           go_upto_region 36 with fail
           obtain ⟨w139, hw139⟩ : ∃ W, W = World.drew w138 := ⟨_, rfl⟩
           have hb1390 : Below w138.heap.size w138 w139 := by rw [hw139]; exact below_drewN' _ w138 1
           have HR6 := Lib.hid (HRL.out.below hb1390)
           have HB6 := Lib.hid (HBC.out.trans (hb1390.mono HBC.out.size))
           have HIS := Lib.hid (is_c HR6.out HLB.out.bnd (by have := HK9.out; omega))
           refine anyH_begin (S := fun _ => True) (by kernel_rfl) ?_
           rw [← hw139]
           clear hw139 hb1390 HRL HBC
           refine aP 0 (d := 200) (op := .move (.tmp 7)) (.pointer (some ⟨d, 0, none⟩)) trivial ?_
           simp only [Act.put, sT, sZ, sS]
           refine aP 1 (d := 201) (op := .move (.tmp 9)) (.pointer (some ⟨m, 0, none⟩)) trivial ?_
           simp only [Act.put, sT, sZ, sS]
           refine anyH_callG 2 (d := some 202) (f := 19) (xs := #[(.tmp 200), (.tmp 201)]) (ts := #[25, 29]) (gd := none) (vs := #[.pointer (some ⟨d, 0, none⟩), .pointer (some ⟨m, 0, none⟩)]) (by kernel_rfl) (by rfl) wantedP (by go_simp) (by go_simp) (HIS.out) ?_
           rintro e139 w1391 ⟨rfl, hb139⟩
           have HR7 := Lib.hid (HR6.out.below hb139)
           have HB7 := Lib.hid (HB6.out.trans (hb139.mono HB6.out.size))
           clear hb139 HIS HR6 HB6
           refine ⟨_, rfl, trivial, fun _ => ?_⟩
           simp only [Act.put, sT, sZ, sS]
           refine anyH_pureG 3 (d := 203) (op := .unOp .not 4 (.tmp 202)) (gd := none) (.bool false) (by rfl) wantedP (by kernel_rfl) (by kernel_rfl) (by kernel_rfl) (fun _ _ _ h => h) (fun o1 ho W hW => by unfold execOp; simp only [ho]; go_simp) trivial ?_
           simp only [Act.put, sT, sZ, sS]
           refine aP 4 (d := 204) (op := .move (.tmp 203)) (.bool false) trivial ?_
           simp only [Act.put, sT, sZ, sS]
           refine anyH_pureG 5 (d := 205) (op := .move (.tmp 13)) (gd := some (4, false)) (.pointer none) (by rfl) (fun o ho => by simp only [Region.wanted, ho]; rfl) (by kernel_rfl) (by kernel_rfl) (by kernel_rfl) (fun _ _ _ h => h) (fun o ho W hW => by unfold execOp; simp only [ho]; go_simp) trivial ?_
           simp only [Act.put, sT, sZ, sS]
           refine anyH_pureG 6 (d := 206) (op := .binOp .neq 35 (.tmp 205) (.const (.pointer none)) 35) (gd := some (4, false)) (.bool false) (by rfl) (fun o ho => by simp only [Region.wanted, ho]; rfl) (by kernel_rfl) (by kernel_rfl) (by kernel_rfl) (fun _ _ _ h => h) (fun o1 ho W hW => by unfold execOp; simp only [ho]; go_simp; try simp) trivial ?_
           simp only [Act.put, sT, sZ, sS]
           refine anyH_pureG 7 (d := 207) (op := .move (.tmp 206)) (gd := some (4, false)) (.bool false) (by rfl) (fun o ho => by simp only [Region.wanted, ho]; rfl) (by kernel_rfl) (by kernel_rfl) (by kernel_rfl) (fun _ _ _ h => h) (fun o ho W hW => by unfold execOp; simp only [ho]; go_simp) trivial ?_
           simp only [Act.put, sT, sZ, sS]
           refine anyH_skip 8 (d := 208) (op := .move (.tmp 10)) (gd := some (7, true)) (by rfl) (fun o ho => by simp only [Region.wanted, ho]; rfl) (by kernel_rfl) (by kernel_rfl) (by kernel_rfl) (fun _ _ _ h => h) trivial ?_
           simp only [Act.put, sT, sZ, sS]
           refine anyH_skip 9 (d := 209) (op := .call { callee := .value (.func 20), args := #[(.tmp 208)], argTypes := #[31] }) (gd := some (7, true)) (by rfl) (fun o ho => by simp only [Region.wanted, ho]; rfl) (by kernel_rfl) (by kernel_rfl) (by kernel_rfl) (fun _ _ _ h => h) trivial ?_
           simp only [Act.put, sT, sZ, sS]
           refine anyH_skip 10 (d := 210) (op := .move (.tmp 13)) (gd := some (7, true)) (by rfl) (fun o ho => by simp only [Region.wanted, ho]; rfl) (by kernel_rfl) (by kernel_rfl) (by kernel_rfl) (fun _ _ _ h => h) trivial ?_
           simp only [Act.put, sT, sZ, sS]
           refine anyH_skip 11 (d := 211) (op := .nilCheck (.tmp 210)) (gd := some (7, true)) (by rfl) (fun o ho => by simp only [Region.wanted, ho]; rfl) (by kernel_rfl) (by kernel_rfl) (by kernel_rfl) (fun _ _ _ h => h) trivial ?_
           simp only [Act.put, sT, sZ, sS]
           refine anyH_skip 12 (d := 212) (op := .fieldAddr 53 (.tmp 211) 2) (gd := some (7, true)) (by rfl) (fun o ho => by simp only [Region.wanted, ho]; rfl) (by kernel_rfl) (by kernel_rfl) (by kernel_rfl) (fun _ _ _ h => h) trivial ?_
           simp only [Act.put, sT, sZ, sS]
           refine anyH_skip 13 (d := 213) (op := .load 32 (.tmp 212)) (gd := some (7, true)) (by rfl) (fun o ho => by simp only [Region.wanted, ho]; rfl) (by kernel_rfl) (by kernel_rfl) (by kernel_rfl) (fun _ _ _ h => h) trivial ?_
           simp only [Act.put, sT, sZ, sS]
           refine anyH_skip 14 (d := 214) (op := .call { callee := .value (.func 21), args := #[(.tmp 213)], argTypes := #[32] }) (gd := some (7, true)) (by rfl) (fun o ho => by simp only [Region.wanted, ho]; rfl) (by kernel_rfl) (by kernel_rfl) (by kernel_rfl) (fun _ _ _ h => h) trivial ?_
           simp only [Act.put, sT, sZ, sS]
           refine anyH_skip 15 (d := 215) (op := .binOp .neq 3 (.tmp 209) (.tmp 214) 3) (gd := some (7, true)) (by rfl) (fun o ho => by simp only [Region.wanted, ho]; rfl) (by kernel_rfl) (by kernel_rfl) (by kernel_rfl) (fun _ _ _ h => h) trivial ?_
           simp only [Act.put, sT, sZ, sS]
           refine anyH_pureG 16 (d := 216) (op := .pick (.tmp 207) (.tmp 215) (.const (.bool false))) (gd := some (4, false)) (.bool false) (by rfl) (fun o ho => by simp only [Region.wanted, ho]; rfl) (by kernel_rfl) (by kernel_rfl) (by kernel_rfl) (fun _ _ _ h => h) (fun o1 ho W hW => by unfold execOp; simp only [ho]; go_simp) trivial ?_
           simp only [Act.put, sT, sZ, sS]
           refine anyH_pureG 17 (d := 217) (op := .pick (.tmp 204) (.const (.bool true)) (.tmp 216)) (gd := none) (.bool false) (by rfl) wantedP (by kernel_rfl) (by kernel_rfl) (by kernel_rfl) (fun _ _ _ h => h) (fun o1 ho W hW => by unfold execOp; simp only [ho]; go_simp) trivial ?_
           simp only [Act.put, sT, sZ, sS]
           refine wpAnyH_done (by kernel_rfl) ?_ _
           have HPN := Lib.hid (show PlJ w d m (k + 1) nm (.pointer none) (.pointer none) w1391 from ⟨_, _, HRP.out, HLB.out, HK9.out, HB7.out, .inl ⟨rfl, rfl, HR7.out.less fun _ e => e.elim⟩⟩)
           clear HR7 HB7 HRP HLB
           go_wp2_with fail
           go_roundw
           case rel => exact ⟨k + 1, by omega, by omega, by go_num, HPN⟩
           case measure => simp [intOf]; omega
          ·
           obtain ⟨X, V, jb, kb, sz, rv, ps, rfl, rfl, hn1, hn2, hjs, hsz, hsb⟩ := hor
           have HNM := Lib.hid (And.intro hn1 hn2)
           have HXJ := Lib.hid (show X1 ≠ jb from fun e => by have := (hjs.rel.lt jb hjs.xj).2; have := HX5.out; omega)
           have HXV := Lib.hid (show ¬ V X1 from fun e => by have := (hjs.rel.lt X1 (hjs.vx X1 e)).2; have := HX5.out; omega)
           have HGK := Lib.hid (HLB0.out.gk hjs.rel.gd)
           have HJS := Lib.hid (hjs.with HB5.out HWR.out.size X1 (by have := HX5.out; omega) (by have := HX5.out; omega))
           have HSZ0 := Lib.hid hsz
           have HSB0 := Lib.hid hsb
           clear hn1 hn2 hjs hsz hsb
           have hlr : (recL L).length = rn := by unfold recL; rw [List.length_map]; exact HOPJ.out.s2.1
           have HFL := Lib.hid (show (Frm.flatF (recL L)).length ≤ 5000 from by
            have h1 := flat_bound (recL L) (recL_len HOPJ.out.s2 HSL.out.2)
            have h2 := HSL.out.1
            rw [hlr] at h1
            omega)
           have HLR := Lib.hid hlr
           clear hlr
           go_upto_region 25 with fail
           obtain ⟨w1350, hw135⟩ : ∃ W, W = World.drew w5 := ⟨_, rfl⟩
           have hb1350 : Below w5.heap.size w5 w1350 := by rw [hw135]; exact below_drewN' _ w5 1
           have HJ0 := Lib.hid (HJS.out.below hb1350)
           have HB0 := Lib.hid (HBW.out.trans (hb1350.mono HBW.out.size))
           have HOK0 := Lib.hid (HOK.out.below hb1350)
           have HSK := Lib.hid (fun (W : World) (hk : W.heap[X1]? = w1350.heap[X1]?) => show HasC [(⟨X1, 2, none⟩, .slice ra rn rc)] W from by
            obtain ⟨g0, g1, g2, g3, g4⟩ := (HOK0.out.at hk).cells
            intro q hq
            simp only [List.mem_cons, List.not_mem_nil, or_false] at hq
            subst hq
            exact g2)
           have HS := Lib.hid (HSK.out w1350 rfl)
           have HLC := Lib.hid (fun W (hW : HasC [(⟨X1, 2, none⟩, .slice ra rn rc)] W) => run_cell_bssJ W ⟨X1, 2, none⟩ ra rn rc (hW (⟨X1, 2, none⟩, .slice ra rn rc) (by simp)))
           have hc1 := prw_c HJ0.out (by have := HKK.out; have := HKL.out; omega) (by have := HNM.out; omega) ra rn rc (recL L) ((HOPJ.out.s2.rcd (fun _ => False)).below HB0.out) (by have := HSL.out.1; omega) (by have := HFL.out; omega) (recL_byte HOPJ.out.s2)
           obtain ⟨r, hrr⟩ : ∃ r, A.rw nm (spJ nm) (Frm.flatF (recL L)) = r := ⟨_, rfl⟩
           rw [hrr] at hc1
           have HRR := Lib.hid hrr
           obtain ⟨A9, x⟩ := r
           have HC1 := Lib.hid hc1
           refine anyH_begin (S := HasC [(⟨X1, 2, none⟩, .slice ra rn rc)]) (by kernel_rfl) ?_
           rw [← hw135]
           clear hw135 hb1350 hc1
           refine aP 0 (d := 126) (op := .move (.tmp 13)) (.pointer (some ⟨kb, 0, none⟩)) HS.out ?_
           simp only [Act.put, sT, sZ, sS]
           refine anyH_pureG 1 (d := 127) (op := .binOp .neq 35 (.tmp 126) (.const (.pointer none)) 35) (gd := none) (.bool true) (by rfl) wantedP (by kernel_rfl) (by kernel_rfl) (by kernel_rfl) (fun _ _ _ h => h) (fun o1 ho W hW => by unfold execOp; simp only [ho]; go_simp; try simp) HS.out ?_
           simp only [Act.put, sT, sZ, sS]
           refine aP 2 (d := 128) (op := .move (.tmp 127)) (.bool true) HS.out ?_
           simp only [Act.put, sT, sZ, sS]
           refine anyH_pureG 3 (d := 129) (op := .move (.tmp 10)) (gd := some (2, true)) (.pointer (some ⟨jb, 0, none⟩)) (by rfl) (fun o ho => by simp only [Region.wanted, ho]; rfl) (by kernel_rfl) (by kernel_rfl) (by kernel_rfl) (fun _ _ _ h => h) (fun o ho W hW => by unfold execOp; simp only [ho]; go_simp) HS.out ?_
           simp only [Act.put, sT, sZ, sS]
           refine anyH_pureG 4 (d := 130) (op := .fieldAddr 40 (.tmp 16) 2) (gd := some (2, true)) (.pointer (some ⟨X1, 2, none⟩)) (by rfl) (fun o ho => by simp only [Region.wanted, ho]; rfl) (by kernel_rfl) (by kernel_rfl) (by kernel_rfl) (fun _ _ _ h => h) (fun o ho W hW => by unfold execOp; simp only [ho]; go_simp) HS.out ?_
           simp only [Act.put, sT, sZ, sS]
           refine anyH_loadG 5 (d := 131) (ty := 32) (x := (.tmp 130)) (gd := some (2, true)) (p := .pointer (some ⟨X1, 2, none⟩)) (.slice ra rn rc) (by rfl) (fun o ho => by simp only [Region.wanted, ho]; rfl) (by kernel_rfl) (by kernel_rfl) (by kernel_rfl) (fun _ _ _ h => h) (by rfl) HLC.out HS.out ?_
           simp only [Act.put, sT, sZ, sS]
           refine anyH_pureG 7 (d := 133) (op := .move (.tmp 13)) (gd := some (2, true)) (.pointer (some ⟨kb, 0, none⟩)) (by rfl) (fun o ho => by simp only [Region.wanted, ho]; rfl) (by kernel_rfl) (by kernel_rfl) (by kernel_rfl) (fun _ _ _ h => h) (fun o ho W hW => by unfold execOp; simp only [ho]; go_simp) HS.out ?_
           simp only [Act.put, sT, sZ, sS]
           refine anyH_pureG 8 (d := 134) (op := .fieldAddr 40 (.tmp 16) 2) (gd := some (2, true)) (.pointer (some ⟨X1, 2, none⟩)) (by rfl) (fun o ho => by simp only [Region.wanted, ho]; rfl) (by kernel_rfl) (by kernel_rfl) (by kernel_rfl) (fun _ _ _ h => h) (fun o ho W hW => by unfold execOp; simp only [ho]; go_simp) HS.out ?_
           simp only [Act.put, sT, sZ, sS]
           refine anyH_loadG 9 (d := 135) (ty := 32) (x := (.tmp 134)) (gd := some (2, true)) (p := .pointer (some ⟨X1, 2, none⟩)) (.slice ra rn rc) (by rfl) (fun o ho => by simp only [Region.wanted, ho]; rfl) (by kernel_rfl) (by kernel_rfl) (by kernel_rfl) (fun _ _ _ h => h) (by rfl) HLC.out HS.out ?_
           simp only [Act.put, sT, sZ, sS]
           refine anyH_callG 6 (d := some 132) (f := 15) (xs := #[(.tmp 129), (.tmp 131)]) (ts := #[31, 32]) (gd := some (2, true)) (vs := #[.pointer (some ⟨jb, 0, none⟩), .slice ra rn rc]) (by kernel_rfl) (by rfl) (fun o ho => by simp only [Region.wanted, ho]; rfl) (by go_simp) (by go_simp) (HC1.out) ?_
           rintro e135 w135 ⟨rfl, g1, g2, g3⟩
           have HJ1 := Lib.hid g1
           have HB1 := Lib.hid (HB0.out.trans g2)
           have HS1 := Lib.hid (HSK.out w135 (g3 X1 (.inr rfl) HXJ.out))
           have HOX1 := Lib.hid (g3 X1 (.inr rfl) HXJ.out)
           have HC2 := Lib.hid (drw_c HJ1.out HGK.out (by have := HKK.out; have := HKL.out; omega) (by have := HNM.out; omega) ra rn rc (recL L) ((HOPJ.out.s2.rcd (fun _ => False)).below HB1.out) (by have := HSL.out.1; omega) (by have := HFL.out; omega) (recL_byte HOPJ.out.s2))
           rw [hrr] at HC2
           clear g1 g2 g3 HC1
           refine ⟨_, rfl, HS1.out, fun _ => ?_⟩
           simp only [Act.put, sT, sZ, sS]
           refine anyH_callG 10 (d := some 136) (f := 16) (xs := #[(.tmp 133), (.tmp 135)]) (ts := #[35, 32]) (gd := some (2, true)) (vs := #[.pointer (some ⟨kb, 0, none⟩), .slice ra rn rc]) (by kernel_rfl) (by rfl) (fun o ho => by simp only [Region.wanted, ho]; rfl) (by go_simp) (by go_simp) (HC2.out) ?_
           rintro e135b w135b ⟨rfl, X9, V9, rv9, g1, g2, g3, g4⟩
           have HS2 := Lib.hid (HSK.out w135b ((g4 X1 (.inr rfl) HXV.out).trans HOX1.out))
           have HJ2 := Lib.hid g1
           have HBC := Lib.hid (HB1.out.trans g3)
           clear g1 g2 g3 g4 HC2 HJ1 HB1
           refine ⟨_, rfl, HS2.out, fun _ => ?_⟩
           simp only [Act.put, sT, sZ, sS]
           refine anyH_pureG 11 (d := 137) (op := .binOp .neq 3 (.tmp 132) (.tmp 136) 3) (gd := some (2, true)) (.bool false) (by rfl) (fun o ho => by simp only [Region.wanted, ho]; rfl) (by kernel_rfl) (by kernel_rfl) (by kernel_rfl) (fun _ _ _ h => h) (fun o1 ho W hW => by unfold execOp; simp only [ho]; go_simp; try simp) HS2.out ?_
           simp only [Act.put, sT, sZ, sS]
           refine anyH_pureG 12 (d := 138) (op := .pick (.tmp 128) (.tmp 137) (.const (.bool false))) (gd := none) (.bool false) (by rfl) wantedP (by kernel_rfl) (by kernel_rfl) (by kernel_rfl) (fun _ _ _ h => h) (fun o1 ho W hW => by unfold execOp; simp only [ho]; go_simp) HS2.out ?_
           simp only [Act.put, sT, sZ, sS]
           refine wpAnyH_done (by kernel_rfl) ?_ _
           clear HS HS1 HS2 HLC HSK HOK0 HJ0 HB0 hrr HOX1
           have HRP9 := Lib.hid (show Rp 4000 A9 ∧ Lb (K + 8) A9 from by
            have h9 := kp4_rw nm (spJ nm) (Frm.flatF (recL L)) HRP0.out HLB0.out
            simp only [HRR.out] at h9
            exact ⟨h9.1, h9.2.mono (by omega)⟩)
           have HRP := Lib.hid HRP9.out.1
           have HLB := Lib.hid HRP9.out.2
           have HK9 := Lib.hid (show K + 8 ≤ 12 * (k + 1) + 12 from by have := HKK.out; omega)
           clear HRP9 HRP0 HLB0
           by_cases hx : x = 0
           ·
            subst hx
            obtain ⟨sz9, hs9⟩ : ∃ sz9, sz9 = (Frm.flatF (recL L)).length := ⟨_, rfl⟩
            have HJ := Lib.hid (show Js X9 V9 w.heap.size d m jb kb (3 * (K + 8)) nm A9 A9 sz9 rv9 (recL L) w135b from by rw [hs9]; exact HJ2.out.mono (by omega))
            have HSZ := Lib.hid hs9
            have HSB := Lib.hid (show sz9 ≤ 10000 * (k + 1 + 1) from by rw [hs9]; have := HFL.out; omega)
            clear HJ2 HSZ0 HSB0 HRR HGK hs9
            go_upto_region 36 with fail
            obtain ⟨w136, hw136⟩ : ∃ W, W = World.drew w135b := ⟨_, rfl⟩
            have hb1360 : Below w135b.heap.size w135b w136 := by rw [hw136]; exact below_drewN' _ w135b 1
            have HJ6 := Lib.hid (HJ.out.below hb1360)
            have HB6 := Lib.hid (HBC.out.trans (hb1360.mono HBC.out.size))
            have HIS := Lib.hid (is_c HJ6.out.rel HLB.out.bnd (by have := HK9.out; omega))
            obtain ⟨rx9, rxn9, rxc9, hrv9⟩ := HJ6.out.rk.own.sl
            have HS36 := Lib.hid (show HasC [(⟨kb, 2, none⟩, rv9)] w136 from by
             obtain ⟨q0, q1, q2⟩ := HJ6.out.rk.cells
             intro q hq
             simp only [List.mem_cons, List.not_mem_nil, or_false] at hq
             subst hq
             exact q2)
            have HX36 := Lib.hid (show ∀ q ∈ ([(⟨kb, 2, none⟩, rv9)] : List (Addr × Value)), q.1.block < w136.heap.size from by
             have := (Array.getElem?_eq_some_iff.1 HJ6.out.rk.row).1
             intro q hq
             simp only [List.mem_cons, List.not_mem_nil, or_false] at hq
             subst hq
             exact this)
            have HL36 := Lib.hid (fun W (hW : HasC [(⟨kb, 2, none⟩, rv9)] W) => run_cell_v W ⟨kb, 2, none⟩ rv9 ⟨rx9, rxn9, rxc9, hrv9⟩ (hW (⟨kb, 2, none⟩, rv9) (by simp)))
            refine anyH_begin (S := HasC [(⟨kb, 2, none⟩, rv9)]) (by kernel_rfl) ?_
            rw [← hw136]
            clear hw136 hb1360 HJ HBC hrv9
            refine aP 0 (d := 200) (op := .move (.tmp 7)) (.pointer (some ⟨d, 0, none⟩)) HS36.out ?_
            simp only [Act.put, sT, sZ, sS]
            refine aP 1 (d := 201) (op := .move (.tmp 9)) (.pointer (some ⟨m, 0, none⟩)) HS36.out ?_
            simp only [Act.put, sT, sZ, sS]
            refine anyH_callG 2 (d := some 202) (f := 19) (xs := #[(.tmp 200), (.tmp 201)]) (ts := #[25, 29]) (gd := none) (vs := #[.pointer (some ⟨d, 0, none⟩), .pointer (some ⟨m, 0, none⟩)]) (by kernel_rfl) (by rfl) wantedP (by go_simp) (by go_simp) (HIS.out) ?_
            rintro e136 w1361 ⟨rfl, hb136⟩
            have HS37 := Lib.hid (HS36.out.below hb136 HX36.out)
            have HJ7 := Lib.hid (HJ6.out.below hb136)
            have HB7 := Lib.hid (HB6.out.trans (hb136.mono HB6.out.size))
            have HPZ := Lib.hid (psize_c jb d nm (sz9 : Int) w1361 HJ7.out.rj)
            have HRZ := Lib.hid (show Calls Tryz.prog 21 #[rv9] w1361 fun e w' => e = .returned (.int .i64 (sz9 : Int)) ∧ w' = w1361 from by
             obtain ⟨ya, yn, yc, hyv, -, -, -, hyr⟩ := HJ7.out.rk.own.row
             rw [hyv, HSZ.out]
             exact rsize_c ya yn yc _ w1361 hyr (by have := hyr.1; have := flat_low (recL L); have := HSZ.out; have := HSB.out; omega) (by have := HSZ.out; have := HSB.out; omega))
            clear hb136 HIS HS36 HX36 HJ6 HB6
            refine ⟨_, rfl, HS37.out, fun _ => ?_⟩
            simp only [Act.put, sT, sZ, sS]
            refine anyH_pureG 3 (d := 203) (op := .unOp .not 4 (.tmp 202)) (gd := none) (.bool false) (by rfl) wantedP (by kernel_rfl) (by kernel_rfl) (by kernel_rfl) (fun _ _ _ h => h) (fun o1 ho W hW => by unfold execOp; simp only [ho]; go_simp) HS37.out ?_
            simp only [Act.put, sT, sZ, sS]
            refine aP 4 (d := 204) (op := .move (.tmp 203)) (.bool false) HS37.out ?_
            simp only [Act.put, sT, sZ, sS]
            refine anyH_pureG 5 (d := 205) (op := .move (.tmp 13)) (gd := some (4, false)) (.pointer (some ⟨kb, 0, none⟩)) (by rfl) (fun o ho => by simp only [Region.wanted, ho]; rfl) (by kernel_rfl) (by kernel_rfl) (by kernel_rfl) (fun _ _ _ h => h) (fun o ho W hW => by unfold execOp; simp only [ho]; go_simp) HS37.out ?_
            simp only [Act.put, sT, sZ, sS]
            refine anyH_pureG 6 (d := 206) (op := .binOp .neq 35 (.tmp 205) (.const (.pointer none)) 35) (gd := some (4, false)) (.bool true) (by rfl) (fun o ho => by simp only [Region.wanted, ho]; rfl) (by kernel_rfl) (by kernel_rfl) (by kernel_rfl) (fun _ _ _ h => h) (fun o1 ho W hW => by unfold execOp; simp only [ho]; go_simp; try simp) HS37.out ?_
            simp only [Act.put, sT, sZ, sS]
            refine anyH_pureG 7 (d := 207) (op := .move (.tmp 206)) (gd := some (4, false)) (.bool true) (by rfl) (fun o ho => by simp only [Region.wanted, ho]; rfl) (by kernel_rfl) (by kernel_rfl) (by kernel_rfl) (fun _ _ _ h => h) (fun o ho W hW => by unfold execOp; simp only [ho]; go_simp) HS37.out ?_
            simp only [Act.put, sT, sZ, sS]
            refine anyH_pureG 8 (d := 208) (op := .move (.tmp 10)) (gd := some (7, true)) (.pointer (some ⟨jb, 0, none⟩)) (by rfl) (fun o ho => by simp only [Region.wanted, ho]; rfl) (by kernel_rfl) (by kernel_rfl) (by kernel_rfl) (fun _ _ _ h => h) (fun o ho W hW => by unfold execOp; simp only [ho]; go_simp) HS37.out ?_
            simp only [Act.put, sT, sZ, sS]
            refine anyH_pureG 10 (d := 210) (op := .move (.tmp 13)) (gd := some (7, true)) (.pointer (some ⟨kb, 0, none⟩)) (by rfl) (fun o ho => by simp only [Region.wanted, ho]; rfl) (by kernel_rfl) (by kernel_rfl) (by kernel_rfl) (fun _ _ _ h => h) (fun o ho W hW => by unfold execOp; simp only [ho]; go_simp) HS37.out ?_
            simp only [Act.put, sT, sZ, sS]
            refine anyH_pureG 11 (d := 211) (op := .nilCheck (.tmp 210)) (gd := some (7, true)) (.pointer (some ⟨kb, 0, none⟩)) (by rfl) (fun o ho => by simp only [Region.wanted, ho]; rfl) (by kernel_rfl) (by kernel_rfl) (by kernel_rfl) (fun _ _ _ h => h) (fun o ho W hW => by unfold execOp; simp only [ho]; go_simp) HS37.out ?_
            simp only [Act.put, sT, sZ, sS]
            refine anyH_pureG 12 (d := 212) (op := .fieldAddr 53 (.tmp 211) 2) (gd := some (7, true)) (.pointer (some ⟨kb, 2, none⟩)) (by rfl) (fun o ho => by simp only [Region.wanted, ho]; rfl) (by kernel_rfl) (by kernel_rfl) (by kernel_rfl) (fun _ _ _ h => h) (fun o ho W hW => by unfold execOp; simp only [ho]; go_simp) HS37.out ?_
            simp only [Act.put, sT, sZ, sS]
            refine anyH_loadG 13 (d := 213) (ty := 32) (x := (.tmp 212)) (gd := some (7, true)) (p := .pointer (some ⟨kb, 2, none⟩)) (rv9) (by rfl) (fun o ho => by simp only [Region.wanted, ho]; rfl) (by kernel_rfl) (by kernel_rfl) (by kernel_rfl) (fun _ _ _ h => h) (by rfl) HL36.out HS37.out ?_
            simp only [Act.put, sT, sZ, sS]
            refine anyH_callG 9 (d := some 209) (f := 20) (xs := #[(.tmp 208)]) (ts := #[31]) (gd := some (7, true)) (vs := #[.pointer (some ⟨jb, 0, none⟩)]) (by kernel_rfl) (by rfl) (fun o ho => by simp only [Region.wanted, ho]; rfl) (by go_simp) (by go_simp) (HPZ.out) ?_
            rintro e136a e136aw ⟨rfl, e136ah⟩
            subst e136aw
            refine ⟨_, rfl, HS37.out, fun _ => ?_⟩
            simp only [Act.put, sT, sZ, sS]
            refine anyH_callG 14 (d := some 214) (f := 21) (xs := #[(.tmp 213)]) (ts := #[32]) (gd := some (7, true)) (vs := #[rv9]) (by kernel_rfl) (by rfl) (fun o ho => by simp only [Region.wanted, ho]; rfl) (by go_simp) (by go_simp) (HRZ.out) ?_
            rintro e136b e136bw ⟨rfl, e136bh⟩
            subst e136bw
            refine ⟨_, rfl, HS37.out, fun _ => ?_⟩
            simp only [Act.put, sT, sZ, sS]
            refine anyH_pureG 15 (d := 215) (op := .binOp .neq 3 (.tmp 209) (.tmp 214) 3) (gd := some (7, true)) (.bool false) (by rfl) (fun o ho => by simp only [Region.wanted, ho]; rfl) (by kernel_rfl) (by kernel_rfl) (by kernel_rfl) (fun _ _ _ h => h) (fun o1 ho W hW => by unfold execOp; simp only [ho]; go_simp; try simp) HS37.out ?_
            simp only [Act.put, sT, sZ, sS]
            refine anyH_pureG 16 (d := 216) (op := .pick (.tmp 207) (.tmp 215) (.const (.bool false))) (gd := some (4, false)) (.bool false) (by rfl) (fun o ho => by simp only [Region.wanted, ho]; rfl) (by kernel_rfl) (by kernel_rfl) (by kernel_rfl) (fun _ _ _ h => h) (fun o1 ho W hW => by unfold execOp; simp only [ho]; go_simp) HS37.out ?_
            simp only [Act.put, sT, sZ, sS]
            refine anyH_pureG 17 (d := 217) (op := .pick (.tmp 204) (.const (.bool true)) (.tmp 216)) (gd := none) (.bool false) (by rfl) wantedP (by kernel_rfl) (by kernel_rfl) (by kernel_rfl) (fun _ _ _ h => h) (fun o1 ho W hW => by unfold execOp; simp only [ho]; go_simp) HS37.out ?_
            simp only [Act.put, sT, sZ, sS]
            refine wpAnyH_done (by kernel_rfl) ?_ _
            have HPN := Lib.hid (show PlJ w d m (k + 1) nm (.pointer (some ⟨jb, 0, none⟩)) (.pointer (some ⟨kb, 0, none⟩)) w1361 from ⟨_, _, HRP.out, HLB.out, HK9.out, HB7.out, .inr ⟨_, _, _, _, _, _, _, rfl, rfl, HNM.out.1, HNM.out.2, HJ7.out, HSZ.out, HSB.out⟩⟩)
            clear HS37 HL36 HPZ HRZ HJ7 HB7 HRP HLB
            go_wp2_with fail
            go_roundw
            case rel => exact ⟨k + 1, by omega, by omega, by go_num, HPN⟩
            case measure => simp [intOf]; omega
           ·
            have HJ := Lib.hid (show Js X9 V9 w.heap.size d m jb kb (3 * (K + 8)) nm A9 A9 sz rv9 ps w135b from by
             have h9 := HJ2.out
             simp only [hx, if_false] at h9
             exact h9.mono (by omega))
            have HSZ := HSZ0
            have HSB := Lib.hid (show sz ≤ 10000 * (k + 1 + 1) from by have := HSB0.out; omega)
            clear HJ2 HSB0 HRR HGK
            go_upto_region 36 with fail
            obtain ⟨w137, hw137⟩ : ∃ W, W = World.drew w135b := ⟨_, rfl⟩
            have hb1370 : Below w135b.heap.size w135b w137 := by rw [hw137]; exact below_drewN' _ w135b 1
            have HJ6 := Lib.hid (HJ.out.below hb1370)
            have HB6 := Lib.hid (HBC.out.trans (hb1370.mono HBC.out.size))
            have HIS := Lib.hid (is_c HJ6.out.rel HLB.out.bnd (by have := HK9.out; omega))
            obtain ⟨rx9, rxn9, rxc9, hrv9⟩ := HJ6.out.rk.own.sl
            have HS36 := Lib.hid (show HasC [(⟨kb, 2, none⟩, rv9)] w137 from by
             obtain ⟨q0, q1, q2⟩ := HJ6.out.rk.cells
             intro q hq
             simp only [List.mem_cons, List.not_mem_nil, or_false] at hq
             subst hq
             exact q2)
            have HX36 := Lib.hid (show ∀ q ∈ ([(⟨kb, 2, none⟩, rv9)] : List (Addr × Value)), q.1.block < w137.heap.size from by
             have := (Array.getElem?_eq_some_iff.1 HJ6.out.rk.row).1
             intro q hq
             simp only [List.mem_cons, List.not_mem_nil, or_false] at hq
             subst hq
             exact this)
            have HL36 := Lib.hid (fun W (hW : HasC [(⟨kb, 2, none⟩, rv9)] W) => run_cell_v W ⟨kb, 2, none⟩ rv9 ⟨rx9, rxn9, rxc9, hrv9⟩ (hW (⟨kb, 2, none⟩, rv9) (by simp)))
            refine anyH_begin (S := HasC [(⟨kb, 2, none⟩, rv9)]) (by kernel_rfl) ?_
            rw [← hw137]
            clear hw137 hb1370 HJ HBC hrv9
            refine aP 0 (d := 200) (op := .move (.tmp 7)) (.pointer (some ⟨d, 0, none⟩)) HS36.out ?_
            simp only [Act.put, sT, sZ, sS]
            refine aP 1 (d := 201) (op := .move (.tmp 9)) (.pointer (some ⟨m, 0, none⟩)) HS36.out ?_
            simp only [Act.put, sT, sZ, sS]
            refine anyH_callG 2 (d := some 202) (f := 19) (xs := #[(.tmp 200), (.tmp 201)]) (ts := #[25, 29]) (gd := none) (vs := #[.pointer (some ⟨d, 0, none⟩), .pointer (some ⟨m, 0, none⟩)]) (by kernel_rfl) (by rfl) wantedP (by go_simp) (by go_simp) (HIS.out) ?_
            rintro e137 w1371 ⟨rfl, hb137⟩
            have HS37 := Lib.hid (HS36.out.below hb137 HX36.out)
            have HJ7 := Lib.hid (HJ6.out.below hb137)
            have HB7 := Lib.hid (HB6.out.trans (hb137.mono HB6.out.size))
            have HPZ := Lib.hid (psize_c jb d nm (sz : Int) w1371 HJ7.out.rj)
            have HRZ := Lib.hid (show Calls Tryz.prog 21 #[rv9] w1371 fun e w' => e = .returned (.int .i64 (sz : Int)) ∧ w' = w1371 from by
             obtain ⟨ya, yn, yc, hyv, -, -, -, hyr⟩ := HJ7.out.rk.own.row
             rw [hyv, HSZ.out]
             exact rsize_c ya yn yc _ w1371 hyr (by have := hyr.1; have := flat_low ps; have := HSZ.out; have := HSB.out; omega) (by have := HSZ.out; have := HSB.out; omega))
            clear hb137 HIS HS36 HX36 HJ6 HB6
            refine ⟨_, rfl, HS37.out, fun _ => ?_⟩
            simp only [Act.put, sT, sZ, sS]
            refine anyH_pureG 3 (d := 203) (op := .unOp .not 4 (.tmp 202)) (gd := none) (.bool false) (by rfl) wantedP (by kernel_rfl) (by kernel_rfl) (by kernel_rfl) (fun _ _ _ h => h) (fun o1 ho W hW => by unfold execOp; simp only [ho]; go_simp) HS37.out ?_
            simp only [Act.put, sT, sZ, sS]
            refine aP 4 (d := 204) (op := .move (.tmp 203)) (.bool false) HS37.out ?_
            simp only [Act.put, sT, sZ, sS]
            refine anyH_pureG 5 (d := 205) (op := .move (.tmp 13)) (gd := some (4, false)) (.pointer (some ⟨kb, 0, none⟩)) (by rfl) (fun o ho => by simp only [Region.wanted, ho]; rfl) (by kernel_rfl) (by kernel_rfl) (by kernel_rfl) (fun _ _ _ h => h) (fun o ho W hW => by unfold execOp; simp only [ho]; go_simp) HS37.out ?_
            simp only [Act.put, sT, sZ, sS]
            refine anyH_pureG 6 (d := 206) (op := .binOp .neq 35 (.tmp 205) (.const (.pointer none)) 35) (gd := some (4, false)) (.bool true) (by rfl) (fun o ho => by simp only [Region.wanted, ho]; rfl) (by kernel_rfl) (by kernel_rfl) (by kernel_rfl) (fun _ _ _ h => h) (fun o1 ho W hW => by unfold execOp; simp only [ho]; go_simp; try simp) HS37.out ?_
            simp only [Act.put, sT, sZ, sS]
            refine anyH_pureG 7 (d := 207) (op := .move (.tmp 206)) (gd := some (4, false)) (.bool true) (by rfl) (fun o ho => by simp only [Region.wanted, ho]; rfl) (by kernel_rfl) (by kernel_rfl) (by kernel_rfl) (fun _ _ _ h => h) (fun o ho W hW => by unfold execOp; simp only [ho]; go_simp) HS37.out ?_
            simp only [Act.put, sT, sZ, sS]
            refine anyH_pureG 8 (d := 208) (op := .move (.tmp 10)) (gd := some (7, true)) (.pointer (some ⟨jb, 0, none⟩)) (by rfl) (fun o ho => by simp only [Region.wanted, ho]; rfl) (by kernel_rfl) (by kernel_rfl) (by kernel_rfl) (fun _ _ _ h => h) (fun o ho W hW => by unfold execOp; simp only [ho]; go_simp) HS37.out ?_
            simp only [Act.put, sT, sZ, sS]
            refine anyH_pureG 10 (d := 210) (op := .move (.tmp 13)) (gd := some (7, true)) (.pointer (some ⟨kb, 0, none⟩)) (by rfl) (fun o ho => by simp only [Region.wanted, ho]; rfl) (by kernel_rfl) (by kernel_rfl) (by kernel_rfl) (fun _ _ _ h => h) (fun o ho W hW => by unfold execOp; simp only [ho]; go_simp) HS37.out ?_
            simp only [Act.put, sT, sZ, sS]
            refine anyH_pureG 11 (d := 211) (op := .nilCheck (.tmp 210)) (gd := some (7, true)) (.pointer (some ⟨kb, 0, none⟩)) (by rfl) (fun o ho => by simp only [Region.wanted, ho]; rfl) (by kernel_rfl) (by kernel_rfl) (by kernel_rfl) (fun _ _ _ h => h) (fun o ho W hW => by unfold execOp; simp only [ho]; go_simp) HS37.out ?_
            simp only [Act.put, sT, sZ, sS]
            refine anyH_pureG 12 (d := 212) (op := .fieldAddr 53 (.tmp 211) 2) (gd := some (7, true)) (.pointer (some ⟨kb, 2, none⟩)) (by rfl) (fun o ho => by simp only [Region.wanted, ho]; rfl) (by kernel_rfl) (by kernel_rfl) (by kernel_rfl) (fun _ _ _ h => h) (fun o ho W hW => by unfold execOp; simp only [ho]; go_simp) HS37.out ?_
            simp only [Act.put, sT, sZ, sS]
            refine anyH_loadG 13 (d := 213) (ty := 32) (x := (.tmp 212)) (gd := some (7, true)) (p := .pointer (some ⟨kb, 2, none⟩)) (rv9) (by rfl) (fun o ho => by simp only [Region.wanted, ho]; rfl) (by kernel_rfl) (by kernel_rfl) (by kernel_rfl) (fun _ _ _ h => h) (by rfl) HL36.out HS37.out ?_
            simp only [Act.put, sT, sZ, sS]
            refine anyH_callG 9 (d := some 209) (f := 20) (xs := #[(.tmp 208)]) (ts := #[31]) (gd := some (7, true)) (vs := #[.pointer (some ⟨jb, 0, none⟩)]) (by kernel_rfl) (by rfl) (fun o ho => by simp only [Region.wanted, ho]; rfl) (by go_simp) (by go_simp) (HPZ.out) ?_
            rintro e137a e137aw ⟨rfl, e137ah⟩
            subst e137aw
            refine ⟨_, rfl, HS37.out, fun _ => ?_⟩
            simp only [Act.put, sT, sZ, sS]
            refine anyH_callG 14 (d := some 214) (f := 21) (xs := #[(.tmp 213)]) (ts := #[32]) (gd := some (7, true)) (vs := #[rv9]) (by kernel_rfl) (by rfl) (fun o ho => by simp only [Region.wanted, ho]; rfl) (by go_simp) (by go_simp) (HRZ.out) ?_
            rintro e137b e137bw ⟨rfl, e137bh⟩
            subst e137bw
            refine ⟨_, rfl, HS37.out, fun _ => ?_⟩
            simp only [Act.put, sT, sZ, sS]
            refine anyH_pureG 15 (d := 215) (op := .binOp .neq 3 (.tmp 209) (.tmp 214) 3) (gd := some (7, true)) (.bool false) (by rfl) (fun o ho => by simp only [Region.wanted, ho]; rfl) (by kernel_rfl) (by kernel_rfl) (by kernel_rfl) (fun _ _ _ h => h) (fun o1 ho W hW => by unfold execOp; simp only [ho]; go_simp; try simp) HS37.out ?_
            simp only [Act.put, sT, sZ, sS]
            refine anyH_pureG 16 (d := 216) (op := .pick (.tmp 207) (.tmp 215) (.const (.bool false))) (gd := some (4, false)) (.bool false) (by rfl) (fun o ho => by simp only [Region.wanted, ho]; rfl) (by kernel_rfl) (by kernel_rfl) (by kernel_rfl) (fun _ _ _ h => h) (fun o1 ho W hW => by unfold execOp; simp only [ho]; go_simp) HS37.out ?_
            simp only [Act.put, sT, sZ, sS]
            refine anyH_pureG 17 (d := 217) (op := .pick (.tmp 204) (.const (.bool true)) (.tmp 216)) (gd := none) (.bool false) (by rfl) wantedP (by kernel_rfl) (by kernel_rfl) (by kernel_rfl) (fun _ _ _ h => h) (fun o1 ho W hW => by unfold execOp; simp only [ho]; go_simp) HS37.out ?_
            simp only [Act.put, sT, sZ, sS]
            refine wpAnyH_done (by kernel_rfl) ?_ _
            have HPN := Lib.hid (show PlJ w d m (k + 1) nm (.pointer (some ⟨jb, 0, none⟩)) (.pointer (some ⟨kb, 0, none⟩)) w1371 from ⟨_, _, HRP.out, HLB.out, HK9.out, HB7.out, .inr ⟨_, _, _, _, _, _, _, rfl, rfl, HNM.out.1, HNM.out.2, HJ7.out, HSZ.out, HSB.out⟩⟩)
            clear HS37 HL36 HPZ HRZ HJ7 HB7 HRP HLB
            go_wp2_with fail
            go_roundw
            case rel => exact ⟨k + 1, by omega, by omega, by go_num, HPN⟩
            case measure => simp [intOf]; omega
        ·
         by_cases h3 : kd = 3
         ·
          as_aux_lemma =>
           subst h3
           obtain ⟨X0, hr0⟩ := HOR.out.rel
           have HRO0 := Lib.hid (hr0.below HB5.out)
           clear hr0 HOR
           have HRO := HRO0
           have HRP3 := HRP0
           have HLB3 := HLB0
           have HBC3 := HBW
           obtain ⟨A3, hA3⟩ : ∃ A3, A3 = A := ⟨_, rfl⟩
           obtain ⟨K3, hK3⟩ : ∃ K3, K3 = K := ⟨_, rfl⟩
           rw [← hA3] at HRO HRP3 HLB3
           rw [← hK3] at HRO HLB3
           have HK3 := Lib.hid (show K3 + 8 ≤ 12 * (k + 1) + 12 from by have := HKK.out; omega)
           clear hA3 hK3 HRO0 HRP0 HLB0
           have hnm : ¬ (nm.size = 0 ∨ 160 ≤ nm.size) := by have := HNG.out; omega
           have HNM := Lib.hid (show 1 ≤ nm.size ∧ nm.size ≤ 159 from by omega)
           have hpo := popen_c HRO.out (by have := HK3.out; have := HKL.out; omega) nm HNM.out.1 HNM.out.2 (HRP3.out.zl nm)
           have HGK3 := Lib.hid (HLB3.out.gk HRO.out.gd)
           have hkp := kp4_load nm HRP3.out HLB3.out
           have HUF := Lib.hid (usedA_flat A3 nm)
           have HUL := Lib.hid (HRP3.out.used_le nm)
           have HRD := Lib.hid (fun (X : Nat → Prop) (N : Nat) (A1 : Ad) (W : World) (hw : Rel X w.heap.size d m N A1 A3 W) => ropen_c hw HGK3.out (by have := HK3.out; have := HKL.out; omega) nm HNM.out.1 HNM.out.2 (HRP3.out.zl nm))
           obtain ⟨r, hrr⟩ : ∃ r, A3.load nm = r := ⟨_, rfl⟩
           rw [hrr] at hpo HRD hkp
           have HRP := Lib.hid hkp.1
           have HLB := Lib.hid hkp.2
           have HK9 := HK3
           obtain ⟨RS, hrs⟩ : ∃ RS, recsA A3 nm = RS := ⟨_, rfl⟩
           rw [hrs] at hpo HRD HUF
           obtain ⟨us, hus⟩ : ∃ us, usedA A3 nm = us := ⟨_, rfl⟩
           rw [hus] at hpo HUF HUL
           have HPO := Lib.hid hpo
           obtain ⟨A9, x⟩ := r
           clear hpo hkp hrr hrs hus hnm HRP3 HLB3 HGK3 HK3
           go_wp2_with fail
           refine HPO.out.mono ?_
           intro eo wa hpo
           clear HPO
           rcases hpo with ⟨hr0, jb, E, a, n, c, rfl, g1, g2, g3, g4, g5, g6, g7, g8, g9⟩ | ⟨hr0, rfl, g1, g8, g9⟩
           ·
            (try simp only at hr0)
            subst hr0
            have HRA := Lib.hid g1
            have HE1 := Lib.hid (And.intro g2 g3)
            have HJB := Lib.hid g4
            have HRC := Lib.hid g5
            have HNC := Lib.hid (And.intro g6 g7)
            have HBA := Lib.hid (HBC3.out.trans g8)
            have HRD2 := Lib.hid (HRD.out _ _ _ _ HRA.out)
            clear g1 g2 g3 g4 g5 g6 g7 g8 g9 HRD HBC3 HRO
            go_wp2_with fail
            refine HRD2.out.mono ?_
            intro eo wb hro
            clear HRD2
            obtain ⟨-, kb, V, rv9, rfl, f1, f2, f3, f4, f5⟩ := hro.resolve_right (fun h => h.1 rfl)
            have HRB := Lib.hid f1
            have HKR := Lib.hid f2
            have HVN := Lib.hid f3
            have HBB := Lib.hid f4
            have HKX := Lib.hid f5
            clear f1 f2 f3 f4 f5 hro
            have HBC := Lib.hid (HBA.out.trans HBB.out)
            have HRC2 := Lib.hid (HRC.out.stay HBB.out.size fun j _ hj => hj.elim (fun e => HBB.out.block j e) fun e => HKX.out j (.inr e))
            obtain ⟨a2, n2, c2, hrv, hn2, hnc2, hcm2, hrow2⟩ := HKR.out.own.row
            have hnn : n2 = n := by rw [← hn2]; exact HRC.out.ln
            subst hnn
            have HSM := Lib.hid (vsame_c a a2 n2 c c2 RS wb (RowRd.of HRC2.out) hrow2 (by have := HRC2.out.ln; have := flat_low RS; have := HUF.out; have := HUL.out; omega))
            obtain ⟨q0, q1, q2⟩ := HKR.out.cells
            rw [hrv] at q2
            have HRV := Lib.hid hrv
            clear hrv hn2 hnc2 hcm2 hrow2
            go_wp2_with fail
            refine HSM.out.mono ?_
            rintro eo wc ⟨rfl, q, hwc⟩
            have hbc : Below wb.heap.size wb wc := by rw [hwc]; exact below_drewN' _ wb q
            have HJ := Lib.hid (show Js (fun j => (X0 j ∨ E j) ∨ V j) V w.heap.size d m jb kb (3 * (K3 + 8)) nm A9 A9 us rv9 RS wc from Js.below ⟨HRB.out.mono (by omega), .inl (.inr HE1.out.1), fun hv => by have := HVN.out jb hv; have := (HRA.out.lt jb (.inr HE1.out.1)).2; omega, (HKX.out jb (.inr HE1.out.1)).trans HJB.out, HKR.out, fun j hj => .inr hj⟩ hbc)
            have HBCN := Lib.hid (HBC.out.trans (hbc.mono HBC.out.size))
            clear HBC
            have HBC := HBCN
            have HSZ := HUF
            have HSB := Lib.hid (show us ≤ 10000 * (k + 1 + 1) from by have := HUL.out; omega)
            clear HBCN hwc hbc HSM HRA HE1 HJB HRC HNC HBA HRB HKR HVN HBB HKX HRC2 q0 q1 q2 HRV HUF HUL
            go_upto_region 36 with fail
            obtain ⟨w141, hw141⟩ : ∃ W, W = World.drew wc := ⟨_, rfl⟩
            have hb1410 : Below wc.heap.size wc w141 := by rw [hw141]; exact below_drewN' _ wc 1
            have HJ6 := Lib.hid (HJ.out.below hb1410)
            have HB6 := Lib.hid (HBC.out.trans (hb1410.mono HBC.out.size))
            have HIS := Lib.hid (is_c HJ6.out.rel HLB.out.bnd (by have := HK9.out; omega))
            obtain ⟨rx9, rxn9, rxc9, hrv9⟩ := HJ6.out.rk.own.sl
            have HS36 := Lib.hid (show HasC [(⟨kb, 2, none⟩, rv9)] w141 from by
             obtain ⟨q0, q1, q2⟩ := HJ6.out.rk.cells
             intro q hq
             simp only [List.mem_cons, List.not_mem_nil, or_false] at hq
             subst hq
             exact q2)
            have HX36 := Lib.hid (show ∀ q ∈ ([(⟨kb, 2, none⟩, rv9)] : List (Addr × Value)), q.1.block < w141.heap.size from by
             have := (Array.getElem?_eq_some_iff.1 HJ6.out.rk.row).1
             intro q hq
             simp only [List.mem_cons, List.not_mem_nil, or_false] at hq
             subst hq
             exact this)
            have HL36 := Lib.hid (fun W (hW : HasC [(⟨kb, 2, none⟩, rv9)] W) => run_cell_v W ⟨kb, 2, none⟩ rv9 ⟨rx9, rxn9, rxc9, hrv9⟩ (hW (⟨kb, 2, none⟩, rv9) (by simp)))
            refine anyH_begin (S := HasC [(⟨kb, 2, none⟩, rv9)]) (by kernel_rfl) ?_
            rw [← hw141]
            clear hw141 hb1410 HJ HBC hrv9
            refine aP 0 (d := 200) (op := .move (.tmp 7)) (.pointer (some ⟨d, 0, none⟩)) HS36.out ?_
            simp only [Act.put, sT, sZ, sS]
            refine aP 1 (d := 201) (op := .move (.tmp 9)) (.pointer (some ⟨m, 0, none⟩)) HS36.out ?_
            simp only [Act.put, sT, sZ, sS]
            refine anyH_callG 2 (d := some 202) (f := 19) (xs := #[(.tmp 200), (.tmp 201)]) (ts := #[25, 29]) (gd := none) (vs := #[.pointer (some ⟨d, 0, none⟩), .pointer (some ⟨m, 0, none⟩)]) (by kernel_rfl) (by rfl) wantedP (by go_simp) (by go_simp) (HIS.out) ?_
            rintro e141 w1411 ⟨rfl, hb141⟩
            have HS37 := Lib.hid (HS36.out.below hb141 HX36.out)
            have HJ7 := Lib.hid (HJ6.out.below hb141)
            have HB7 := Lib.hid (HB6.out.trans (hb141.mono HB6.out.size))
            have HPZ := Lib.hid (psize_c jb d nm (us : Int) w1411 HJ7.out.rj)
            have HRZ := Lib.hid (show Calls Tryz.prog 21 #[rv9] w1411 fun e w' => e = .returned (.int .i64 (us : Int)) ∧ w' = w1411 from by
             obtain ⟨ya, yn, yc, hyv, -, -, -, hyr⟩ := HJ7.out.rk.own.row
             rw [hyv, HSZ.out]
             exact rsize_c ya yn yc _ w1411 hyr (by have := hyr.1; have := flat_low RS; have := HSZ.out; have := HSB.out; omega) (by have := HSZ.out; have := HSB.out; omega))
            clear hb141 HIS HS36 HX36 HJ6 HB6
            refine ⟨_, rfl, HS37.out, fun _ => ?_⟩
            simp only [Act.put, sT, sZ, sS]
            refine anyH_pureG 3 (d := 203) (op := .unOp .not 4 (.tmp 202)) (gd := none) (.bool false) (by rfl) wantedP (by kernel_rfl) (by kernel_rfl) (by kernel_rfl) (fun _ _ _ h => h) (fun o1 ho W hW => by unfold execOp; simp only [ho]; go_simp) HS37.out ?_
            simp only [Act.put, sT, sZ, sS]
            refine aP 4 (d := 204) (op := .move (.tmp 203)) (.bool false) HS37.out ?_
            simp only [Act.put, sT, sZ, sS]
            refine anyH_pureG 5 (d := 205) (op := .move (.tmp 13)) (gd := some (4, false)) (.pointer (some ⟨kb, 0, none⟩)) (by rfl) (fun o ho => by simp only [Region.wanted, ho]; rfl) (by kernel_rfl) (by kernel_rfl) (by kernel_rfl) (fun _ _ _ h => h) (fun o ho W hW => by unfold execOp; simp only [ho]; go_simp) HS37.out ?_
            simp only [Act.put, sT, sZ, sS]
            refine anyH_pureG 6 (d := 206) (op := .binOp .neq 35 (.tmp 205) (.const (.pointer none)) 35) (gd := some (4, false)) (.bool true) (by rfl) (fun o ho => by simp only [Region.wanted, ho]; rfl) (by kernel_rfl) (by kernel_rfl) (by kernel_rfl) (fun _ _ _ h => h) (fun o1 ho W hW => by unfold execOp; simp only [ho]; go_simp; try simp) HS37.out ?_
            simp only [Act.put, sT, sZ, sS]
            refine anyH_pureG 7 (d := 207) (op := .move (.tmp 206)) (gd := some (4, false)) (.bool true) (by rfl) (fun o ho => by simp only [Region.wanted, ho]; rfl) (by kernel_rfl) (by kernel_rfl) (by kernel_rfl) (fun _ _ _ h => h) (fun o ho W hW => by unfold execOp; simp only [ho]; go_simp) HS37.out ?_
            simp only [Act.put, sT, sZ, sS]
            refine anyH_pureG 8 (d := 208) (op := .move (.tmp 10)) (gd := some (7, true)) (.pointer (some ⟨jb, 0, none⟩)) (by rfl) (fun o ho => by simp only [Region.wanted, ho]; rfl) (by kernel_rfl) (by kernel_rfl) (by kernel_rfl) (fun _ _ _ h => h) (fun o ho W hW => by unfold execOp; simp only [ho]; go_simp) HS37.out ?_
            simp only [Act.put, sT, sZ, sS]
            refine anyH_pureG 10 (d := 210) (op := .move (.tmp 13)) (gd := some (7, true)) (.pointer (some ⟨kb, 0, none⟩)) (by rfl) (fun o ho => by simp only [Region.wanted, ho]; rfl) (by kernel_rfl) (by kernel_rfl) (by kernel_rfl) (fun _ _ _ h => h) (fun o ho W hW => by unfold execOp; simp only [ho]; go_simp) HS37.out ?_
            simp only [Act.put, sT, sZ, sS]
            refine anyH_pureG 11 (d := 211) (op := .nilCheck (.tmp 210)) (gd := some (7, true)) (.pointer (some ⟨kb, 0, none⟩)) (by rfl) (fun o ho => by simp only [Region.wanted, ho]; rfl) (by kernel_rfl) (by kernel_rfl) (by kernel_rfl) (fun _ _ _ h => h) (fun o ho W hW => by unfold execOp; simp only [ho]; go_simp) HS37.out ?_
            simp only [Act.put, sT, sZ, sS]
            refine anyH_pureG 12 (d := 212) (op := .fieldAddr 53 (.tmp 211) 2) (gd := some (7, true)) (.pointer (some ⟨kb, 2, none⟩)) (by rfl) (fun o ho => by simp only [Region.wanted, ho]; rfl) (by kernel_rfl) (by kernel_rfl) (by kernel_rfl) (fun _ _ _ h => h) (fun o ho W hW => by unfold execOp; simp only [ho]; go_simp) HS37.out ?_
            simp only [Act.put, sT, sZ, sS]
            refine anyH_loadG 13 (d := 213) (ty := 32) (x := (.tmp 212)) (gd := some (7, true)) (p := .pointer (some ⟨kb, 2, none⟩)) (rv9) (by rfl) (fun o ho => by simp only [Region.wanted, ho]; rfl) (by kernel_rfl) (by kernel_rfl) (by kernel_rfl) (fun _ _ _ h => h) (by rfl) HL36.out HS37.out ?_
            simp only [Act.put, sT, sZ, sS]
            refine anyH_callG 9 (d := some 209) (f := 20) (xs := #[(.tmp 208)]) (ts := #[31]) (gd := some (7, true)) (vs := #[.pointer (some ⟨jb, 0, none⟩)]) (by kernel_rfl) (by rfl) (fun o ho => by simp only [Region.wanted, ho]; rfl) (by go_simp) (by go_simp) (HPZ.out) ?_
            rintro e141a e141aw ⟨rfl, e141ah⟩
            subst e141aw
            refine ⟨_, rfl, HS37.out, fun _ => ?_⟩
            simp only [Act.put, sT, sZ, sS]
            refine anyH_callG 14 (d := some 214) (f := 21) (xs := #[(.tmp 213)]) (ts := #[32]) (gd := some (7, true)) (vs := #[rv9]) (by kernel_rfl) (by rfl) (fun o ho => by simp only [Region.wanted, ho]; rfl) (by go_simp) (by go_simp) (HRZ.out) ?_
            rintro e141b e141bw ⟨rfl, e141bh⟩
            subst e141bw
            refine ⟨_, rfl, HS37.out, fun _ => ?_⟩
            simp only [Act.put, sT, sZ, sS]
            refine anyH_pureG 15 (d := 215) (op := .binOp .neq 3 (.tmp 209) (.tmp 214) 3) (gd := some (7, true)) (.bool false) (by rfl) (fun o ho => by simp only [Region.wanted, ho]; rfl) (by kernel_rfl) (by kernel_rfl) (by kernel_rfl) (fun _ _ _ h => h) (fun o1 ho W hW => by unfold execOp; simp only [ho]; go_simp; try simp) HS37.out ?_
            simp only [Act.put, sT, sZ, sS]
            refine anyH_pureG 16 (d := 216) (op := .pick (.tmp 207) (.tmp 215) (.const (.bool false))) (gd := some (4, false)) (.bool false) (by rfl) (fun o ho => by simp only [Region.wanted, ho]; rfl) (by kernel_rfl) (by kernel_rfl) (by kernel_rfl) (fun _ _ _ h => h) (fun o1 ho W hW => by unfold execOp; simp only [ho]; go_simp) HS37.out ?_
            simp only [Act.put, sT, sZ, sS]
            refine anyH_pureG 17 (d := 217) (op := .pick (.tmp 204) (.const (.bool true)) (.tmp 216)) (gd := none) (.bool false) (by rfl) wantedP (by kernel_rfl) (by kernel_rfl) (by kernel_rfl) (fun _ _ _ h => h) (fun o1 ho W hW => by unfold execOp; simp only [ho]; go_simp) HS37.out ?_
            simp only [Act.put, sT, sZ, sS]
            refine wpAnyH_done (by kernel_rfl) ?_ _
            have HPN := Lib.hid (show PlJ w d m (k + 1) nm (.pointer (some ⟨jb, 0, none⟩)) (.pointer (some ⟨kb, 0, none⟩)) w1411 from ⟨_, _, HRP.out, HLB.out, HK9.out, HB7.out, .inr ⟨_, _, _, _, _, _, _, rfl, rfl, HNM.out.1, HNM.out.2, HJ7.out, HSZ.out, HSB.out⟩⟩)
            clear HS37 HL36 HPZ HRZ HJ7 HB7 HRP HLB
            go_wp2_with fail
            go_roundw
            case rel => exact ⟨k + 1, by omega, by omega, by go_num, HPN⟩
            case measure => simp [intOf]; omega
           ·
            have HRA := Lib.hid g1
            have HBA := Lib.hid (HBC3.out.trans g8)
            have HRD2 := Lib.hid (HRD.out _ _ _ _ HRA.out)
            have hx0 : ¬ x = 0 := hr0
            clear g1 g8 g9 HRD HBC3 HRO hr0
            go_wp2_with fail
            refine HRD2.out.mono ?_
            intro eo wb hro
            clear HRD2
            obtain ⟨-, rfl, f1, f4, f5⟩ := hro.resolve_left (fun h => hx0 h.1)
            have HRL := Lib.hid (show Rel X0 w.heap.size d m (3 * (K3 + 8)) A9 A9 wb from f1.mono (by omega))
            have HBC := Lib.hid (HBA.out.trans f4)
            clear f1 f4 f5 hro HRA HBA HUF HUL
            go_upto_region 36 with fail
            obtain ⟨w142, hw142⟩ : ∃ W, W = World.drew wb := ⟨_, rfl⟩
            have hb1420 : Below wb.heap.size wb w142 := by rw [hw142]; exact below_drewN' _ wb 1
            have HR6 := Lib.hid (HRL.out.below hb1420)
            have HB6 := Lib.hid (HBC.out.trans (hb1420.mono HBC.out.size))
            have HIS := Lib.hid (is_c HR6.out HLB.out.bnd (by have := HK9.out; omega))
            refine anyH_begin (S := fun _ => True) (by kernel_rfl) ?_
            rw [← hw142]
            clear hw142 hb1420 HRL HBC
            refine aP 0 (d := 200) (op := .move (.tmp 7)) (.pointer (some ⟨d, 0, none⟩)) trivial ?_
            simp only [Act.put, sT, sZ, sS]
            refine aP 1 (d := 201) (op := .move (.tmp 9)) (.pointer (some ⟨m, 0, none⟩)) trivial ?_
            simp only [Act.put, sT, sZ, sS]
            refine anyH_callG 2 (d := some 202) (f := 19) (xs := #[(.tmp 200), (.tmp 201)]) (ts := #[25, 29]) (gd := none) (vs := #[.pointer (some ⟨d, 0, none⟩), .pointer (some ⟨m, 0, none⟩)]) (by kernel_rfl) (by rfl) wantedP (by go_simp) (by go_simp) (HIS.out) ?_
            rintro e142 w1421 ⟨rfl, hb142⟩
            have HR7 := Lib.hid (HR6.out.below hb142)
            have HB7 := Lib.hid (HB6.out.trans (hb142.mono HB6.out.size))
            clear hb142 HIS HR6 HB6
            refine ⟨_, rfl, trivial, fun _ => ?_⟩
            simp only [Act.put, sT, sZ, sS]
            refine anyH_pureG 3 (d := 203) (op := .unOp .not 4 (.tmp 202)) (gd := none) (.bool false) (by rfl) wantedP (by kernel_rfl) (by kernel_rfl) (by kernel_rfl) (fun _ _ _ h => h) (fun o1 ho W hW => by unfold execOp; simp only [ho]; go_simp) trivial ?_
            simp only [Act.put, sT, sZ, sS]
            refine aP 4 (d := 204) (op := .move (.tmp 203)) (.bool false) trivial ?_
            simp only [Act.put, sT, sZ, sS]
            refine anyH_pureG 5 (d := 205) (op := .move (.tmp 13)) (gd := some (4, false)) (.pointer none) (by rfl) (fun o ho => by simp only [Region.wanted, ho]; rfl) (by kernel_rfl) (by kernel_rfl) (by kernel_rfl) (fun _ _ _ h => h) (fun o ho W hW => by unfold execOp; simp only [ho]; go_simp) trivial ?_
            simp only [Act.put, sT, sZ, sS]
            refine anyH_pureG 6 (d := 206) (op := .binOp .neq 35 (.tmp 205) (.const (.pointer none)) 35) (gd := some (4, false)) (.bool false) (by rfl) (fun o ho => by simp only [Region.wanted, ho]; rfl) (by kernel_rfl) (by kernel_rfl) (by kernel_rfl) (fun _ _ _ h => h) (fun o1 ho W hW => by unfold execOp; simp only [ho]; go_simp; try simp) trivial ?_
            simp only [Act.put, sT, sZ, sS]
            refine anyH_pureG 7 (d := 207) (op := .move (.tmp 206)) (gd := some (4, false)) (.bool false) (by rfl) (fun o ho => by simp only [Region.wanted, ho]; rfl) (by kernel_rfl) (by kernel_rfl) (by kernel_rfl) (fun _ _ _ h => h) (fun o ho W hW => by unfold execOp; simp only [ho]; go_simp) trivial ?_
            simp only [Act.put, sT, sZ, sS]
            refine anyH_skip 8 (d := 208) (op := .move (.tmp 10)) (gd := some (7, true)) (by rfl) (fun o ho => by simp only [Region.wanted, ho]; rfl) (by kernel_rfl) (by kernel_rfl) (by kernel_rfl) (fun _ _ _ h => h) trivial ?_
            simp only [Act.put, sT, sZ, sS]
            refine anyH_skip 9 (d := 209) (op := .call { callee := .value (.func 20), args := #[(.tmp 208)], argTypes := #[31] }) (gd := some (7, true)) (by rfl) (fun o ho => by simp only [Region.wanted, ho]; rfl) (by kernel_rfl) (by kernel_rfl) (by kernel_rfl) (fun _ _ _ h => h) trivial ?_
            simp only [Act.put, sT, sZ, sS]
            refine anyH_skip 10 (d := 210) (op := .move (.tmp 13)) (gd := some (7, true)) (by rfl) (fun o ho => by simp only [Region.wanted, ho]; rfl) (by kernel_rfl) (by kernel_rfl) (by kernel_rfl) (fun _ _ _ h => h) trivial ?_
            simp only [Act.put, sT, sZ, sS]
            refine anyH_skip 11 (d := 211) (op := .nilCheck (.tmp 210)) (gd := some (7, true)) (by rfl) (fun o ho => by simp only [Region.wanted, ho]; rfl) (by kernel_rfl) (by kernel_rfl) (by kernel_rfl) (fun _ _ _ h => h) trivial ?_
            simp only [Act.put, sT, sZ, sS]
            refine anyH_skip 12 (d := 212) (op := .fieldAddr 53 (.tmp 211) 2) (gd := some (7, true)) (by rfl) (fun o ho => by simp only [Region.wanted, ho]; rfl) (by kernel_rfl) (by kernel_rfl) (by kernel_rfl) (fun _ _ _ h => h) trivial ?_
            simp only [Act.put, sT, sZ, sS]
            refine anyH_skip 13 (d := 213) (op := .load 32 (.tmp 212)) (gd := some (7, true)) (by rfl) (fun o ho => by simp only [Region.wanted, ho]; rfl) (by kernel_rfl) (by kernel_rfl) (by kernel_rfl) (fun _ _ _ h => h) trivial ?_
            simp only [Act.put, sT, sZ, sS]
            refine anyH_skip 14 (d := 214) (op := .call { callee := .value (.func 21), args := #[(.tmp 213)], argTypes := #[32] }) (gd := some (7, true)) (by rfl) (fun o ho => by simp only [Region.wanted, ho]; rfl) (by kernel_rfl) (by kernel_rfl) (by kernel_rfl) (fun _ _ _ h => h) trivial ?_
            simp only [Act.put, sT, sZ, sS]
            refine anyH_skip 15 (d := 215) (op := .binOp .neq 3 (.tmp 209) (.tmp 214) 3) (gd := some (7, true)) (by rfl) (fun o ho => by simp only [Region.wanted, ho]; rfl) (by kernel_rfl) (by kernel_rfl) (by kernel_rfl) (fun _ _ _ h => h) trivial ?_
            simp only [Act.put, sT, sZ, sS]
            refine anyH_pureG 16 (d := 216) (op := .pick (.tmp 207) (.tmp 215) (.const (.bool false))) (gd := some (4, false)) (.bool false) (by rfl) (fun o ho => by simp only [Region.wanted, ho]; rfl) (by kernel_rfl) (by kernel_rfl) (by kernel_rfl) (fun _ _ _ h => h) (fun o1 ho W hW => by unfold execOp; simp only [ho]; go_simp) trivial ?_
            simp only [Act.put, sT, sZ, sS]
            refine anyH_pureG 17 (d := 217) (op := .pick (.tmp 204) (.const (.bool true)) (.tmp 216)) (gd := none) (.bool false) (by rfl) wantedP (by kernel_rfl) (by kernel_rfl) (by kernel_rfl) (fun _ _ _ h => h) (fun o1 ho W hW => by unfold execOp; simp only [ho]; go_simp) trivial ?_
            simp only [Act.put, sT, sZ, sS]
            refine wpAnyH_done (by kernel_rfl) ?_ _
            have HPN := Lib.hid (show PlJ w d m (k + 1) nm (.pointer none) (.pointer none) w1421 from ⟨_, _, HRP.out, HLB.out, HK9.out, HB7.out, .inl ⟨rfl, rfl, HR7.out.less fun _ e => e.elim⟩⟩)
            clear HR7 HB7 HRP HLB
            go_wp2_with fail
            go_roundw
            case rel => exact ⟨k + 1, by omega, by omega, by go_num, HPN⟩
            case measure => simp [intOf]; omega
         ·
          by_cases h4 : kd = 4
          ·
           as_aux_lemma =>
            subst h4
            have hor := HOR.out
            clear HOR
            rcases hor with hor | hor
            ·
             obtain ⟨rfl, rfl, hrl⟩ := hor
             have HRL := Lib.hid (hrl.below HB5.out)
             have HBC := HBW
             have HRP := HRP0
             have HLB := HLB0
             have HK9 := Lib.hid (show K ≤ 12 * (k + 1) + 12 from by have := HKK.out; omega)
             clear hrl
             have htw : Two _ w.heap.size d m K A w5 := ⟨HRL.out, HLB0.out.bnd⟩
             have HDO := Lib.hid (does5_c htw HBW.out.size (by have := HKK.out; have := HKL.out; omega) ⟨#[]⟩ ⟨#[]⟩ none 0 0 n q HOPJ.out.s4)
             have HRP1 := Lib.hid (HRP0.out.fused n)
             obtain ⟨A9, hA9⟩ : ∃ A9, A9 = (A.fused n).1 := ⟨_, rfl⟩
             rw [← hA9] at HDO HRP1
             clear htw hA9
             go_wp2_with fail
             refine HDO.out.mono ?_
             rintro e145 w145 ⟨rfl, htw, hb145, hk145⟩
             have HLB1 := Lib.hid ((Lb.of htw.bnd htw.rel.gd).mono (show K + 1 ≤ K + 2 by omega))
             have HRT := Lib.hid htw.rel
             have HBT := Lib.hid (HBW.out.trans hb145)
             have HKT := Lib.hid hk145
             clear htw hb145 hk145 HDO HRP0 HLB0
             have HRP := HRP1
             have HLB := HLB1
             have HBC := HBT
             have HK9 := Lib.hid (show K + 2 ≤ 12 * (k + 1) + 12 from by have := HKK.out; omega)
             have HRLN := Lib.hid (HRT.out.mono (show 3 * (K + 1) ≤ 3 * (K + 2) by omega))
             clear HRL
             have HRL := HRLN
             clear HRLN HRT HKT HBT HRP1 HLB1
             go_upto_region 36 with fail
             obtain ⟨w146, hw146⟩ : ∃ W, W = World.drew w145 := ⟨_, rfl⟩
             have hb1460 : Below w145.heap.size w145 w146 := by rw [hw146]; exact below_drewN' _ w145 1
             have HR6 := Lib.hid (HRL.out.below hb1460)
             have HB6 := Lib.hid (HBC.out.trans (hb1460.mono HBC.out.size))
             have HIS := Lib.hid (is_c HR6.out HLB.out.bnd (by have := HK9.out; omega))
             refine anyH_begin (S := fun _ => True) (by kernel_rfl) ?_
             rw [← hw146]
             clear hw146 hb1460 HRL HBC
             refine aP 0 (d := 200) (op := .move (.tmp 7)) (.pointer (some ⟨d, 0, none⟩)) trivial ?_
             simp only [Act.put, sT, sZ, sS]
             refine aP 1 (d := 201) (op := .move (.tmp 9)) (.pointer (some ⟨m, 0, none⟩)) trivial ?_
             simp only [Act.put, sT, sZ, sS]
             refine anyH_callG 2 (d := some 202) (f := 19) (xs := #[(.tmp 200), (.tmp 201)]) (ts := #[25, 29]) (gd := none) (vs := #[.pointer (some ⟨d, 0, none⟩), .pointer (some ⟨m, 0, none⟩)]) (by kernel_rfl) (by rfl) wantedP (by go_simp) (by go_simp) (HIS.out) ?_
             rintro e146 w1461 ⟨rfl, hb146⟩
             have HR7 := Lib.hid (HR6.out.below hb146)
             have HB7 := Lib.hid (HB6.out.trans (hb146.mono HB6.out.size))
             clear hb146 HIS HR6 HB6
             refine ⟨_, rfl, trivial, fun _ => ?_⟩
             simp only [Act.put, sT, sZ, sS]
             refine anyH_pureG 3 (d := 203) (op := .unOp .not 4 (.tmp 202)) (gd := none) (.bool false) (by rfl) wantedP (by kernel_rfl) (by kernel_rfl) (by kernel_rfl) (fun _ _ _ h => h) (fun o1 ho W hW => by unfold execOp; simp only [ho]; go_simp) trivial ?_
             simp only [Act.put, sT, sZ, sS]
             refine aP 4 (d := 204) (op := .move (.tmp 203)) (.bool false) trivial ?_
             simp only [Act.put, sT, sZ, sS]
             refine anyH_pureG 5 (d := 205) (op := .move (.tmp 13)) (gd := some (4, false)) (.pointer none) (by rfl) (fun o ho => by simp only [Region.wanted, ho]; rfl) (by kernel_rfl) (by kernel_rfl) (by kernel_rfl) (fun _ _ _ h => h) (fun o ho W hW => by unfold execOp; simp only [ho]; go_simp) trivial ?_
             simp only [Act.put, sT, sZ, sS]
             refine anyH_pureG 6 (d := 206) (op := .binOp .neq 35 (.tmp 205) (.const (.pointer none)) 35) (gd := some (4, false)) (.bool false) (by rfl) (fun o ho => by simp only [Region.wanted, ho]; rfl) (by kernel_rfl) (by kernel_rfl) (by kernel_rfl) (fun _ _ _ h => h) (fun o1 ho W hW => by unfold execOp; simp only [ho]; go_simp; try simp) trivial ?_
             simp only [Act.put, sT, sZ, sS]
             refine anyH_pureG 7 (d := 207) (op := .move (.tmp 206)) (gd := some (4, false)) (.bool false) (by rfl) (fun o ho => by simp only [Region.wanted, ho]; rfl) (by kernel_rfl) (by kernel_rfl) (by kernel_rfl) (fun _ _ _ h => h) (fun o ho W hW => by unfold execOp; simp only [ho]; go_simp) trivial ?_
             simp only [Act.put, sT, sZ, sS]
             refine anyH_skip 8 (d := 208) (op := .move (.tmp 10)) (gd := some (7, true)) (by rfl) (fun o ho => by simp only [Region.wanted, ho]; rfl) (by kernel_rfl) (by kernel_rfl) (by kernel_rfl) (fun _ _ _ h => h) trivial ?_
             simp only [Act.put, sT, sZ, sS]
             refine anyH_skip 9 (d := 209) (op := .call { callee := .value (.func 20), args := #[(.tmp 208)], argTypes := #[31] }) (gd := some (7, true)) (by rfl) (fun o ho => by simp only [Region.wanted, ho]; rfl) (by kernel_rfl) (by kernel_rfl) (by kernel_rfl) (fun _ _ _ h => h) trivial ?_
             simp only [Act.put, sT, sZ, sS]
             refine anyH_skip 10 (d := 210) (op := .move (.tmp 13)) (gd := some (7, true)) (by rfl) (fun o ho => by simp only [Region.wanted, ho]; rfl) (by kernel_rfl) (by kernel_rfl) (by kernel_rfl) (fun _ _ _ h => h) trivial ?_
             simp only [Act.put, sT, sZ, sS]
             refine anyH_skip 11 (d := 211) (op := .nilCheck (.tmp 210)) (gd := some (7, true)) (by rfl) (fun o ho => by simp only [Region.wanted, ho]; rfl) (by kernel_rfl) (by kernel_rfl) (by kernel_rfl) (fun _ _ _ h => h) trivial ?_
             simp only [Act.put, sT, sZ, sS]
             refine anyH_skip 12 (d := 212) (op := .fieldAddr 53 (.tmp 211) 2) (gd := some (7, true)) (by rfl) (fun o ho => by simp only [Region.wanted, ho]; rfl) (by kernel_rfl) (by kernel_rfl) (by kernel_rfl) (fun _ _ _ h => h) trivial ?_
             simp only [Act.put, sT, sZ, sS]
             refine anyH_skip 13 (d := 213) (op := .load 32 (.tmp 212)) (gd := some (7, true)) (by rfl) (fun o ho => by simp only [Region.wanted, ho]; rfl) (by kernel_rfl) (by kernel_rfl) (by kernel_rfl) (fun _ _ _ h => h) trivial ?_
             simp only [Act.put, sT, sZ, sS]
             refine anyH_skip 14 (d := 214) (op := .call { callee := .value (.func 21), args := #[(.tmp 213)], argTypes := #[32] }) (gd := some (7, true)) (by rfl) (fun o ho => by simp only [Region.wanted, ho]; rfl) (by kernel_rfl) (by kernel_rfl) (by kernel_rfl) (fun _ _ _ h => h) trivial ?_
             simp only [Act.put, sT, sZ, sS]
             refine anyH_skip 15 (d := 215) (op := .binOp .neq 3 (.tmp 209) (.tmp 214) 3) (gd := some (7, true)) (by rfl) (fun o ho => by simp only [Region.wanted, ho]; rfl) (by kernel_rfl) (by kernel_rfl) (by kernel_rfl) (fun _ _ _ h => h) trivial ?_
             simp only [Act.put, sT, sZ, sS]
             refine anyH_pureG 16 (d := 216) (op := .pick (.tmp 207) (.tmp 215) (.const (.bool false))) (gd := some (4, false)) (.bool false) (by rfl) (fun o ho => by simp only [Region.wanted, ho]; rfl) (by kernel_rfl) (by kernel_rfl) (by kernel_rfl) (fun _ _ _ h => h) (fun o1 ho W hW => by unfold execOp; simp only [ho]; go_simp) trivial ?_
             simp only [Act.put, sT, sZ, sS]
             refine anyH_pureG 17 (d := 217) (op := .pick (.tmp 204) (.const (.bool true)) (.tmp 216)) (gd := none) (.bool false) (by rfl) wantedP (by kernel_rfl) (by kernel_rfl) (by kernel_rfl) (fun _ _ _ h => h) (fun o1 ho W hW => by unfold execOp; simp only [ho]; go_simp) trivial ?_
             simp only [Act.put, sT, sZ, sS]
             refine wpAnyH_done (by kernel_rfl) ?_ _
             have HPN := Lib.hid (show PlJ w d m (k + 1) nm (.pointer none) (.pointer none) w1461 from ⟨_, _, HRP.out, HLB.out, HK9.out, HB7.out, .inl ⟨rfl, rfl, HR7.out.less fun _ e => e.elim⟩⟩)
             clear HR7 HB7 HRP HLB
             go_wp2_with fail
             go_roundw
             case rel => exact ⟨k + 1, by omega, by omega, by go_num, HPN⟩
             case measure => simp [intOf]; omega
            ·
             obtain ⟨X, V, jb, kb, sz, rv, ps, rfl, rfl, hn1, hn2, hjs, hsz, hsb⟩ := hor
             have HNM := Lib.hid (And.intro hn1 hn2)
             have HXJ := Lib.hid (show X1 ≠ jb from fun e => by have := (hjs.rel.lt jb hjs.xj).2; have := HX5.out; omega)
             have HXV := Lib.hid (show ¬ V X1 from fun e => by have := (hjs.rel.lt X1 (hjs.vx X1 e)).2; have := HX5.out; omega)
             have HGK := Lib.hid (HLB0.out.gk hjs.rel.gd)
             have HJS := Lib.hid (hjs.with HB5.out HWR.out.size X1 (by have := HX5.out; omega) (by have := HX5.out; omega))
             have HSZ0 := Lib.hid hsz
             have HSB0 := Lib.hid hsb
             clear hn1 hn2 hjs hsz hsb
             obtain ⟨rv9, hr9⟩ : ∃ rv9, rv9 = rv := ⟨_, rfl⟩
             subst hr9
             have htw : Two _ w.heap.size d m K A w5 := ⟨HJS.out.rel, HLB0.out.bnd⟩
             have HDO := Lib.hid (does5_c htw HBW.out.size (by have := HKK.out; have := HKL.out; omega) ⟨#[]⟩ ⟨#[]⟩ none 0 0 n q HOPJ.out.s4)
             have HRP1 := Lib.hid (HRP0.out.fused n)
             obtain ⟨A9, hA9⟩ : ∃ A9, A9 = (A.fused n).1 := ⟨_, rfl⟩
             rw [← hA9] at HDO HRP1
             clear htw hA9
             go_wp2_with fail
             refine HDO.out.mono ?_
             rintro e143 w143 ⟨rfl, htw, hb143, hk143⟩
             have HLB1 := Lib.hid ((Lb.of htw.bnd htw.rel.gd).mono (show K + 1 ≤ K + 2 by omega))
             have HRT := Lib.hid htw.rel
             have HBT := Lib.hid (HBW.out.trans hb143)
             have HBS := Lib.hid hb143
             have HKT := Lib.hid hk143
             clear htw hb143 hk143 HDO HRP0 HLB0
             have HRP := HRP1
             have HLB := HLB1
             have HBC := HBT
             have HK9 := Lib.hid (show K + 2 ≤ 12 * (k + 1) + 12 from by have := HKK.out; omega)
             have HJ := Lib.hid ((HJS.out.rekept HRT.out HBS.out HKT.out).mono (show 3 * (K + 1) ≤ 3 * (K + 2) by omega))
             have HSZ := HSZ0
             have HSB := Lib.hid (show sz ≤ 10000 * (k + 1 + 1) from by have := HSB0.out; omega)
             clear HRT HKT HBT HRP1 HLB1 HJS HSB0
             go_upto_region 36 with fail
             obtain ⟨w144, hw144⟩ : ∃ W, W = World.drew w143 := ⟨_, rfl⟩
             have hb1440 : Below w143.heap.size w143 w144 := by rw [hw144]; exact below_drewN' _ w143 1
             have HJ6 := Lib.hid (HJ.out.below hb1440)
             have HB6 := Lib.hid (HBC.out.trans (hb1440.mono HBC.out.size))
             have HIS := Lib.hid (is_c HJ6.out.rel HLB.out.bnd (by have := HK9.out; omega))
             obtain ⟨rx9, rxn9, rxc9, hrv9⟩ := HJ6.out.rk.own.sl
             have HS36 := Lib.hid (show HasC [(⟨kb, 2, none⟩, rv9)] w144 from by
              obtain ⟨q0, q1, q2⟩ := HJ6.out.rk.cells
              intro q hq
              simp only [List.mem_cons, List.not_mem_nil, or_false] at hq
              subst hq
              exact q2)
             have HX36 := Lib.hid (show ∀ q ∈ ([(⟨kb, 2, none⟩, rv9)] : List (Addr × Value)), q.1.block < w144.heap.size from by
              have := (Array.getElem?_eq_some_iff.1 HJ6.out.rk.row).1
              intro q hq
              simp only [List.mem_cons, List.not_mem_nil, or_false] at hq
              subst hq
              exact this)
             have HL36 := Lib.hid (fun W (hW : HasC [(⟨kb, 2, none⟩, rv9)] W) => run_cell_v W ⟨kb, 2, none⟩ rv9 ⟨rx9, rxn9, rxc9, hrv9⟩ (hW (⟨kb, 2, none⟩, rv9) (by simp)))
             refine anyH_begin (S := HasC [(⟨kb, 2, none⟩, rv9)]) (by kernel_rfl) ?_
             rw [← hw144]
             clear hw144 hb1440 HJ HBC hrv9
             refine aP 0 (d := 200) (op := .move (.tmp 7)) (.pointer (some ⟨d, 0, none⟩)) HS36.out ?_
             simp only [Act.put, sT, sZ, sS]
             refine aP 1 (d := 201) (op := .move (.tmp 9)) (.pointer (some ⟨m, 0, none⟩)) HS36.out ?_
             simp only [Act.put, sT, sZ, sS]
             refine anyH_callG 2 (d := some 202) (f := 19) (xs := #[(.tmp 200), (.tmp 201)]) (ts := #[25, 29]) (gd := none) (vs := #[.pointer (some ⟨d, 0, none⟩), .pointer (some ⟨m, 0, none⟩)]) (by kernel_rfl) (by rfl) wantedP (by go_simp) (by go_simp) (HIS.out) ?_
             rintro e144 w1441 ⟨rfl, hb144⟩
             have HS37 := Lib.hid (HS36.out.below hb144 HX36.out)
             have HJ7 := Lib.hid (HJ6.out.below hb144)
             have HB7 := Lib.hid (HB6.out.trans (hb144.mono HB6.out.size))
             have HPZ := Lib.hid (psize_c jb d nm (sz : Int) w1441 HJ7.out.rj)
             have HRZ := Lib.hid (show Calls Tryz.prog 21 #[rv9] w1441 fun e w' => e = .returned (.int .i64 (sz : Int)) ∧ w' = w1441 from by
              obtain ⟨ya, yn, yc, hyv, -, -, -, hyr⟩ := HJ7.out.rk.own.row
              rw [hyv, HSZ.out]
              exact rsize_c ya yn yc _ w1441 hyr (by have := hyr.1; have := flat_low ps; have := HSZ.out; have := HSB.out; omega) (by have := HSZ.out; have := HSB.out; omega))
             clear hb144 HIS HS36 HX36 HJ6 HB6
             refine ⟨_, rfl, HS37.out, fun _ => ?_⟩
             simp only [Act.put, sT, sZ, sS]
             refine anyH_pureG 3 (d := 203) (op := .unOp .not 4 (.tmp 202)) (gd := none) (.bool false) (by rfl) wantedP (by kernel_rfl) (by kernel_rfl) (by kernel_rfl) (fun _ _ _ h => h) (fun o1 ho W hW => by unfold execOp; simp only [ho]; go_simp) HS37.out ?_
             simp only [Act.put, sT, sZ, sS]
             refine aP 4 (d := 204) (op := .move (.tmp 203)) (.bool false) HS37.out ?_
             simp only [Act.put, sT, sZ, sS]
             refine anyH_pureG 5 (d := 205) (op := .move (.tmp 13)) (gd := some (4, false)) (.pointer (some ⟨kb, 0, none⟩)) (by rfl) (fun o ho => by simp only [Region.wanted, ho]; rfl) (by kernel_rfl) (by kernel_rfl) (by kernel_rfl) (fun _ _ _ h => h) (fun o ho W hW => by unfold execOp; simp only [ho]; go_simp) HS37.out ?_
             simp only [Act.put, sT, sZ, sS]
             refine anyH_pureG 6 (d := 206) (op := .binOp .neq 35 (.tmp 205) (.const (.pointer none)) 35) (gd := some (4, false)) (.bool true) (by rfl) (fun o ho => by simp only [Region.wanted, ho]; rfl) (by kernel_rfl) (by kernel_rfl) (by kernel_rfl) (fun _ _ _ h => h) (fun o1 ho W hW => by unfold execOp; simp only [ho]; go_simp; try simp) HS37.out ?_
             simp only [Act.put, sT, sZ, sS]
             refine anyH_pureG 7 (d := 207) (op := .move (.tmp 206)) (gd := some (4, false)) (.bool true) (by rfl) (fun o ho => by simp only [Region.wanted, ho]; rfl) (by kernel_rfl) (by kernel_rfl) (by kernel_rfl) (fun _ _ _ h => h) (fun o ho W hW => by unfold execOp; simp only [ho]; go_simp) HS37.out ?_
             simp only [Act.put, sT, sZ, sS]
             refine anyH_pureG 8 (d := 208) (op := .move (.tmp 10)) (gd := some (7, true)) (.pointer (some ⟨jb, 0, none⟩)) (by rfl) (fun o ho => by simp only [Region.wanted, ho]; rfl) (by kernel_rfl) (by kernel_rfl) (by kernel_rfl) (fun _ _ _ h => h) (fun o ho W hW => by unfold execOp; simp only [ho]; go_simp) HS37.out ?_
             simp only [Act.put, sT, sZ, sS]
             refine anyH_pureG 10 (d := 210) (op := .move (.tmp 13)) (gd := some (7, true)) (.pointer (some ⟨kb, 0, none⟩)) (by rfl) (fun o ho => by simp only [Region.wanted, ho]; rfl) (by kernel_rfl) (by kernel_rfl) (by kernel_rfl) (fun _ _ _ h => h) (fun o ho W hW => by unfold execOp; simp only [ho]; go_simp) HS37.out ?_
             simp only [Act.put, sT, sZ, sS]
             refine anyH_pureG 11 (d := 211) (op := .nilCheck (.tmp 210)) (gd := some (7, true)) (.pointer (some ⟨kb, 0, none⟩)) (by rfl) (fun o ho => by simp only [Region.wanted, ho]; rfl) (by kernel_rfl) (by kernel_rfl) (by kernel_rfl) (fun _ _ _ h => h) (fun o ho W hW => by unfold execOp; simp only [ho]; go_simp) HS37.out ?_
             simp only [Act.put, sT, sZ, sS]
             refine anyH_pureG 12 (d := 212) (op := .fieldAddr 53 (.tmp 211) 2) (gd := some (7, true)) (.pointer (some ⟨kb, 2, none⟩)) (by rfl) (fun o ho => by simp only [Region.wanted, ho]; rfl) (by kernel_rfl) (by kernel_rfl) (by kernel_rfl) (fun _ _ _ h => h) (fun o ho W hW => by unfold execOp; simp only [ho]; go_simp) HS37.out ?_
             simp only [Act.put, sT, sZ, sS]
             refine anyH_loadG 13 (d := 213) (ty := 32) (x := (.tmp 212)) (gd := some (7, true)) (p := .pointer (some ⟨kb, 2, none⟩)) (rv9) (by rfl) (fun o ho => by simp only [Region.wanted, ho]; rfl) (by kernel_rfl) (by kernel_rfl) (by kernel_rfl) (fun _ _ _ h => h) (by rfl) HL36.out HS37.out ?_
             simp only [Act.put, sT, sZ, sS]
             refine anyH_callG 9 (d := some 209) (f := 20) (xs := #[(.tmp 208)]) (ts := #[31]) (gd := some (7, true)) (vs := #[.pointer (some ⟨jb, 0, none⟩)]) (by kernel_rfl) (by rfl) (fun o ho => by simp only [Region.wanted, ho]; rfl) (by go_simp) (by go_simp) (HPZ.out) ?_
             rintro e144a e144aw ⟨rfl, e144ah⟩
             subst e144aw
             refine ⟨_, rfl, HS37.out, fun _ => ?_⟩
             simp only [Act.put, sT, sZ, sS]
             refine anyH_callG 14 (d := some 214) (f := 21) (xs := #[(.tmp 213)]) (ts := #[32]) (gd := some (7, true)) (vs := #[rv9]) (by kernel_rfl) (by rfl) (fun o ho => by simp only [Region.wanted, ho]; rfl) (by go_simp) (by go_simp) (HRZ.out) ?_
             rintro e144b e144bw ⟨rfl, e144bh⟩
             subst e144bw
             refine ⟨_, rfl, HS37.out, fun _ => ?_⟩
             simp only [Act.put, sT, sZ, sS]
             refine anyH_pureG 15 (d := 215) (op := .binOp .neq 3 (.tmp 209) (.tmp 214) 3) (gd := some (7, true)) (.bool false) (by rfl) (fun o ho => by simp only [Region.wanted, ho]; rfl) (by kernel_rfl) (by kernel_rfl) (by kernel_rfl) (fun _ _ _ h => h) (fun o1 ho W hW => by unfold execOp; simp only [ho]; go_simp; try simp) HS37.out ?_
             simp only [Act.put, sT, sZ, sS]
             refine anyH_pureG 16 (d := 216) (op := .pick (.tmp 207) (.tmp 215) (.const (.bool false))) (gd := some (4, false)) (.bool false) (by rfl) (fun o ho => by simp only [Region.wanted, ho]; rfl) (by kernel_rfl) (by kernel_rfl) (by kernel_rfl) (fun _ _ _ h => h) (fun o1 ho W hW => by unfold execOp; simp only [ho]; go_simp) HS37.out ?_
             simp only [Act.put, sT, sZ, sS]
             refine anyH_pureG 17 (d := 217) (op := .pick (.tmp 204) (.const (.bool true)) (.tmp 216)) (gd := none) (.bool false) (by rfl) wantedP (by kernel_rfl) (by kernel_rfl) (by kernel_rfl) (fun _ _ _ h => h) (fun o1 ho W hW => by unfold execOp; simp only [ho]; go_simp) HS37.out ?_
             simp only [Act.put, sT, sZ, sS]
             refine wpAnyH_done (by kernel_rfl) ?_ _
             have HPN := Lib.hid (show PlJ w d m (k + 1) nm (.pointer (some ⟨jb, 0, none⟩)) (.pointer (some ⟨kb, 0, none⟩)) w1441 from ⟨_, _, HRP.out, HLB.out, HK9.out, HB7.out, .inr ⟨_, _, _, _, _, _, _, rfl, rfl, HNM.out.1, HNM.out.2, HJ7.out, HSZ.out, HSB.out⟩⟩)
             clear HS37 HL36 HPZ HRZ HJ7 HB7 HRP HLB
             go_wp2_with fail
             go_roundw
             case rel => exact ⟨k + 1, by omega, by omega, by go_num, HPN⟩
             case measure => simp [intOf]; omega
          ·
           by_cases h5 : kd = 5
           ·
            as_aux_lemma =>
             subst h5
             obtain ⟨X0, hr0⟩ := HOR.out.rel
             have HRO0 := Lib.hid (hr0.below HB5.out)
             clear hr0 HOR
             have htw : Two _ w.heap.size d m K A w5 := ⟨HRO0.out, HLB0.out.bnd⟩
             have HDO := Lib.hid (does6_c htw HBW.out.size (by have := HKK.out; have := HKL.out; omega) ⟨#[]⟩ ⟨#[]⟩ none 0 0 n q)
             have HRP1 := Lib.hid (HRP0.out.crash n q)
             obtain ⟨A9, hA9⟩ : ∃ A9, A9 = (A.crash n q) := ⟨_, rfl⟩
             rw [← hA9] at HDO HRP1
             clear htw hA9
             go_wp2_with fail
             refine HDO.out.mono ?_
             rintro e147 w147 ⟨rfl, htw, hb147, hk147⟩
             have HLB1 := Lib.hid ((Lb.of htw.bnd htw.rel.gd).mono (show K + 1 ≤ K + 2 by omega))
             have HRT := Lib.hid htw.rel
             have HBT := Lib.hid (HBW.out.trans hb147)
             have HKT := Lib.hid hk147
             clear htw hb147 hk147 HDO HRP0 HLB0
             have HRO := Lib.hid (HRT.out.mono (show 3 * (K + 1) ≤ 3 * (K + 2) by omega))
             have HRP3 := HRP1
             have HLB3 := HLB1
             have HBC3 := HBT
             obtain ⟨A3, hA3⟩ : ∃ A3, A3 = A9 := ⟨_, rfl⟩
             obtain ⟨K3, hK3⟩ : ∃ K3, K3 = K + 2 := ⟨_, rfl⟩
             rw [← hA3] at HRO HRP3 HLB3
             rw [← hK3] at HRO HLB3
             have HK3 := Lib.hid (show K3 + 8 ≤ 12 * (k + 1) + 12 from by have := HKK.out; omega)
             clear hA3 hK3 HRT HKT HBT HRP1 HLB1 HRO0
             have hnm : ¬ (nm.size = 0 ∨ 160 ≤ nm.size) := by have := HNG.out; omega
             have HNM := Lib.hid (show 1 ≤ nm.size ∧ nm.size ≤ 159 from by omega)
             have hpo := popen_c HRO.out (by have := HK3.out; have := HKL.out; omega) nm HNM.out.1 HNM.out.2 (HRP3.out.zl nm)
             have HGK3 := Lib.hid (HLB3.out.gk HRO.out.gd)
             have hkp := kp4_load nm HRP3.out HLB3.out
             have HUF := Lib.hid (usedA_flat A3 nm)
             have HUL := Lib.hid (HRP3.out.used_le nm)
             have HRD := Lib.hid (fun (X : Nat → Prop) (N : Nat) (A1 : Ad) (W : World) (hw : Rel X w.heap.size d m N A1 A3 W) => ropen_c hw HGK3.out (by have := HK3.out; have := HKL.out; omega) nm HNM.out.1 HNM.out.2 (HRP3.out.zl nm))
             obtain ⟨r, hrr⟩ : ∃ r, A3.load nm = r := ⟨_, rfl⟩
             rw [hrr] at hpo HRD hkp
             have HRP := Lib.hid hkp.1
             have HLB := Lib.hid hkp.2
             have HK9 := HK3
             obtain ⟨RS, hrs⟩ : ∃ RS, recsA A3 nm = RS := ⟨_, rfl⟩
             rw [hrs] at hpo HRD HUF
             obtain ⟨us, hus⟩ : ∃ us, usedA A3 nm = us := ⟨_, rfl⟩
             rw [hus] at hpo HUF HUL
             have HPO := Lib.hid hpo
             obtain ⟨A9, x⟩ := r
             clear hpo hkp hrr hrs hus hnm HRP3 HLB3 HGK3 HK3
             go_wp2_with fail
             refine HPO.out.mono ?_
             intro eo wa hpo
             clear HPO
             rcases hpo with ⟨hr0, jb, E, a, n, c, rfl, g1, g2, g3, g4, g5, g6, g7, g8, g9⟩ | ⟨hr0, rfl, g1, g8, g9⟩
             ·
              (try simp only at hr0)
              subst hr0
              have HRA := Lib.hid g1
              have HE1 := Lib.hid (And.intro g2 g3)
              have HJB := Lib.hid g4
              have HRC := Lib.hid g5
              have HNC := Lib.hid (And.intro g6 g7)
              have HBA := Lib.hid (HBC3.out.trans g8)
              have HRD2 := Lib.hid (HRD.out _ _ _ _ HRA.out)
              clear g1 g2 g3 g4 g5 g6 g7 g8 g9 HRD HBC3 HRO
              go_wp2_with fail
              refine HRD2.out.mono ?_
              intro eo wb hro
              clear HRD2
              obtain ⟨-, kb, V, rv9, rfl, f1, f2, f3, f4, f5⟩ := hro.resolve_right (fun h => h.1 rfl)
              have HRB := Lib.hid f1
              have HKR := Lib.hid f2
              have HVN := Lib.hid f3
              have HBB := Lib.hid f4
              have HKX := Lib.hid f5
              clear f1 f2 f3 f4 f5 hro
              have HBC := Lib.hid (HBA.out.trans HBB.out)
              have HRC2 := Lib.hid (HRC.out.stay HBB.out.size fun j _ hj => hj.elim (fun e => HBB.out.block j e) fun e => HKX.out j (.inr e))
              obtain ⟨a2, n2, c2, hrv, hn2, hnc2, hcm2, hrow2⟩ := HKR.out.own.row
              have hnn : n2 = n := by rw [← hn2]; exact HRC.out.ln
              subst hnn
              have HSM := Lib.hid (vsame_c a a2 n2 c c2 RS wb (RowRd.of HRC2.out) hrow2 (by have := HRC2.out.ln; have := flat_low RS; have := HUF.out; have := HUL.out; omega))
              obtain ⟨q0, q1, q2⟩ := HKR.out.cells
              rw [hrv] at q2
              have HRV := Lib.hid hrv
              clear hrv hn2 hnc2 hcm2 hrow2
              go_wp2_with fail
              refine HSM.out.mono ?_
              rintro eo wc ⟨rfl, q, hwc⟩
              have hbc : Below wb.heap.size wb wc := by rw [hwc]; exact below_drewN' _ wb q
              have HJ := Lib.hid (show Js (fun j => (X0 j ∨ E j) ∨ V j) V w.heap.size d m jb kb (3 * (K3 + 8)) nm A9 A9 us rv9 RS wc from Js.below ⟨HRB.out.mono (by omega), .inl (.inr HE1.out.1), fun hv => by have := HVN.out jb hv; have := (HRA.out.lt jb (.inr HE1.out.1)).2; omega, (HKX.out jb (.inr HE1.out.1)).trans HJB.out, HKR.out, fun j hj => .inr hj⟩ hbc)
              have HBCN := Lib.hid (HBC.out.trans (hbc.mono HBC.out.size))
              clear HBC
              have HBC := HBCN
              have HSZ := HUF
              have HSB := Lib.hid (show us ≤ 10000 * (k + 1 + 1) from by have := HUL.out; omega)
              clear HBCN hwc hbc HSM HRA HE1 HJB HRC HNC HBA HRB HKR HVN HBB HKX HRC2 q0 q1 q2 HRV HUF HUL
              go_upto_region 36 with fail
              obtain ⟨w149, hw149⟩ : ∃ W, W = World.drew wc := ⟨_, rfl⟩
              have hb1490 : Below wc.heap.size wc w149 := by rw [hw149]; exact below_drewN' _ wc 1
              have HJ6 := Lib.hid (HJ.out.below hb1490)
              have HB6 := Lib.hid (HBC.out.trans (hb1490.mono HBC.out.size))
              have HIS := Lib.hid (is_c HJ6.out.rel HLB.out.bnd (by have := HK9.out; omega))
              obtain ⟨rx9, rxn9, rxc9, hrv9⟩ := HJ6.out.rk.own.sl
              have HS36 := Lib.hid (show HasC [(⟨kb, 2, none⟩, rv9)] w149 from by
               obtain ⟨q0, q1, q2⟩ := HJ6.out.rk.cells
               intro q hq
               simp only [List.mem_cons, List.not_mem_nil, or_false] at hq
               subst hq
               exact q2)
              have HX36 := Lib.hid (show ∀ q ∈ ([(⟨kb, 2, none⟩, rv9)] : List (Addr × Value)), q.1.block < w149.heap.size from by
               have := (Array.getElem?_eq_some_iff.1 HJ6.out.rk.row).1
               intro q hq
               simp only [List.mem_cons, List.not_mem_nil, or_false] at hq
               subst hq
               exact this)
              have HL36 := Lib.hid (fun W (hW : HasC [(⟨kb, 2, none⟩, rv9)] W) => run_cell_v W ⟨kb, 2, none⟩ rv9 ⟨rx9, rxn9, rxc9, hrv9⟩ (hW (⟨kb, 2, none⟩, rv9) (by simp)))
              refine anyH_begin (S := HasC [(⟨kb, 2, none⟩, rv9)]) (by kernel_rfl) ?_
              rw [← hw149]
              clear hw149 hb1490 HJ HBC hrv9
              refine aP 0 (d := 200) (op := .move (.tmp 7)) (.pointer (some ⟨d, 0, none⟩)) HS36.out ?_
              simp only [Act.put, sT, sZ, sS]
              refine aP 1 (d := 201) (op := .move (.tmp 9)) (.pointer (some ⟨m, 0, none⟩)) HS36.out ?_
              simp only [Act.put, sT, sZ, sS]
              refine anyH_callG 2 (d := some 202) (f := 19) (xs := #[(.tmp 200), (.tmp 201)]) (ts := #[25, 29]) (gd := none) (vs := #[.pointer (some ⟨d, 0, none⟩), .pointer (some ⟨m, 0, none⟩)]) (by kernel_rfl) (by rfl) wantedP (by go_simp) (by go_simp) (HIS.out) ?_
              rintro e149 w1491 ⟨rfl, hb149⟩
              have HS37 := Lib.hid (HS36.out.below hb149 HX36.out)
              have HJ7 := Lib.hid (HJ6.out.below hb149)
              have HB7 := Lib.hid (HB6.out.trans (hb149.mono HB6.out.size))
              have HPZ := Lib.hid (psize_c jb d nm (us : Int) w1491 HJ7.out.rj)
              have HRZ := Lib.hid (show Calls Tryz.prog 21 #[rv9] w1491 fun e w' => e = .returned (.int .i64 (us : Int)) ∧ w' = w1491 from by
               obtain ⟨ya, yn, yc, hyv, -, -, -, hyr⟩ := HJ7.out.rk.own.row
               rw [hyv, HSZ.out]
               exact rsize_c ya yn yc _ w1491 hyr (by have := hyr.1; have := flat_low RS; have := HSZ.out; have := HSB.out; omega) (by have := HSZ.out; have := HSB.out; omega))
              clear hb149 HIS HS36 HX36 HJ6 HB6
              refine ⟨_, rfl, HS37.out, fun _ => ?_⟩
              simp only [Act.put, sT, sZ, sS]
              refine anyH_pureG 3 (d := 203) (op := .unOp .not 4 (.tmp 202)) (gd := none) (.bool false) (by rfl) wantedP (by kernel_rfl) (by kernel_rfl) (by kernel_rfl) (fun _ _ _ h => h) (fun o1 ho W hW => by unfold execOp; simp only [ho]; go_simp) HS37.out ?_
              simp only [Act.put, sT, sZ, sS]
              refine aP 4 (d := 204) (op := .move (.tmp 203)) (.bool false) HS37.out ?_
              simp only [Act.put, sT, sZ, sS]
              refine anyH_pureG 5 (d := 205) (op := .move (.tmp 13)) (gd := some (4, false)) (.pointer (some ⟨kb, 0, none⟩)) (by rfl) (fun o ho => by simp only [Region.wanted, ho]; rfl) (by kernel_rfl) (by kernel_rfl) (by kernel_rfl) (fun _ _ _ h => h) (fun o ho W hW => by unfold execOp; simp only [ho]; go_simp) HS37.out ?_
              simp only [Act.put, sT, sZ, sS]
              refine anyH_pureG 6 (d := 206) (op := .binOp .neq 35 (.tmp 205) (.const (.pointer none)) 35) (gd := some (4, false)) (.bool true) (by rfl) (fun o ho => by simp only [Region.wanted, ho]; rfl) (by kernel_rfl) (by kernel_rfl) (by kernel_rfl) (fun _ _ _ h => h) (fun o1 ho W hW => by unfold execOp; simp only [ho]; go_simp; try simp) HS37.out ?_
              simp only [Act.put, sT, sZ, sS]
              refine anyH_pureG 7 (d := 207) (op := .move (.tmp 206)) (gd := some (4, false)) (.bool true) (by rfl) (fun o ho => by simp only [Region.wanted, ho]; rfl) (by kernel_rfl) (by kernel_rfl) (by kernel_rfl) (fun _ _ _ h => h) (fun o ho W hW => by unfold execOp; simp only [ho]; go_simp) HS37.out ?_
              simp only [Act.put, sT, sZ, sS]
              refine anyH_pureG 8 (d := 208) (op := .move (.tmp 10)) (gd := some (7, true)) (.pointer (some ⟨jb, 0, none⟩)) (by rfl) (fun o ho => by simp only [Region.wanted, ho]; rfl) (by kernel_rfl) (by kernel_rfl) (by kernel_rfl) (fun _ _ _ h => h) (fun o ho W hW => by unfold execOp; simp only [ho]; go_simp) HS37.out ?_
              simp only [Act.put, sT, sZ, sS]
              refine anyH_pureG 10 (d := 210) (op := .move (.tmp 13)) (gd := some (7, true)) (.pointer (some ⟨kb, 0, none⟩)) (by rfl) (fun o ho => by simp only [Region.wanted, ho]; rfl) (by kernel_rfl) (by kernel_rfl) (by kernel_rfl) (fun _ _ _ h => h) (fun o ho W hW => by unfold execOp; simp only [ho]; go_simp) HS37.out ?_
              simp only [Act.put, sT, sZ, sS]
              refine anyH_pureG 11 (d := 211) (op := .nilCheck (.tmp 210)) (gd := some (7, true)) (.pointer (some ⟨kb, 0, none⟩)) (by rfl) (fun o ho => by simp only [Region.wanted, ho]; rfl) (by kernel_rfl) (by kernel_rfl) (by kernel_rfl) (fun _ _ _ h => h) (fun o ho W hW => by unfold execOp; simp only [ho]; go_simp) HS37.out ?_
              simp only [Act.put, sT, sZ, sS]
              refine anyH_pureG 12 (d := 212) (op := .fieldAddr 53 (.tmp 211) 2) (gd := some (7, true)) (.pointer (some ⟨kb, 2, none⟩)) (by rfl) (fun o ho => by simp only [Region.wanted, ho]; rfl) (by kernel_rfl) (by kernel_rfl) (by kernel_rfl) (fun _ _ _ h => h) (fun o ho W hW => by unfold execOp; simp only [ho]; go_simp) HS37.out ?_
              simp only [Act.put, sT, sZ, sS]
              refine anyH_loadG 13 (d := 213) (ty := 32) (x := (.tmp 212)) (gd := some (7, true)) (p := .pointer (some ⟨kb, 2, none⟩)) (rv9) (by rfl) (fun o ho => by simp only [Region.wanted, ho]; rfl) (by kernel_rfl) (by kernel_rfl) (by kernel_rfl) (fun _ _ _ h => h) (by rfl) HL36.out HS37.out ?_
              simp only [Act.put, sT, sZ, sS]
              refine anyH_callG 9 (d := some 209) (f := 20) (xs := #[(.tmp 208)]) (ts := #[31]) (gd := some (7, true)) (vs := #[.pointer (some ⟨jb, 0, none⟩)]) (by kernel_rfl) (by rfl) (fun o ho => by simp only [Region.wanted, ho]; rfl) (by go_simp) (by go_simp) (HPZ.out) ?_
              rintro e149a e149aw ⟨rfl, e149ah⟩
              subst e149aw
              refine ⟨_, rfl, HS37.out, fun _ => ?_⟩
              simp only [Act.put, sT, sZ, sS]
              refine anyH_callG 14 (d := some 214) (f := 21) (xs := #[(.tmp 213)]) (ts := #[32]) (gd := some (7, true)) (vs := #[rv9]) (by kernel_rfl) (by rfl) (fun o ho => by simp only [Region.wanted, ho]; rfl) (by go_simp) (by go_simp) (HRZ.out) ?_
              rintro e149b e149bw ⟨rfl, e149bh⟩
              subst e149bw
              refine ⟨_, rfl, HS37.out, fun _ => ?_⟩
              simp only [Act.put, sT, sZ, sS]
              refine anyH_pureG 15 (d := 215) (op := .binOp .neq 3 (.tmp 209) (.tmp 214) 3) (gd := some (7, true)) (.bool false) (by rfl) (fun o ho => by simp only [Region.wanted, ho]; rfl) (by kernel_rfl) (by kernel_rfl) (by kernel_rfl) (fun _ _ _ h => h) (fun o1 ho W hW => by unfold execOp; simp only [ho]; go_simp; try simp) HS37.out ?_
              simp only [Act.put, sT, sZ, sS]
              refine anyH_pureG 16 (d := 216) (op := .pick (.tmp 207) (.tmp 215) (.const (.bool false))) (gd := some (4, false)) (.bool false) (by rfl) (fun o ho => by simp only [Region.wanted, ho]; rfl) (by kernel_rfl) (by kernel_rfl) (by kernel_rfl) (fun _ _ _ h => h) (fun o1 ho W hW => by unfold execOp; simp only [ho]; go_simp) HS37.out ?_
              simp only [Act.put, sT, sZ, sS]
              refine anyH_pureG 17 (d := 217) (op := .pick (.tmp 204) (.const (.bool true)) (.tmp 216)) (gd := none) (.bool false) (by rfl) wantedP (by kernel_rfl) (by kernel_rfl) (by kernel_rfl) (fun _ _ _ h => h) (fun o1 ho W hW => by unfold execOp; simp only [ho]; go_simp) HS37.out ?_
              simp only [Act.put, sT, sZ, sS]
              refine wpAnyH_done (by kernel_rfl) ?_ _
              have HPN := Lib.hid (show PlJ w d m (k + 1) nm (.pointer (some ⟨jb, 0, none⟩)) (.pointer (some ⟨kb, 0, none⟩)) w1491 from ⟨_, _, HRP.out, HLB.out, HK9.out, HB7.out, .inr ⟨_, _, _, _, _, _, _, rfl, rfl, HNM.out.1, HNM.out.2, HJ7.out, HSZ.out, HSB.out⟩⟩)
              clear HS37 HL36 HPZ HRZ HJ7 HB7 HRP HLB
              go_wp2_with fail
              go_roundw
              case rel => exact ⟨k + 1, by omega, by omega, by go_num, HPN⟩
              case measure => simp [intOf]; omega
             ·
              have HRA := Lib.hid g1
              have HBA := Lib.hid (HBC3.out.trans g8)
              have HRD2 := Lib.hid (HRD.out _ _ _ _ HRA.out)
              have hx0 : ¬ x = 0 := hr0
              clear g1 g8 g9 HRD HBC3 HRO hr0
              go_wp2_with fail
              refine HRD2.out.mono ?_
              intro eo wb hro
              clear HRD2
              obtain ⟨-, rfl, f1, f4, f5⟩ := hro.resolve_left (fun h => hx0 h.1)
              have HRL := Lib.hid (show Rel X0 w.heap.size d m (3 * (K3 + 8)) A9 A9 wb from f1.mono (by omega))
              have HBC := Lib.hid (HBA.out.trans f4)
              clear f1 f4 f5 hro HRA HBA HUF HUL
              go_upto_region 36 with fail
              obtain ⟨w150, hw150⟩ : ∃ W, W = World.drew wb := ⟨_, rfl⟩
              have hb1500 : Below wb.heap.size wb w150 := by rw [hw150]; exact below_drewN' _ wb 1
              have HR6 := Lib.hid (HRL.out.below hb1500)
              have HB6 := Lib.hid (HBC.out.trans (hb1500.mono HBC.out.size))
              have HIS := Lib.hid (is_c HR6.out HLB.out.bnd (by have := HK9.out; omega))
              refine anyH_begin (S := fun _ => True) (by kernel_rfl) ?_
              rw [← hw150]
              clear hw150 hb1500 HRL HBC
              refine aP 0 (d := 200) (op := .move (.tmp 7)) (.pointer (some ⟨d, 0, none⟩)) trivial ?_
              simp only [Act.put, sT, sZ, sS]
              refine aP 1 (d := 201) (op := .move (.tmp 9)) (.pointer (some ⟨m, 0, none⟩)) trivial ?_
              simp only [Act.put, sT, sZ, sS]
              refine anyH_callG 2 (d := some 202) (f := 19) (xs := #[(.tmp 200), (.tmp 201)]) (ts := #[25, 29]) (gd := none) (vs := #[.pointer (some ⟨d, 0, none⟩), .pointer (some ⟨m, 0, none⟩)]) (by kernel_rfl) (by rfl) wantedP (by go_simp) (by go_simp) (HIS.out) ?_
              rintro e150 w1501 ⟨rfl, hb150⟩
              have HR7 := Lib.hid (HR6.out.below hb150)
              have HB7 := Lib.hid (HB6.out.trans (hb150.mono HB6.out.size))
              clear hb150 HIS HR6 HB6
              refine ⟨_, rfl, trivial, fun _ => ?_⟩
              simp only [Act.put, sT, sZ, sS]
              refine anyH_pureG 3 (d := 203) (op := .unOp .not 4 (.tmp 202)) (gd := none) (.bool false) (by rfl) wantedP (by kernel_rfl) (by kernel_rfl) (by kernel_rfl) (fun _ _ _ h => h) (fun o1 ho W hW => by unfold execOp; simp only [ho]; go_simp) trivial ?_
              simp only [Act.put, sT, sZ, sS]
              refine aP 4 (d := 204) (op := .move (.tmp 203)) (.bool false) trivial ?_
              simp only [Act.put, sT, sZ, sS]
              refine anyH_pureG 5 (d := 205) (op := .move (.tmp 13)) (gd := some (4, false)) (.pointer none) (by rfl) (fun o ho => by simp only [Region.wanted, ho]; rfl) (by kernel_rfl) (by kernel_rfl) (by kernel_rfl) (fun _ _ _ h => h) (fun o ho W hW => by unfold execOp; simp only [ho]; go_simp) trivial ?_
              simp only [Act.put, sT, sZ, sS]
              refine anyH_pureG 6 (d := 206) (op := .binOp .neq 35 (.tmp 205) (.const (.pointer none)) 35) (gd := some (4, false)) (.bool false) (by rfl) (fun o ho => by simp only [Region.wanted, ho]; rfl) (by kernel_rfl) (by kernel_rfl) (by kernel_rfl) (fun _ _ _ h => h) (fun o1 ho W hW => by unfold execOp; simp only [ho]; go_simp; try simp) trivial ?_
              simp only [Act.put, sT, sZ, sS]
              refine anyH_pureG 7 (d := 207) (op := .move (.tmp 206)) (gd := some (4, false)) (.bool false) (by rfl) (fun o ho => by simp only [Region.wanted, ho]; rfl) (by kernel_rfl) (by kernel_rfl) (by kernel_rfl) (fun _ _ _ h => h) (fun o ho W hW => by unfold execOp; simp only [ho]; go_simp) trivial ?_
              simp only [Act.put, sT, sZ, sS]
              refine anyH_skip 8 (d := 208) (op := .move (.tmp 10)) (gd := some (7, true)) (by rfl) (fun o ho => by simp only [Region.wanted, ho]; rfl) (by kernel_rfl) (by kernel_rfl) (by kernel_rfl) (fun _ _ _ h => h) trivial ?_
              simp only [Act.put, sT, sZ, sS]
              refine anyH_skip 9 (d := 209) (op := .call { callee := .value (.func 20), args := #[(.tmp 208)], argTypes := #[31] }) (gd := some (7, true)) (by rfl) (fun o ho => by simp only [Region.wanted, ho]; rfl) (by kernel_rfl) (by kernel_rfl) (by kernel_rfl) (fun _ _ _ h => h) trivial ?_
              simp only [Act.put, sT, sZ, sS]
              refine anyH_skip 10 (d := 210) (op := .move (.tmp 13)) (gd := some (7, true)) (by rfl) (fun o ho => by simp only [Region.wanted, ho]; rfl) (by kernel_rfl) (by kernel_rfl) (by kernel_rfl) (fun _ _ _ h => h) trivial ?_
              simp only [Act.put, sT, sZ, sS]
              refine anyH_skip 11 (d := 211) (op := .nilCheck (.tmp 210)) (gd := some (7, true)) (by rfl) (fun o ho => by simp only [Region.wanted, ho]; rfl) (by kernel_rfl) (by kernel_rfl) (by kernel_rfl) (fun _ _ _ h => h) trivial ?_
              simp only [Act.put, sT, sZ, sS]
              refine anyH_skip 12 (d := 212) (op := .fieldAddr 53 (.tmp 211) 2) (gd := some (7, true)) (by rfl) (fun o ho => by simp only [Region.wanted, ho]; rfl) (by kernel_rfl) (by kernel_rfl) (by kernel_rfl) (fun _ _ _ h => h) trivial ?_
              simp only [Act.put, sT, sZ, sS]
              refine anyH_skip 13 (d := 213) (op := .load 32 (.tmp 212)) (gd := some (7, true)) (by rfl) (fun o ho => by simp only [Region.wanted, ho]; rfl) (by kernel_rfl) (by kernel_rfl) (by kernel_rfl) (fun _ _ _ h => h) trivial ?_
              simp only [Act.put, sT, sZ, sS]
              refine anyH_skip 14 (d := 214) (op := .call { callee := .value (.func 21), args := #[(.tmp 213)], argTypes := #[32] }) (gd := some (7, true)) (by rfl) (fun o ho => by simp only [Region.wanted, ho]; rfl) (by kernel_rfl) (by kernel_rfl) (by kernel_rfl) (fun _ _ _ h => h) trivial ?_
              simp only [Act.put, sT, sZ, sS]
              refine anyH_skip 15 (d := 215) (op := .binOp .neq 3 (.tmp 209) (.tmp 214) 3) (gd := some (7, true)) (by rfl) (fun o ho => by simp only [Region.wanted, ho]; rfl) (by kernel_rfl) (by kernel_rfl) (by kernel_rfl) (fun _ _ _ h => h) trivial ?_
              simp only [Act.put, sT, sZ, sS]
              refine anyH_pureG 16 (d := 216) (op := .pick (.tmp 207) (.tmp 215) (.const (.bool false))) (gd := some (4, false)) (.bool false) (by rfl) (fun o ho => by simp only [Region.wanted, ho]; rfl) (by kernel_rfl) (by kernel_rfl) (by kernel_rfl) (fun _ _ _ h => h) (fun o1 ho W hW => by unfold execOp; simp only [ho]; go_simp) trivial ?_
              simp only [Act.put, sT, sZ, sS]
              refine anyH_pureG 17 (d := 217) (op := .pick (.tmp 204) (.const (.bool true)) (.tmp 216)) (gd := none) (.bool false) (by rfl) wantedP (by kernel_rfl) (by kernel_rfl) (by kernel_rfl) (fun _ _ _ h => h) (fun o1 ho W hW => by unfold execOp; simp only [ho]; go_simp) trivial ?_
              simp only [Act.put, sT, sZ, sS]
              refine wpAnyH_done (by kernel_rfl) ?_ _
              have HPN := Lib.hid (show PlJ w d m (k + 1) nm (.pointer none) (.pointer none) w1501 from ⟨_, _, HRP.out, HLB.out, HK9.out, HB7.out, .inl ⟨rfl, rfl, HR7.out.less fun _ e => e.elim⟩⟩)
              clear HR7 HB7 HRP HLB
              go_wp2_with fail
              go_roundw
              case rel => exact ⟨k + 1, by omega, by omega, by go_num, HPN⟩
              case measure => simp [intOf]; omega
           ·
            have hk0 : (kd == 0) = false := by simp [h0]
            have hk1 : (kd == 1) = false := by simp [h1]
            have hk2 : (kd == 2) = false := by simp [h2]
            have hk3 : (kd == 3) = false := by simp [h3]
            have hk4 : (kd == 4) = false := by simp [h4]
            have hk5 : (kd == 5) = false := by simp [h5]
            have hor := HOR.out
            clear HOR
            rcases hor with hor | hor
            ·
             obtain ⟨rfl, rfl, hrl⟩ := hor
             have HRL := Lib.hid (hrl.below HB5.out)
             have HBC := HBW
             have HRP := HRP0
             have HLB := HLB0
             have HK9 := Lib.hid (show K ≤ 12 * (k + 1) + 12 from by have := HKK.out; omega)
             clear hrl
             go_upto_region 36 with fail
             obtain ⟨w152, hw152⟩ : ∃ W, W = World.drew w5 := ⟨_, rfl⟩
             have hb1520 : Below w5.heap.size w5 w152 := by rw [hw152]; exact below_drewN' _ w5 1
             have HR6 := Lib.hid (HRL.out.below hb1520)
             have HB6 := Lib.hid (HBC.out.trans (hb1520.mono HBC.out.size))
             have HIS := Lib.hid (is_c HR6.out HLB.out.bnd (by have := HK9.out; omega))
             refine anyH_begin (S := fun _ => True) (by kernel_rfl) ?_
             rw [← hw152]
             clear hw152 hb1520 HRL HBC
             refine aP 0 (d := 200) (op := .move (.tmp 7)) (.pointer (some ⟨d, 0, none⟩)) trivial ?_
             simp only [Act.put, sT, sZ, sS]
             refine aP 1 (d := 201) (op := .move (.tmp 9)) (.pointer (some ⟨m, 0, none⟩)) trivial ?_
             simp only [Act.put, sT, sZ, sS]
             refine anyH_callG 2 (d := some 202) (f := 19) (xs := #[(.tmp 200), (.tmp 201)]) (ts := #[25, 29]) (gd := none) (vs := #[.pointer (some ⟨d, 0, none⟩), .pointer (some ⟨m, 0, none⟩)]) (by kernel_rfl) (by rfl) wantedP (by go_simp) (by go_simp) (HIS.out) ?_
             rintro e152 w1521 ⟨rfl, hb152⟩
             have HR7 := Lib.hid (HR6.out.below hb152)
             have HB7 := Lib.hid (HB6.out.trans (hb152.mono HB6.out.size))
             clear hb152 HIS HR6 HB6
             refine ⟨_, rfl, trivial, fun _ => ?_⟩
             simp only [Act.put, sT, sZ, sS]
             refine anyH_pureG 3 (d := 203) (op := .unOp .not 4 (.tmp 202)) (gd := none) (.bool false) (by rfl) wantedP (by kernel_rfl) (by kernel_rfl) (by kernel_rfl) (fun _ _ _ h => h) (fun o1 ho W hW => by unfold execOp; simp only [ho]; go_simp) trivial ?_
             simp only [Act.put, sT, sZ, sS]
             refine aP 4 (d := 204) (op := .move (.tmp 203)) (.bool false) trivial ?_
             simp only [Act.put, sT, sZ, sS]
             refine anyH_pureG 5 (d := 205) (op := .move (.tmp 13)) (gd := some (4, false)) (.pointer none) (by rfl) (fun o ho => by simp only [Region.wanted, ho]; rfl) (by kernel_rfl) (by kernel_rfl) (by kernel_rfl) (fun _ _ _ h => h) (fun o ho W hW => by unfold execOp; simp only [ho]; go_simp) trivial ?_
             simp only [Act.put, sT, sZ, sS]
             refine anyH_pureG 6 (d := 206) (op := .binOp .neq 35 (.tmp 205) (.const (.pointer none)) 35) (gd := some (4, false)) (.bool false) (by rfl) (fun o ho => by simp only [Region.wanted, ho]; rfl) (by kernel_rfl) (by kernel_rfl) (by kernel_rfl) (fun _ _ _ h => h) (fun o1 ho W hW => by unfold execOp; simp only [ho]; go_simp; try simp) trivial ?_
             simp only [Act.put, sT, sZ, sS]
             refine anyH_pureG 7 (d := 207) (op := .move (.tmp 206)) (gd := some (4, false)) (.bool false) (by rfl) (fun o ho => by simp only [Region.wanted, ho]; rfl) (by kernel_rfl) (by kernel_rfl) (by kernel_rfl) (fun _ _ _ h => h) (fun o ho W hW => by unfold execOp; simp only [ho]; go_simp) trivial ?_
             simp only [Act.put, sT, sZ, sS]
             refine anyH_skip 8 (d := 208) (op := .move (.tmp 10)) (gd := some (7, true)) (by rfl) (fun o ho => by simp only [Region.wanted, ho]; rfl) (by kernel_rfl) (by kernel_rfl) (by kernel_rfl) (fun _ _ _ h => h) trivial ?_
             simp only [Act.put, sT, sZ, sS]
             refine anyH_skip 9 (d := 209) (op := .call { callee := .value (.func 20), args := #[(.tmp 208)], argTypes := #[31] }) (gd := some (7, true)) (by rfl) (fun o ho => by simp only [Region.wanted, ho]; rfl) (by kernel_rfl) (by kernel_rfl) (by kernel_rfl) (fun _ _ _ h => h) trivial ?_
             simp only [Act.put, sT, sZ, sS]
             refine anyH_skip 10 (d := 210) (op := .move (.tmp 13)) (gd := some (7, true)) (by rfl) (fun o ho => by simp only [Region.wanted, ho]; rfl) (by kernel_rfl) (by kernel_rfl) (by kernel_rfl) (fun _ _ _ h => h) trivial ?_
             simp only [Act.put, sT, sZ, sS]
             refine anyH_skip 11 (d := 211) (op := .nilCheck (.tmp 210)) (gd := some (7, true)) (by rfl) (fun o ho => by simp only [Region.wanted, ho]; rfl) (by kernel_rfl) (by kernel_rfl) (by kernel_rfl) (fun _ _ _ h => h) trivial ?_
             simp only [Act.put, sT, sZ, sS]
             refine anyH_skip 12 (d := 212) (op := .fieldAddr 53 (.tmp 211) 2) (gd := some (7, true)) (by rfl) (fun o ho => by simp only [Region.wanted, ho]; rfl) (by kernel_rfl) (by kernel_rfl) (by kernel_rfl) (fun _ _ _ h => h) trivial ?_
             simp only [Act.put, sT, sZ, sS]
             refine anyH_skip 13 (d := 213) (op := .load 32 (.tmp 212)) (gd := some (7, true)) (by rfl) (fun o ho => by simp only [Region.wanted, ho]; rfl) (by kernel_rfl) (by kernel_rfl) (by kernel_rfl) (fun _ _ _ h => h) trivial ?_
             simp only [Act.put, sT, sZ, sS]
             refine anyH_skip 14 (d := 214) (op := .call { callee := .value (.func 21), args := #[(.tmp 213)], argTypes := #[32] }) (gd := some (7, true)) (by rfl) (fun o ho => by simp only [Region.wanted, ho]; rfl) (by kernel_rfl) (by kernel_rfl) (by kernel_rfl) (fun _ _ _ h => h) trivial ?_
             simp only [Act.put, sT, sZ, sS]
             refine anyH_skip 15 (d := 215) (op := .binOp .neq 3 (.tmp 209) (.tmp 214) 3) (gd := some (7, true)) (by rfl) (fun o ho => by simp only [Region.wanted, ho]; rfl) (by kernel_rfl) (by kernel_rfl) (by kernel_rfl) (fun _ _ _ h => h) trivial ?_
             simp only [Act.put, sT, sZ, sS]
             refine anyH_pureG 16 (d := 216) (op := .pick (.tmp 207) (.tmp 215) (.const (.bool false))) (gd := some (4, false)) (.bool false) (by rfl) (fun o ho => by simp only [Region.wanted, ho]; rfl) (by kernel_rfl) (by kernel_rfl) (by kernel_rfl) (fun _ _ _ h => h) (fun o1 ho W hW => by unfold execOp; simp only [ho]; go_simp) trivial ?_
             simp only [Act.put, sT, sZ, sS]
             refine anyH_pureG 17 (d := 217) (op := .pick (.tmp 204) (.const (.bool true)) (.tmp 216)) (gd := none) (.bool false) (by rfl) wantedP (by kernel_rfl) (by kernel_rfl) (by kernel_rfl) (fun _ _ _ h => h) (fun o1 ho W hW => by unfold execOp; simp only [ho]; go_simp) trivial ?_
             simp only [Act.put, sT, sZ, sS]
             refine wpAnyH_done (by kernel_rfl) ?_ _
             have HPN := Lib.hid (show PlJ w d m (k + 1) nm (.pointer none) (.pointer none) w1521 from ⟨_, _, HRP.out, HLB.out, HK9.out, HB7.out, .inl ⟨rfl, rfl, HR7.out.less fun _ e => e.elim⟩⟩)
             clear HR7 HB7 HRP HLB
             go_wp2_with fail
             go_roundw
             case rel => exact ⟨k + 1, by omega, by omega, by go_num, HPN⟩
             case measure => simp [intOf]; omega
            ·
             obtain ⟨X, V, jb, kb, sz, rv, ps, rfl, rfl, hn1, hn2, hjs, hsz, hsb⟩ := hor
             have HNM := Lib.hid (And.intro hn1 hn2)
             have HXJ := Lib.hid (show X1 ≠ jb from fun e => by have := (hjs.rel.lt jb hjs.xj).2; have := HX5.out; omega)
             have HXV := Lib.hid (show ¬ V X1 from fun e => by have := (hjs.rel.lt X1 (hjs.vx X1 e)).2; have := HX5.out; omega)
             have HGK := Lib.hid (HLB0.out.gk hjs.rel.gd)
             have HJS := Lib.hid (hjs.with HB5.out HWR.out.size X1 (by have := HX5.out; omega) (by have := HX5.out; omega))
             have HSZ0 := Lib.hid hsz
             have HSB0 := Lib.hid hsb
             clear hn1 hn2 hjs hsz hsb
             obtain ⟨rv9, hr9⟩ : ∃ rv9, rv9 = rv := ⟨_, rfl⟩
             subst hr9
             have HRP := HRP0
             have HLB := HLB0
             have HBC := HBW
             have HJ := HJS
             have HK9 := Lib.hid (show K ≤ 12 * (k + 1) + 12 from by have := HKK.out; omega)
             have HSZ := HSZ0
             have HSB := Lib.hid (show sz ≤ 10000 * (k + 1 + 1) from by have := HSB0.out; omega)
             clear HRP0 HLB0 HJS HSB0
             go_upto_region 36 with fail
             obtain ⟨w151, hw151⟩ : ∃ W, W = World.drew w5 := ⟨_, rfl⟩
             have hb1510 : Below w5.heap.size w5 w151 := by rw [hw151]; exact below_drewN' _ w5 1
             have HJ6 := Lib.hid (HJ.out.below hb1510)
             have HB6 := Lib.hid (HBC.out.trans (hb1510.mono HBC.out.size))
             have HIS := Lib.hid (is_c HJ6.out.rel HLB.out.bnd (by have := HK9.out; omega))
             obtain ⟨rx9, rxn9, rxc9, hrv9⟩ := HJ6.out.rk.own.sl
             have HS36 := Lib.hid (show HasC [(⟨kb, 2, none⟩, rv9)] w151 from by
              obtain ⟨q0, q1, q2⟩ := HJ6.out.rk.cells
              intro q hq
              simp only [List.mem_cons, List.not_mem_nil, or_false] at hq
              subst hq
              exact q2)
             have HX36 := Lib.hid (show ∀ q ∈ ([(⟨kb, 2, none⟩, rv9)] : List (Addr × Value)), q.1.block < w151.heap.size from by
              have := (Array.getElem?_eq_some_iff.1 HJ6.out.rk.row).1
              intro q hq
              simp only [List.mem_cons, List.not_mem_nil, or_false] at hq
              subst hq
              exact this)
             have HL36 := Lib.hid (fun W (hW : HasC [(⟨kb, 2, none⟩, rv9)] W) => run_cell_v W ⟨kb, 2, none⟩ rv9 ⟨rx9, rxn9, rxc9, hrv9⟩ (hW (⟨kb, 2, none⟩, rv9) (by simp)))
             refine anyH_begin (S := HasC [(⟨kb, 2, none⟩, rv9)]) (by kernel_rfl) ?_
             rw [← hw151]
             clear hw151 hb1510 HJ HBC hrv9
             refine aP 0 (d := 200) (op := .move (.tmp 7)) (.pointer (some ⟨d, 0, none⟩)) HS36.out ?_
             simp only [Act.put, sT, sZ, sS]
             refine aP 1 (d := 201) (op := .move (.tmp 9)) (.pointer (some ⟨m, 0, none⟩)) HS36.out ?_
             simp only [Act.put, sT, sZ, sS]
             refine anyH_callG 2 (d := some 202) (f := 19) (xs := #[(.tmp 200), (.tmp 201)]) (ts := #[25, 29]) (gd := none) (vs := #[.pointer (some ⟨d, 0, none⟩), .pointer (some ⟨m, 0, none⟩)]) (by kernel_rfl) (by rfl) wantedP (by go_simp) (by go_simp) (HIS.out) ?_
             rintro e151 w1511 ⟨rfl, hb151⟩
             have HS37 := Lib.hid (HS36.out.below hb151 HX36.out)
             have HJ7 := Lib.hid (HJ6.out.below hb151)
             have HB7 := Lib.hid (HB6.out.trans (hb151.mono HB6.out.size))
             have HPZ := Lib.hid (psize_c jb d nm (sz : Int) w1511 HJ7.out.rj)
             have HRZ := Lib.hid (show Calls Tryz.prog 21 #[rv9] w1511 fun e w' => e = .returned (.int .i64 (sz : Int)) ∧ w' = w1511 from by
              obtain ⟨ya, yn, yc, hyv, -, -, -, hyr⟩ := HJ7.out.rk.own.row
              rw [hyv, HSZ.out]
              exact rsize_c ya yn yc _ w1511 hyr (by have := hyr.1; have := flat_low ps; have := HSZ.out; have := HSB.out; omega) (by have := HSZ.out; have := HSB.out; omega))
             clear hb151 HIS HS36 HX36 HJ6 HB6
             refine ⟨_, rfl, HS37.out, fun _ => ?_⟩
             simp only [Act.put, sT, sZ, sS]
             refine anyH_pureG 3 (d := 203) (op := .unOp .not 4 (.tmp 202)) (gd := none) (.bool false) (by rfl) wantedP (by kernel_rfl) (by kernel_rfl) (by kernel_rfl) (fun _ _ _ h => h) (fun o1 ho W hW => by unfold execOp; simp only [ho]; go_simp) HS37.out ?_
             simp only [Act.put, sT, sZ, sS]
             refine aP 4 (d := 204) (op := .move (.tmp 203)) (.bool false) HS37.out ?_
             simp only [Act.put, sT, sZ, sS]
             refine anyH_pureG 5 (d := 205) (op := .move (.tmp 13)) (gd := some (4, false)) (.pointer (some ⟨kb, 0, none⟩)) (by rfl) (fun o ho => by simp only [Region.wanted, ho]; rfl) (by kernel_rfl) (by kernel_rfl) (by kernel_rfl) (fun _ _ _ h => h) (fun o ho W hW => by unfold execOp; simp only [ho]; go_simp) HS37.out ?_
             simp only [Act.put, sT, sZ, sS]
             refine anyH_pureG 6 (d := 206) (op := .binOp .neq 35 (.tmp 205) (.const (.pointer none)) 35) (gd := some (4, false)) (.bool true) (by rfl) (fun o ho => by simp only [Region.wanted, ho]; rfl) (by kernel_rfl) (by kernel_rfl) (by kernel_rfl) (fun _ _ _ h => h) (fun o1 ho W hW => by unfold execOp; simp only [ho]; go_simp; try simp) HS37.out ?_
             simp only [Act.put, sT, sZ, sS]
             refine anyH_pureG 7 (d := 207) (op := .move (.tmp 206)) (gd := some (4, false)) (.bool true) (by rfl) (fun o ho => by simp only [Region.wanted, ho]; rfl) (by kernel_rfl) (by kernel_rfl) (by kernel_rfl) (fun _ _ _ h => h) (fun o ho W hW => by unfold execOp; simp only [ho]; go_simp) HS37.out ?_
             simp only [Act.put, sT, sZ, sS]
             refine anyH_pureG 8 (d := 208) (op := .move (.tmp 10)) (gd := some (7, true)) (.pointer (some ⟨jb, 0, none⟩)) (by rfl) (fun o ho => by simp only [Region.wanted, ho]; rfl) (by kernel_rfl) (by kernel_rfl) (by kernel_rfl) (fun _ _ _ h => h) (fun o ho W hW => by unfold execOp; simp only [ho]; go_simp) HS37.out ?_
             simp only [Act.put, sT, sZ, sS]
             refine anyH_pureG 10 (d := 210) (op := .move (.tmp 13)) (gd := some (7, true)) (.pointer (some ⟨kb, 0, none⟩)) (by rfl) (fun o ho => by simp only [Region.wanted, ho]; rfl) (by kernel_rfl) (by kernel_rfl) (by kernel_rfl) (fun _ _ _ h => h) (fun o ho W hW => by unfold execOp; simp only [ho]; go_simp) HS37.out ?_
             simp only [Act.put, sT, sZ, sS]
             refine anyH_pureG 11 (d := 211) (op := .nilCheck (.tmp 210)) (gd := some (7, true)) (.pointer (some ⟨kb, 0, none⟩)) (by rfl) (fun o ho => by simp only [Region.wanted, ho]; rfl) (by kernel_rfl) (by kernel_rfl) (by kernel_rfl) (fun _ _ _ h => h) (fun o ho W hW => by unfold execOp; simp only [ho]; go_simp) HS37.out ?_
             simp only [Act.put, sT, sZ, sS]
             refine anyH_pureG 12 (d := 212) (op := .fieldAddr 53 (.tmp 211) 2) (gd := some (7, true)) (.pointer (some ⟨kb, 2, none⟩)) (by rfl) (fun o ho => by simp only [Region.wanted, ho]; rfl) (by kernel_rfl) (by kernel_rfl) (by kernel_rfl) (fun _ _ _ h => h) (fun o ho W hW => by unfold execOp; simp only [ho]; go_simp) HS37.out ?_
             simp only [Act.put, sT, sZ, sS]
             refine anyH_loadG 13 (d := 213) (ty := 32) (x := (.tmp 212)) (gd := some (7, true)) (p := .pointer (some ⟨kb, 2, none⟩)) (rv9) (by rfl) (fun o ho => by simp only [Region.wanted, ho]; rfl) (by kernel_rfl) (by kernel_rfl) (by kernel_rfl) (fun _ _ _ h => h) (by rfl) HL36.out HS37.out ?_
             simp only [Act.put, sT, sZ, sS]
             refine anyH_callG 9 (d := some 209) (f := 20) (xs := #[(.tmp 208)]) (ts := #[31]) (gd := some (7, true)) (vs := #[.pointer (some ⟨jb, 0, none⟩)]) (by kernel_rfl) (by rfl) (fun o ho => by simp only [Region.wanted, ho]; rfl) (by go_simp) (by go_simp) (HPZ.out) ?_
             rintro e151a e151aw ⟨rfl, e151ah⟩
             subst e151aw
             refine ⟨_, rfl, HS37.out, fun _ => ?_⟩
             simp only [Act.put, sT, sZ, sS]
             refine anyH_callG 14 (d := some 214) (f := 21) (xs := #[(.tmp 213)]) (ts := #[32]) (gd := some (7, true)) (vs := #[rv9]) (by kernel_rfl) (by rfl) (fun o ho => by simp only [Region.wanted, ho]; rfl) (by go_simp) (by go_simp) (HRZ.out) ?_
             rintro e151b e151bw ⟨rfl, e151bh⟩
             subst e151bw
             refine ⟨_, rfl, HS37.out, fun _ => ?_⟩
             simp only [Act.put, sT, sZ, sS]
             refine anyH_pureG 15 (d := 215) (op := .binOp .neq 3 (.tmp 209) (.tmp 214) 3) (gd := some (7, true)) (.bool false) (by rfl) (fun o ho => by simp only [Region.wanted, ho]; rfl) (by kernel_rfl) (by kernel_rfl) (by kernel_rfl) (fun _ _ _ h => h) (fun o1 ho W hW => by unfold execOp; simp only [ho]; go_simp; try simp) HS37.out ?_
             simp only [Act.put, sT, sZ, sS]
             refine anyH_pureG 16 (d := 216) (op := .pick (.tmp 207) (.tmp 215) (.const (.bool false))) (gd := some (4, false)) (.bool false) (by rfl) (fun o ho => by simp only [Region.wanted, ho]; rfl) (by kernel_rfl) (by kernel_rfl) (by kernel_rfl) (fun _ _ _ h => h) (fun o1 ho W hW => by unfold execOp; simp only [ho]; go_simp) HS37.out ?_
             simp only [Act.put, sT, sZ, sS]
             refine anyH_pureG 17 (d := 217) (op := .pick (.tmp 204) (.const (.bool true)) (.tmp 216)) (gd := none) (.bool false) (by rfl) wantedP (by kernel_rfl) (by kernel_rfl) (by kernel_rfl) (fun _ _ _ h => h) (fun o1 ho W hW => by unfold execOp; simp only [ho]; go_simp) HS37.out ?_
             simp only [Act.put, sT, sZ, sS]
             refine wpAnyH_done (by kernel_rfl) ?_ _
             have HPN := Lib.hid (show PlJ w d m (k + 1) nm (.pointer (some ⟨jb, 0, none⟩)) (.pointer (some ⟨kb, 0, none⟩)) w1511 from ⟨_, _, HRP.out, HLB.out, HK9.out, HB7.out, .inr ⟨_, _, _, _, _, _, _, rfl, rfl, HNM.out.1, HNM.out.2, HJ7.out, HSZ.out, HSB.out⟩⟩)
             clear HS37 HL36 HPZ HRZ HJ7 HB7 HRP HLB
             go_wp2_with fail
             go_roundw
             case rel => exact ⟨k + 1, by omega, by omega, by go_num, HPN⟩
             case measure => simp [intOf]; omega
     ·
      have hz3 : (2000 : Int) < (zn : Int) := by omega
      go_wp2_with fail
      go_ret
      exact ⟨rfl, HBW.out⟩
    | false =>
     clear hsm
     go_wp2_with fail
     go_ret
     exact ⟨rfl, HBW.out⟩
   ·
    have hk4 : 40 ≤ (k : Int) := by omega
    go_upto_region 15 with fail
    rw [← hX1]
    rw [← hw5]
    clear hX1 hw5 c0 c1 c2 c3 c4 hix
    go_wp2_with fail
    go_ret
    exact ⟨rfl, HBW.out⟩
  ·
   have HE := Lib.hid (show Below w.heap.size w wr from by obtain ⟨_, _, _, _, _, h, _⟩ := HP.out; exact h)
   clear HP
   go_wp2_with fail
   go_ret
   exact ⟨rfl, HE.out⟩
end Go.Proofs.YtihbgigledmliaaGreat

