/-
  The walk over the state's Write.
-/
import Derived.Test.YthnfbdmkdpokcaaDoorStw
import Derived.Test.YthnfbdmkdpokcaaDoorSlc
import Derived.Test.YthnfbdmkdpokcaaDoorReg
import Derived.Deep.CutRange
import Derived.Deep.RegionHeld3
namespace Go.Proofs.YthnfbdmkdpokcaaDoor
open Go.RowKit
set_option linter.unusedVariables false

theorem splice_take (bs X : List Nat) (r : Nat) (h : r ≤ bs.length) : (splice bs r X).take (r + X.length) = bs.take r ++ X := by
  unfold splice
  rw [← List.append_assoc, List.take_append_of_le_length (by rw [List.length_append, List.length_take]; omega), List.take_of_length_le (by rw [List.length_append, List.length_take]; omega)]
/-- a block that is full -/
theorem round_full {hs q bs X zs1 : List Nat} {r : Nat} (hq : q.length % 64 = r) (hb : bs.length = 64) (ht : bs.take r = Sha.rest q) (hr : r + X.length = 64) (hz : zs1 = q ++ X) :
    Sha.mix (Sha.run hs q) (splice bs r X) = Sha.run hs zs1 ∧ Sha.rest zs1 = [] := by
  have h1 := Sha.run_full hs q X (by omega)
  have h2 := splice_take bs X r (by omega)
  rw [hr, List.take_of_length_le (by rw [length_splice _ _ _ (by omega)]; omega), ht] at h2
  rw [hz, h2]
  exact ⟨h1.1.symm, h1.2⟩
theorem round_part {hs q bs X zs1 : List Nat} {r : Nat} (hq : q.length % 64 = r) (hb : bs.length = 64) (ht : bs.take r = Sha.rest q) (hr : r + X.length < 64) (hz : zs1 = q ++ X) :
    Sha.run hs q = Sha.run hs zs1 ∧ (splice bs r X).take (r + X.length) = Sha.rest zs1 := by
  have h1 := Sha.run_short hs q X (by omega)
  rw [splice_take bs X r (by omega), ht, hz]
  exact ⟨h1.1.symm, h1.2.symm⟩
/-- a state lies at g: the words, what waits, how many bytes came in -/
def StM (w : World) (g : Nat) (hs tail : List Nat) (n : Nat) : Prop := ∃ bs, St w g hs bs n ∧ bs.take (n % 64) = tail
def slLen : Value → Nat
  | .slice _ n _ => n
  | _ => 0
def WrtRet (g : Nat) (w : World) (hs tail : List Nat) (n : Nat) (e : Ending) (w' : World) : Prop :=
  e = .returned (.int .i64 0) ∧ StM w' g hs tail n ∧ Only g w w'
set_option maxRecDepth 100000 in
theorem write_lim (w : World) (g : Nat) (hs bs : List Nat) (n : Nat) (h : St w g hs bs n) (a : Option Addr) (len cap : Nat) (hl : 2305843009213693951 - n < len) (hm : len ≤ 9223372036854775807) :
    Calls Tryd.prog 45 #[.pointer (some ⟨g, 0, none⟩), .slice a len cap] w fun e w' => e = .returned (.int .i64 8) ∧ w = w' := by
  have hc := h.size
  have hn := h.nn
  have hl' : (2305843009213693951 : Int) - (n : Int) < (len : Int) := by omega
  clear h
  go_enter Tryd.func45, Tryd.ntmps45
  go_wp2
  go_ret
  exact ⟨rfl, rfl⟩
set_option maxRecDepth 100000 in
set_option maxHeartbeats 1000000 in
theorem write_c (w : World) (g : Nat) (hs tail : List Nat) (n : Nat) (h : StM w g hs tail n) (a : Option Addr) (len cap : Nat) (zs : List Nat) (hr : Rd w a len zs) (hlc : len ≤ cap) (hcm : cap ≤ 9223372036854775807)
    (hl : len ≤ 2305843009213693951 - n) (hap : 0 < len → blkOf a ≠ some g) (ht : Tab w) (hg : 0 < g) :
    Calls Tryd.prog 45 #[.pointer (some ⟨g, 0, none⟩), .slice a len cap] w (WrtRet g w (Sha.run hs (tail ++ zs)) (Sha.rest (tail ++ zs)) (n + len)) := by
  obtain ⟨bs, hst, htail⟩ := h
  have hc := hst.size
  have hn := hst.nn
  have hl' : ¬ (2305843009213693951 : Int) - (n : Int) < (len : Int) := by omega
  have HST := Lib.hid hst
  have HR := Lib.hid hr
  have HT := Lib.hid ht
  have HTAIL := Lib.hid htail
  have HAP := Lib.hid hap
  clear hst hr ht htail hap
  go_enter Tryd.func45, Tryd.ntmps45
  go_wp2
  go_loopw [1] (fun p wr => ∃ (k : Nat) (a' : Option Addr) (c' : Nat), k ≤ len ∧ p = .slice a' (len - k) c' ∧ len - k ≤ c' ∧ c' ≤ 9223372036854775807 ∧
      Hid (Rd wr a' (len - k) (zs.drop k)) ∧ Hid (0 < len - k → blkOf a' ≠ some g) ∧ Hid (StM wr g (Sha.run hs (tail ++ zs.take k)) (Sha.rest (tail ++ zs.take k)) (n + k)) ∧ Hid (Only g w wr)) (fun p _ => slLen p)
  case atStart =>
    have hl := HR.out.1
    refine ⟨0, a, cap, Nat.zero_le _, by rw [Nat.sub_zero], by omega, hcm, HR, Lib.hid (fun h => HAP.out (by omega)), Lib.hid ⟨bs, ?_, ?_⟩, Lib.hid (Only.refl _ _)⟩
    · rw [List.take_zero, List.append_nil, (Sha.run_less hs tail (by rw [← HTAIL.out, List.length_take]; omega)).1]; exact HST.out
    · rw [List.take_zero, List.append_nil, (Sha.run_less hs tail (by rw [← HTAIL.out, List.length_take]; omega)).2]; exact HTAIL.out
  case round =>
    obtain ⟨k, a', c', hk, rfl, hlc', hcm', HR', HAP', HST', HO⟩ := hrel
    by_cases hkl : k < len
    · obtain ⟨bs1, hst1, htl1⟩ := HST'.out
      obtain ⟨H1, hH1⟩ : ∃ z, z = Sha.run hs (tail ++ zs.take k) := ⟨_, rfl⟩
      obtain ⟨R1, hR1⟩ : ∃ z, z = Sha.rest (tail ++ zs.take k) := ⟨_, rfl⟩
      obtain ⟨N, hN⟩ : ∃ z, z = n + k := ⟨_, rfl⟩
      rw [← hH1, ← hN] at hst1
      rw [← hR1, ← hN] at htl1
      obtain ⟨L, hL⟩ : ∃ z, z = len - k := ⟨_, rfl⟩
      rw [← hL] at HR' hlc' HAP'
      rw [← hL]
      obtain ⟨r, hr⟩ : ∃ z, z = N % 64 := ⟨_, rfl⟩
      have hr64 : r < 64 := by omega
      have hLpos : 0 < L := by omega
      have hLi : (0 : Int) < (L : Int) := by omega
      obtain ⟨m, hm⟩ : ∃ z, z = Nat.min L (64 - r) := ⟨_, rfl⟩
      have hm1 : m ≤ L := by rw [hm]; exact Nat.min_le_left _ _
      have hm2 : m ≤ 64 - r := by rw [hm]; exact Nat.min_le_right _ _
      have hm0 : 0 < m := by rw [hm]; exact Nat.lt_min.2 ⟨hLpos, by omega⟩
      have hNb : N + m ≤ 2305843009213693951 := by omega
      have HW := Lib.hid (show ∀ W, St W g H1 bs1 N → Calls Tryd.prog 62 #[.pointer (some ⟨g, 0, none⟩)] W (fun e w' => e = .returned (.int .i64 (r : Int)) ∧ w' = W) from fun W hW => (waiting_c W g H1 bs1 N hW).mono fun e w' ⟨h1, h2⟩ => ⟨by rw [h1, hr], h2.symm⟩)
      have HBF := fun W => run_blockFrom W g 8 r hr64
      have HCUT := fun W => run_cut W a' L c' m hm1
      have HCUTA := fun W => run_cutAt W a' L c' m hm1
      have HST1 := Lib.hid hst1
      have HTL1 := Lib.hid htl1
      have HH1 := Lib.hid hH1
      have HR1 := Lib.hid hR1
      have HN := Lib.hid hN
      have HL := Lib.hid hL
      have Hr := Lib.hid hr
      have HM := Lib.hid hm
      clear hst1 htl1 hH1 hR1 hN hL hr hm HST'
      clear hl' hc hk
      go_wp2_with fail
      refine wp_region_still_tail 7 (by kernel_rfl) (by kernel_rfl) ?_
      simp only [List.take_succ_cons, List.take_zero, List.drop_succ_cons, List.drop_zero]
      still_step
      still_step
      still_step
      still_step
      still_call (HW.out _ HST1.out.drew)
      still_step
      still_step
      refine wpStill_nil ?_
      change wpList _ _ _ _ _ wr.drew
      have hXl : ((zs.drop k).take m).length = m := by rw [List.length_take, HR'.out.1]; omega
      have hcn : (cellsOf ((zs.drop k).take m)).length = Nat.min L (64 - r) := by rw [cellsOf_length, hXl, HM.out]
      have hcp : 0 < (cellsOf ((zs.drop k).take m)).length → (some ⟨g, 8 + r, none⟩ : Option Addr) = some ⟨g, 8 + r, none⟩ ∧ ∃ ad, a' = some ad ∧ ∀ j v, (cellsOf ((zs.drop k).take m))[j]? = some v → wr.drew.cell? (ad.add j) = some v :=
        fun h0 => ⟨rfl, HR'.out.drew.src m hm1 h0⟩
      have hcf : 8 + r + (cellsOf ((zs.drop k).take m)).length ≤ (stCells H1 bs1 N).length := by rw [cellsOf_length, hXl, HST1.out.len]; omega
      have hXb : ∀ z ∈ (zs.drop k).take m, z < 256 := fun z hz => HR'.out.2.1 z (List.mem_of_mem_take hz)
      obtain ⟨X, hX⟩ : ∃ X, X = (zs.drop k).take m := ⟨_, rfl⟩
      rw [← hX] at hcn hcp hcf hXb hXl
      have HX := Lib.hid hX
      have HCN := Lib.hid hcn
      have HCP := Lib.hid hcp
      have HCF := Lib.hid hcf
      have HXL := Lib.hid hXl
      have HXB := Lib.hid hXb
      clear hX hcn hcp hcf hXl hXb
      go_wp2_with (refine wpList_copy_only rfl (.tmp 24) (.tmp 25) 23 23 rfl 5 Tryd.underlying23 u8size _ _ _ _ _ _ rfl rfl g (8 + r) (stCells H1 bs1 N) 100 HST1.out.drew.row (cellsOf X) HCN.out HCP.out HCF.out (cellsOf_one _) ?_)
      intro w2 hrow2 ho2
      have hst2 := HST1.out.drew.copied r X HXB.out (by rw [HXL.out]; omega) hrow2.out
      have hO2 : Only g w w2 := HO.out.drew.trans ho2
      have HR2 := Lib.hid (show Rd w2 (sla a' c' m) (L - m) (zs.drop (k + m)) from by
        have h1 := HR'.out.drew.cut c' m hm1 hlc'
        rw [List.drop_drop] at h1
        exact ho2.rd' h1 (fun h => by rw [sla_blk]; exact HAP'.out (by omega)))
      have HAP2 := Lib.hid (show 0 < L - m → blkOf (sla a' c' m) ≠ some g from fun h => by rw [sla_blk]; exact HAP'.out (by omega))
      have HST2 := Lib.hid hst2
      have HO2 := Lib.hid hO2
      rw [cellsOf_length, HXL.out]
      clear hst2 hO2 hrow2 ho2 HCN HCP HCF
      have hc2 := HST2.out.size
      have hf2 := HST2.out.froz 72
      go_wp2_with fail
      rw [show ((N : Int) + (m : Int)) = ((N + m : Nat) : Int) by omega]
      obtain ⟨w3, hw3⟩ : ∃ z, z = w2.setCell ⟨g, 72, none⟩ (.int .i64 ((N + m : Nat) : Int)) := ⟨_, rfl⟩
      have HST3 := Lib.hid (show St w3 g H1 (splice bs1 r X) (N + m) from by rw [hw3]; exact HST2.out.setSize (N + m) hNb)
      have HO3 := Lib.hid (show Only g w w3 from by rw [hw3]; exact HO2.out.setCell _ _)
      have HR3 := Lib.hid (show Rd w3 (sla a' c' m) (L - m) (zs.drop (k + m)) from by
        rw [hw3]
        exact ((Only.refl g w2).setCell _ _).rd' HR2.out HAP2.out)
      rw [← hw3]
      clear hc2 hf2 hw3 HST2 HO2 HR2
      obtain ⟨r', hr'⟩ : ∃ z, z = (N + m) % 64 := ⟨_, rfl⟩
      have hrr : (r + m = 64 ∧ r' = 0) ∨ (r + m < 64 ∧ r' = r + m) := by have := Hr.out; have := HM.out; omega
      have HW3 := Lib.hid (show Calls Tryd.prog 62 #[.pointer (some ⟨g, 0, none⟩)] w3 (fun e w' => e = .returned (.int .i64 (r' : Int)) ∧ w3 = w') from (waiting_c w3 g H1 _ (N + m) HST3.out).mono fun e w' ⟨h1, h2⟩ => ⟨by rw [h1, hr'], h2⟩)
      have HTK := Lib.hid (show zs.take (k + m) = zs.take k ++ X from by rw [HX.out, List.take_add])
      have HQL := Lib.hid (show (tail ++ zs.take k).length % 64 = r from by
        have h1 := HST.out.bl
        have h2 := HTAIL.out
        have h3 := HR.out.1
        rw [← h2, List.length_append, List.length_take, List.length_take, Hr.out, HN.out]
        omega)
      have HQ := Lib.hid hr'
      clear hr'
      rcases hrr with ⟨hrm, rfl⟩ | ⟨hrm, hr'⟩
      · with_reducible refine HW3.out.mono ?_
        rintro e3 w3' ⟨rfl, rfl⟩
        go_wp2_with fail
        refine wp_region_any (by kernel_rfl) ?_
        change wpAny _ _ _ _ _ _ _ w3.drew
        refine any_pure 0 (d := 41) (op := .move (.tmp 0)) (.pointer (some ⟨g, 0, none⟩)) (by rfl) (by kernel_rfl) (by kernel_rfl) (by kernel_rfl) (fun _ _ _ h => h) (fun o ho W => by unfold execOp; simp only [ho]; go_simp) ?_
        simp only [Act.put, List.setIfInBounds_toArray, List.set_cons_zero, List.set_cons_succ]
        refine any_pure 1 (d := 42) (op := .move (.tmp 0)) (.pointer (some ⟨g, 0, none⟩)) (by rfl) (by kernel_rfl) (by kernel_rfl) (by kernel_rfl) (fun _ _ _ h => h) (fun o ho W => by unfold execOp; simp only [ho]; go_simp) ?_
        simp only [Act.put, List.setIfInBounds_toArray, List.set_cons_zero, List.set_cons_succ]
        refine any_pure 2 (d := 43) (op := .nilCheck (.tmp 42)) (.pointer (some ⟨g, 0, none⟩)) (by rfl) (by kernel_rfl) (by kernel_rfl) (by kernel_rfl) (fun _ _ _ h => h) (fun o ho W => by unfold execOp; simp only [ho]; go_simp) ?_
        simp only [Act.put, List.setIfInBounds_toArray, List.set_cons_zero, List.set_cons_succ]
        refine any_pure 3 (d := 44) (op := .fieldAddr 100 (.tmp 43) 0) (.pointer (some ⟨g, 0, none⟩)) (by rfl) (by kernel_rfl) (by kernel_rfl) (by kernel_rfl) (fun _ _ _ h => h) (fun o ho W => by unfold execOp; simp only [ho]; go_simp) ?_
        simp only [Act.put, List.setIfInBounds_toArray, List.set_cons_zero, List.set_cons_succ]
        refine any_pure 5 (d := 46) (op := .move (.tmp 0)) (.pointer (some ⟨g, 0, none⟩)) (by rfl) (by kernel_rfl) (by kernel_rfl) (by kernel_rfl) (fun _ _ _ h => h) (fun o ho W => by unfold execOp; simp only [ho]; go_simp) ?_
        simp only [Act.put, List.setIfInBounds_toArray, List.set_cons_zero, List.set_cons_succ]
        refine any_pure 6 (d := 47) (op := .nilCheck (.tmp 46)) (.pointer (some ⟨g, 0, none⟩)) (by rfl) (by kernel_rfl) (by kernel_rfl) (by kernel_rfl) (fun _ _ _ h => h) (fun o ho W => by unfold execOp; simp only [ho]; go_simp) ?_
        simp only [Act.put, List.setIfInBounds_toArray, List.set_cons_zero, List.set_cons_succ]
        refine any_pure 7 (d := 48) (op := .fieldAddr 100 (.tmp 47) 1) (.pointer (some ⟨g, 8, none⟩)) (by rfl) (by kernel_rfl) (by kernel_rfl) (by kernel_rfl) (fun _ _ _ h => h) (fun o ho W => by unfold execOp; simp only [ho]; go_simp) ?_
        simp only [Act.put, List.setIfInBounds_toArray, List.set_cons_zero, List.set_cons_succ]
        have HD3 := Lib.hid HST3.out.drew
        have HI77 := Lib.hid (show (Tryd.prog.info? 96).map (·.size) = some (wordsOf H1).length from by rw [wordsOf_length, HST3.out.w8.1]; exact info_words)
        have HI79 := Lib.hid (show (Tryd.prog.info? 98).map (·.size) = some (cellsOf (splice bs1 r X)).length from by rw [cellsOf_length, HST3.out.bl]; exact info_block)
        have HR77 := Lib.hid (run_loadAt_mid w3.drew g 0 96 (wordsOf H1) _ HD3.out.words Tryd.underlying96 rfl HI77.out)
        have HR79 := Lib.hid (run_loadAt_mid w3.drew g 8 98 (cellsOf (splice bs1 r X)) _ HD3.out.block Tryd.underlying98 rfl HI79.out)
        refine any_loads2 4 8 (d1 := 45) (d2 := 49) (t1 := 96) (t2 := 98) (x1 := .tmp 44) (x2 := .tmp 48) (p1 := .pointer (some ⟨g, 0, none⟩)) (p2 := .pointer (some ⟨g, 8, none⟩)) (v1 := .agg (wordsOf H1).toArray) (v2 := .agg (cellsOf (splice bs1 r X)).toArray) (by kernel_rfl) (by kernel_rfl) (by kernel_rfl) (by decide) (by decide) (by rfl) (by rfl) (by rfl) (by rfl) (by rfl) (by rfl) HR77.out HR79.out ?_
        simp only [Act.put, List.setIfInBounds_toArray, List.set_cons_zero, List.set_cons_succ]
        have HTW := Lib.hid (show Tab w3.drew from by
          have h1 := HO3.out.below (B := 1) (by omega) (by have := HST.out.lt; omega)
          exact (HT.out.below h1.drew (by omega)))
        have HMX := Lib.hid (mix_c H1 (splice bs1 r X) w3.drew HST3.out.w8.1 HST3.out.w8.2 HST3.out.bl HST3.out.bb HTW.out)
        refine any_call 9 (d := some 50) (f := 63) (xs := #[.tmp 45, .tmp 49]) (ts := #[96, 98]) (vs := #[.agg (wordsOf H1).toArray, .agg (cellsOf (splice bs1 r X)).toArray]) (by kernel_rfl) (by rfl) (by go_simp) (by go_simp) HMX.out ?_
        rintro e4 w4 ⟨rfl, hb4⟩
        refine ⟨_, rfl, ?_⟩
        simp only [Act.put, List.setIfInBounds_toArray, List.set_cons_zero, List.set_cons_succ]
        have HST4 := Lib.hid (HD3.out.below hb4 (by have := HD3.out.lt; simpa using this))
        have HO4 := Lib.hid (HO3.out.drew.trans (Only.of (g := g) hb4))
        refine any_pure 10 (d := 51) (op := .nilCheck (.tmp 41)) (.pointer (some ⟨g, 0, none⟩)) (by rfl) (by kernel_rfl) (by kernel_rfl) (by kernel_rfl) (fun _ _ _ h => h) (fun o ho W => by unfold execOp; simp only [ho]; go_simp) ?_
        simp only [Act.put, List.setIfInBounds_toArray, List.set_cons_zero, List.set_cons_succ]
        refine any_pure 11 (d := 52) (op := .fieldAddr 100 (.tmp 51) 0) (.pointer (some ⟨g, 0, none⟩)) (by rfl) (by kernel_rfl) (by kernel_rfl) (by kernel_rfl) (fun _ _ _ h => h) (fun o ho W => by unfold execOp; simp only [ho]; go_simp) ?_
        simp only [Act.put, List.setIfInBounds_toArray, List.set_cons_zero, List.set_cons_succ]
        have hmx8 : Sha.W8 (Sha.mix H1 (splice bs1 r X)) := Sha.W8.mix _ _
        refine any_store_mid 12 (ty := 96) (x := .tmp 52) (y := .tmp 50) g 0 (wordsOf (Sha.mix H1 (splice bs1 r X))).toArray (by kernel_rfl) (by rfl) (by rfl) (by rfl) (by rw [wordsOf_size, hmx8.1]; exact HST4.out.there 0 8 (by omega)) (by rw [wordsOf_size, hmx8.1]; exact info_words) (wordsOf_one _) ?_
        refine wpAny_done (by kernel_rfl) ?_ _
        have HST5 := Lib.hid (HST4.out.setWords _ hmx8)
        have HO5 := Lib.hid (HO4.out.setCells (g := g) (wordsOf (Sha.mix H1 (splice bs1 r X))) 0)
        have hm5 : w4.setCells g 0 (wordsOf (Sha.mix H1 (splice bs1 r X))).toArray.toList = w4.setCells g 0 (wordsOf (Sha.mix H1 (splice bs1 r X))) := by simp
        rw [hm5]
        obtain ⟨w5, hw5⟩ : ∃ z, z = w4.setCells g 0 (wordsOf (Sha.mix H1 (splice bs1 r X))) := ⟨_, rfl⟩
        have hr5 : Only g w3 w5 := by rw [hw5]; exact (((Only.refl g w3).drew.trans (Only.of hb4))).setCells _ _
        rw [← hw5] at HST5 HO5 ⊢
        have HR5 := Lib.hid hr5
        have HM := HM.out
        clear hw5 hr5 hm5 hmx8 hb4 HW HBF HCUT HCUTA
        go_wp2_with fail
        refine ⟨⟨k + m, sla a' c' m, c' - m, ?_, ?_, ?_, ?_, ?_, (by have := HL.out; rw [show len - (k + m) = L - m by omega]; exact HAP2), ?_, HO5⟩, ?_⟩
        · have := HL.out; omega
        · have := HL.out; rw [show L - m = len - (k + m) by omega]
        · have := HL.out; omega
        · omega
        · have := HL.out
          rw [show len - (k + m) = L - m by omega]
          exact Lib.hid (HR5.out.rd' HR3.out HAP2.out)
        · have hN := HN.out
          have hQ := HQ.out
          have h1 := round_full (hs := hs) (zs1 := tail ++ zs.take (k + m)) HQL.out HST1.out.bl (by rw [← HR1.out, ← HTL1.out, Hr.out]) (by rw [HXL.out]; exact hrm) (by rw [HTK.out, List.append_assoc])
          rw [← HH1.out] at h1
          refine Lib.hid ⟨splice bs1 r X, ?_, ?_⟩
          · rw [← h1.1, show n + (k + m) = N + m by omega]; exact HST5.out
          · rw [h1.2, show (n + (k + m)) % 64 = 0 by omega]; rfl
        · show L - m < L
          omega
      · have hr0 : ((r' : Int) == 0) = false := by simp; omega
        with_reducible refine HW3.out.mono ?_
        rintro e3 w3' ⟨rfl, rfl⟩
        clear HW HBF HCUT HCUTA
        go_wp2_with fail
        refine ⟨⟨k + m, sla a' c' m, c' - m, ?_, ?_, ?_, ?_, ?_, (by have := HL.out; rw [show len - (k + m) = L - m by omega]; exact HAP2), ?_, HO3⟩, ?_⟩
        · have := HL.out; omega
        · have := HL.out; rw [show L - m = len - (k + m) by omega]
        · have := HL.out; omega
        · omega
        · have := HL.out
          rw [show len - (k + m) = L - m by omega]
          exact HR3
        · have hN := HN.out
          have hQ := HQ.out
          have h1 := round_part (hs := hs) (zs1 := tail ++ zs.take (k + m)) HQL.out HST1.out.bl (by rw [← HR1.out, ← HTL1.out, Hr.out]) (by rw [HXL.out]; exact hrm) (by rw [HTK.out, List.append_assoc])
          rw [← HH1.out, HXL.out] at h1
          refine Lib.hid ⟨splice bs1 r X, ?_, ?_⟩
          · rw [← h1.1, show n + (k + m) = N + m by omega]; exact HST3.out
          · rw [← h1.2, show (n + (k + m)) % 64 = r + m by omega]
        · show L - m < L
          omega
    · obtain rfl : k = len := by omega
      have h1 := HST'.out
      rw [List.take_of_length_le (by rw [HR.out.1]; omega)] at h1
      have H1 := Lib.hid h1
      clear h1 hl' hc HST'
      go_wp2_with fail
      go_ret
      exact ⟨rfl, H1.out, HO.out⟩
end Go.Proofs.YthnfbdmkdpokcaaDoor
