/-
  The walk over MerkleLoads.
-/
import Derived.Test.YtlnblfdddellmaaDoorLod
import Derived.Test.YtlnblfdddellmaaDoorFrd
import Derived.Test.YtlnblfdddellmaaDoorRpt
import Derived.Maps.AppendAt
namespace Go.Proofs.YtlnblfdddellmaaDoor
open Go.RowKit
set_option linter.unusedVariables false
set_option maxRecDepth 100000 in
set_option maxHeartbeats 4000000 in
theorem loads_neg (n : Int) (a : Option Addr) (l cap : Nat) (zs : Ds) (leaf : List Nat) (w : World) (hn : n < 0) (hin : DigsIn w a l cap zs) (hlf : D32 leaf) (ht : Tab w) :
    Calls Tryd.prog 4 #[.int .i64 n, .slice a l cap, .agg (cellsOf leaf).toArray] w fun e w' => e = .returned (.bool true) ∧ Below w.heap.size w w' := by
  obtain ⟨hr, hnil, hlc, hcm⟩ := hin
  have HR := Lib.hid hr
  have HLF := Lib.hid hlf
  have HT := Lib.hid ht
  have hpos := ht.pos
  have HAW := Lib.hid (show ∀ W, Below w.heap.size w W → Calls Tryd.prog 6 #[] W (fun e w' => e = .returned (.bool true) ∧ Below W.heap.size W w') from fun W hW => awake3_c W (HT.out.below hW hpos))
  clear hr hlf ht
  go_enter Tryd.func4, Tryd.ntmps4
  go_upto_region 1 with fail
  refine gen_code (F := fun W => Brow W w.heap.size 31 leaf ∧ Below w.heap.size w W) ⟨heap_new _ _, (Below.refl _ _).alloc (Nat.le_refl _) _⟩ ?_
  rintro wA ⟨hba, hbb⟩
  have HBA := Lib.hid hba
  have HB := Lib.hid hbb
  have HTO := Lib.hid (to_c l zs a cap wA (HR.out.below hbb) (by omega))
  clear hba hbb
  go_wp2_with fail
  refine HTO.out.mono ?_
  rintro e1 w1 ⟨v1, rfl, ho1, hb1⟩
  obtain ⟨a1, l1, c1, rfl, hl1, hlc1, hcm1, hnil1, hr1⟩ := OwnD.form ho1 HR.out.2.1
  obtain rfl : l = l1 := HR.out.1.symm.trans hl1
  have HB1 := Lib.hid (HB.out.trans (hb1.mono HB.out.size))
  have HBA1 := Lib.hid (HBA.out.below hb1 HBA.out.lt)
  have HLO := Lib.hid (load_neg n l a1 c1 w1 hn)
  have hn0' : decide (n < 0) = true := decide_eq_true hn
  clear ho1 hb1 hr1 hl1 HTO
  go_wp2_with fail
  refine HLO.out.mono ?_
  rintro e2 w2 ⟨rfl, rfl⟩
  go_wp2_with (go_at_call 6; refine (HAW.out _ HB1.out).mono ?_; rintro e9 w9 ⟨rfl, hb9⟩; have HB9 := Lib.hid (HB1.out.trans (hb9.mono HB1.out.size)); clear hb9)
  go_ret
  exact ⟨rfl, HB9.out⟩
set_option maxRecDepth 100000 in
set_option maxHeartbeats 4000000 in
theorem loads_form (n : Nat) (a : Option Addr) (l cap : Nat) (zs : Ds) (leaf : List Nat) (w : World) (hn : n ≤ 9223372036854775807) (hne : l ≠ ones n) (hin : DigsIn w a l cap zs) (hlf : D32 leaf) (ht : Tab w) :
    Calls Tryd.prog 4 #[.int .i64 (n : Int), .slice a l cap, .agg (cellsOf leaf).toArray] w fun e w' => e = .returned (.bool true) ∧ Below w.heap.size w w' := by
  obtain ⟨hr, hnil, hlc, hcm⟩ := hin
  have HR := Lib.hid hr
  have HLF := Lib.hid hlf
  have HT := Lib.hid ht
  have hpos := ht.pos
  have HAW := Lib.hid (show ∀ W, Below w.heap.size w W → Calls Tryd.prog 6 #[] W (fun e w' => e = .returned (.bool true) ∧ Below W.heap.size W w') from fun W hW => awake3_c W (HT.out.below hW hpos))
  clear hr hlf ht
  go_enter Tryd.func4, Tryd.ntmps4
  go_upto_region 1 with fail
  refine gen_code (F := fun W => Brow W w.heap.size 31 leaf ∧ Below w.heap.size w W) ⟨heap_new _ _, (Below.refl _ _).alloc (Nat.le_refl _) _⟩ ?_
  rintro wA ⟨hba, hbb⟩
  have HBA := Lib.hid hba
  have HB := Lib.hid hbb
  have HTO := Lib.hid (to_c l zs a cap wA (HR.out.below hbb) (by omega))
  clear hba hbb
  go_wp2_with fail
  refine HTO.out.mono ?_
  rintro e1 w1 ⟨v1, rfl, ho1, hb1⟩
  obtain ⟨a1, l1, c1, rfl, hl1, hlc1, hcm1, hnil1, hr1⟩ := OwnD.form ho1 HR.out.2.1
  obtain rfl : l = l1 := HR.out.1.symm.trans hl1
  have HB1 := Lib.hid (HB.out.trans (hb1.mono HB.out.size))
  have HBA1 := Lib.hid (HBA.out.below hb1 HBA.out.lt)
  have HLO := Lib.hid (load_form n l a1 c1 w1 hn hne)
  have HON := Lib.hid (fun W => rones_c n W hn)
  have hn0 : ¬ (n : Int) < 0 := by omega
  have hn0' : decide ((n : Int) < 0) = false := decide_eq_false hn0
  have hq : ((l : Int) == ((ones n : Nat) : Int)) = false := by rw [beq_eq_false_iff_ne]; omega
  have hq' : ¬ (l : Int) = ((ones n : Nat) : Int) := by omega
  clear ho1 hb1 hr1 hl1 HTO
  go_wp2_with fail
  refine HLO.out.mono ?_
  rintro e2 w2 ⟨rfl, rfl⟩
  go_wp2_with (first | (go_at_call 6; refine (HAW.out _ HB1.out).mono ?_; rintro e9 w9 ⟨rfl, hb9⟩; have HB9 := Lib.hid (HB1.out.trans (hb9.mono HB1.out.size)); clear hb9) | (go_at_call 19; refine (HON.out _).mono ?_; rintro e8 w8 ⟨rfl, rfl⟩))
  go_ret
  exact ⟨rfl, HB9.out⟩
/-- a frontier and the leaf's box, behind w -/
structure LF (w : World) (g n BL : Nat) (v : Value) (ds : Ds) (leaf : List Nat) (W : World) : Prop where
  bel : Below w.heap.size w W
  fr : FR W g n v
  own : OwnD W BL 32 v ds
  box : Brow W w.heap.size 31 leaf
  lo : BL ≤ W.heap.size
theorem LF.step {w W W' : World} {g n BL : Nat} {v : Value} {ds : Ds} {leaf : List Nat} (h : LF w g n BL v ds leaf W) (hb : Below W.heap.size W W') : LF w g n BL v ds leaf W' :=
  ⟨h.bel.trans (hb.mono h.bel.size), h.fr.below hb h.fr.lt, OwnD.below h.own hb (Nat.le_refl _), h.box.below hb h.box.lt, Nat.le_trans h.lo hb.size⟩
theorem LF.only {w W W' : World} {g n BL gd : Nat} {v : Value} {ds : Ds} {leaf : List Nat} (h : LF w g n BL v ds leaf W) (ho : Only gd W W') (h1 : w.heap.size < gd) (h2 : g ≠ gd) (h3 : ∀ k, v.ownBlock = some k → k ≠ gd) : LF w g n BL v ds leaf W' :=
  ⟨h.bel.trans (ho.below (by omega) h.bel.size), h.fr.only ho h2, OwnD.only h.own ho h3, h.box.only ho (by omega), Nat.le_trans h.lo ho.size⟩
theorem LF.drew {w W : World} {g n BL : Nat} {v : Value} {ds : Ds} {leaf : List Nat} (h : LF w g n BL v ds leaf W) : LF w g n BL v ds leaf W.drew := ⟨h.bel.drew, h.fr, h.own, h.box, h.lo⟩
set_option maxRecDepth 100000 in
set_option maxHeartbeats 8000000 in
theorem loads_most (n : Nat) (a : Option Addr) (l cap : Nat) (zs : Ds) (leaf : List Nat) (w : World) (hn : n ≤ 9223372036854775807) (hn9 : n = 9223372036854775807) (hl1e : l = ones n) (hin : DigsIn w a l cap zs) (hlf : D32 leaf) (ht : Tab w) :
    Calls Tryd.prog 4 #[.int .i64 (n : Int), .slice a l cap, .agg (cellsOf leaf).toArray] w fun e w' => e = .returned (.bool true) ∧ Below w.heap.size w w' := by
  have HN9 := Lib.hid hn9
  have HL1E := Lib.hid hl1e
  clear hn9 hl1e
  obtain ⟨hr, hnil, hlc, hcm⟩ := hin
  have HR := Lib.hid hr
  have HLF := Lib.hid hlf
  have HT := Lib.hid ht
  have hpos := ht.pos
  have HAW := Lib.hid (show ∀ W, Below w.heap.size w W → Calls Tryd.prog 6 #[] W (fun e w' => e = .returned (.bool true) ∧ Below W.heap.size W w') from fun W hW => awake3_c W (HT.out.below hW hpos))
  clear hr hlf ht
  go_enter Tryd.func4, Tryd.ntmps4
  go_upto_region 1 with fail
  refine gen_code (F := fun W => Brow W w.heap.size 31 leaf ∧ Below w.heap.size w W) ⟨heap_new _ _, (Below.refl _ _).alloc (Nat.le_refl _) _⟩ ?_
  rintro wA ⟨hba, hbb⟩
  have HBA := Lib.hid hba
  have HB := Lib.hid hbb
  have HTO := Lib.hid (to_c l zs a cap wA (HR.out.below hbb) (by omega))
  clear hba hbb
  go_wp2_with fail
  refine HTO.out.mono ?_
  rintro e1 w1 ⟨v1, rfl, ho1, hb1⟩
  obtain ⟨a1, l1, c1, rfl, hl1, hlc1, hcm1, hnil1, hr1⟩ := OwnD.form ho1 HR.out.2.1
  obtain rfl : l = l1 := HR.out.1.symm.trans hl1
  have HB1 := Lib.hid (HB.out.trans (hb1.mono HB.out.size))
  have HBA1 := Lib.hid (HBA.out.below hb1 HBA.out.lt)
  have HON := Lib.hid (fun W => rones_c n W hn)
  rw [← HL1E.out] at HON
  have HLO := Lib.hid (load_c n l zs a1 c1 w1 hn hr1 hnil1 HL1E.out)
  have hn0 : ¬ (n : Int) < 0 := by omega
  have hn0' : decide ((n : Int) < 0) = false := decide_eq_false hn0
  have hl63 : l ≤ 63 := by rw [HL1E.out]; exact ones_le63 n hn
  have hw1 := HB1.out.size
  have hlt1 := HBA1.out.lt
  obtain ⟨BL, hBL⟩ : ∃ BL, BL = w1.heap.size := ⟨_, rfl⟩
  clear ho1 hb1 hr1 hl1 HTO
  go_wp2_with fail
  refine HLO.out.mono ?_
  rintro e2 w2 ⟨g, v, rfl, hg, hF, hO, hb2⟩
  rw [← hBL] at hg hO
  have HS := Lib.hid (show LF w g n BL v zs leaf w2 from ⟨HB1.out.trans (hb2.mono HB1.out.size), hF, hO, HBA1.out.below hb2 HBA1.out.lt, by rw [hBL]; exact hb2.size⟩)
  rw [← hBL] at hw1 hlt1
  have hgw : w.heap.size < g := by omega
  have hBw : w.heap.size < BL := hlt1
  clear hF hO hb2 hBL HLO HB1 HBA1 HB HBA hnil1
  have HZL := Lib.hid HR.out.1
  have HZD := Lib.hid HR.out.2.1
  have HRW := Lib.hid (fun W (hW : Below w.heap.size w W) => HR.out.below hW)
  have HLFI := Lib.hid (info32 dtR HLF.out)
  have HNN := Lib.hid hn
  clear hn
  have hself : ((n : Int) == (n : Int)) = true := by simp
  have hselfl : ((l : Int) == (l : Int)) = true := by simp
  go_upto_region 6 with (first | (go_at_call 6; refine (HAW.out _ HS.out.bel).mono ?_; rintro e9 w9 ⟨rfl, hb9⟩; have HS := Lib.hid (HS.out.step hb9); clear hb9))
  go_upto_region 8 with (first | (go_at_call 19; refine (HON.out _).mono ?_; rintro e8 w8 ⟨rfl, rfl⟩))
  trace_state
  go_upto_region 10 with (first | (go_at_call 6; refine (HAW.out _ HS.out.bel).mono ?_; rintro e9 w9 ⟨rfl, hb9⟩; have HS := Lib.hid (HS.out.step hb9); clear hb9) | (go_at_call 19; refine (HON.out _).mono ?_; rintro e8 w8 ⟨rfl, rfl⟩) | (go_at_call 10; refine (fsize_c g n v _ HS.out.fr).mono ?_; rintro e7 w7 ⟨rfl, rfl⟩) | (go_at_call 9; refine (tops_c g n BL v zs _ HS.out.fr HS.out.own HZD.out (by rw [HZL.out]; omega)).mono ?_; rintro e6 w6 ⟨v6, rfl, ho6, hb6⟩; obtain ⟨a6, l6, c6, rfl, hl6, hlc6, hcm6, hnil6, hr6⟩ := OwnD.form ho6 HZD.out; obtain rfl : l = l6 := HZL.out.symm.trans hl6; have HR6 := Lib.hid hr6; have HS := Lib.hid (HS.out.step hb6); clear hb6 ho6 hl6 hlc6 hcm6 hnil6 hr6) | (go_at_call 14; refine (from_c l zs a6 c6 _ HR6.out (by omega)).mono ?_; rintro e5 w5 ⟨v5, rfl, ho5, hb5⟩; obtain ⟨a5, l5, c5, rfl, hl5, hlc5, hcm5, hnil5, hr5⟩ := OwnD.form ho5 HZD.out; obtain rfl : l = l5 := HZL.out.symm.trans hl5; have HR5 := Lib.hid hr5; have HS := Lib.hid (HS.out.step hb5); clear hb5 ho5 hl5 hlc5 hcm5 hnil5 hr5 HR6) | (go_at_call 13; refine (dsame_c l l (by omega) a5 a c5 cap zs zs _ HR5.out (HRW.out _ HS.out.bel)).mono ?_; rintro e4 w4 ⟨rfl, hb4⟩; have HS := Lib.hid (HS.out.step hb4); clear hb4 HR5))
  have HAD := Lib.hid (show ∀ W, LF w g n BL v zs leaf W → Calls Tryd.prog 17 #[.pointer (some ⟨g, 0, none⟩), .agg (cellsOf leaf).toArray] W (fun e w' => e = .returned (.int .i64 8) ∧ Below W.heap.size W w') from fun W hW => fadd_most g v leaf W (by have := hW.fr; rwa [HN9.out] at this))
  have hm9 : ((n : Int) == 9223372036854775807) = true := by rw [beq_iff_eq]; have := HN9.out; omega
  go_wp2_with (first | (refine wpList_load_row (by rfl) 31 (.tmp 5) (by rfl) w.heap.size (by rfl) _ (cellsOf leaf).toArray (0, 0) _ HS.out.box Tryd.underlying31 (by rfl) HLFI.out ?_) | (go_at_call 17; refine (HAD.out _ HS.out).mono ?_; rintro e9 w9 ⟨rfl, hb9⟩; have HS := Lib.hid (HS.out.step hb9); clear hb9) | (go_at_call 10; refine (fsize_c g n v _ HS.out.fr).mono ?_; rintro e7 w7 ⟨rfl, rfl⟩))
  go_ret
  exact ⟨rfl, HS.out.bel⟩
end Go.Proofs.YtlnblfdddellmaaDoor
