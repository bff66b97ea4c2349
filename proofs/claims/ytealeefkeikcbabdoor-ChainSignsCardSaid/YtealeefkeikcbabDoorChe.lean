/-
  The walk over ChainDigits.
-/
import Derived.Test.YtealeefkeikcbabDoorChc
namespace Go.Proofs.YtealeefkeikcbabDoor
open Go.RowKit
set_option linter.unusedVariables false
theorem nib_at (m : List Nat) (k : Nat) (hk : k < m.length) : (Dg.nib m).getD (2 * k) 0 = m.getD k 0 / 16 ∧ (Dg.nib m).getD (2 * k + 1) 0 = m.getD k 0 % 16 := by
  induction m generalizing k with
  | nil => simp at hk
  | cons b m ih =>
    cases k with
    | zero => exact ⟨rfl, rfl⟩
    | succ k =>
      have := ih k (by simpa using hk)
      simpa [Dg.nib, Nat.mul_succ] using this
theorem digs_at (m : List Nat) (hm : m.length = 32) (k : Nat) (hk : k < 32) : (Dg.digs m).getD (2 * k) 0 = m.getD k 0 / 16 ∧ (Dg.digs m).getD (2 * k + 1) 0 = m.getD k 0 % 16 := by
  have hl := Dg.nib_len m
  unfold Dg.digs
  rw [Dg.getD_app_left _ _ _ (by omega), Dg.getD_app_left _ _ _ (by omega)]
  exact nib_at m k (by omega)
theorem digs_end (m : List Nat) (hm : m.length = 32) : (Dg.digs m).getD 64 0 = Dg.left m / 256 ∧ (Dg.digs m).getD 65 0 = Dg.left m / 16 % 16 ∧ (Dg.digs m).getD 66 0 = Dg.left m % 16 := by
  have hl : 64 = (Dg.nib m).length := by rw [Dg.nib_len, hm]
  refine ⟨?_, ?_, ?_⟩
  · have := Dg.getD_app_right (Dg.nib m) (Dg.tail (Dg.left m)) 0; rw [← hl] at this; exact this
  · have := Dg.getD_app_right (Dg.nib m) (Dg.tail (Dg.left m)) 1; rw [← hl] at this; exact this
  · have := Dg.getD_app_right (Dg.nib m) (Dg.tail (Dg.left m)) 2; rw [← hl] at this; exact this
theorem i64_or (a b : Nat) (ha : a < 4294967296) (hb : b < 4294967296) : bits .or .i64 (a : Int) (b : Int) = ((a ||| b : Nat) : Int) := by
  show IntKind.i64.wrap ((BitVec.ofInt 64 (a : Int) ||| BitVec.ofInt 64 (b : Int)).toNat : Int) = _
  have h : (BitVec.ofInt 64 (a : Int) ||| BitVec.ofInt 64 (b : Int)).toNat = a ||| b := by
    rw [BitVec.toNat_or, BitVec.toNat_ofInt, BitVec.toNat_ofInt]
    congr 1 <;> omega
  rw [h]
  have hl : a ||| b < 4294967296 := Nat.or_lt_two_pow (n := 32) ha hb
  simp [IntKind.wrap, IntKind.bits, IntKind.signed]
  omega
/-- what came in, and its digits -/
def DG (w : World) (g : Nat) (m d : List Nat) (W : World) : Prop := Brow W w.heap.size 22 m ∧ Brow W g 38 d ∧ Below w.heap.size w W
theorem DG.below {w W W' : World} {g : Nat} {x y : List Nat} (h : DG w g x y W) (hb : Below W.heap.size W W') : DG w g x y W' :=
  ⟨h.1.below hb h.1.lt, h.2.1.below hb h.2.1.lt, h.2.2.trans (hb.mono h.2.2.size)⟩
theorem DG.drew {w W : World} {g : Nat} {x y : List Nat} (h : DG w g x y W) : DG w g x y W.drew := ⟨h.1.drew, h.2.1.drew, h.2.2.drew⟩
theorem DG.lay {w W : World} {x y : List Nat} (h : B1 w 22 x W) (V : Obj) (hV : V = .cells (cellsOf zs67).toArray 38 (0, 0)) : DG w W.heap.size x y ((W.alloc V).setRow W.heap.size (cellsOf y).toArray) := by
  subst hV
  have hb := ((Below.refl W.heap.size W).alloc (Nat.le_refl _) (.cells (cellsOf zs67).toArray 38 (0, 0))).setRow (Nat.le_refl _) (cellsOf y).toArray
  exact ⟨h.1.below hb h.1.lt, (Brow.new W 38 zs67).setRow, h.2.trans (hb.mono h.2.size)⟩
theorem info_d67 (D : List Nat) (h : D.length = 67) : (Tryd.prog.info? 38).map (·.size) = some (cellsOf D).toArray.size := by rw [cellsOf_size, h]; exact info_67
theorem zs_67 (D : List Nat) (h : D.length = 67) : (cellsOf zs67).toArray.size = (cellsOf D).toArray.size := by rw [cellsOf_size, cellsOf_size, h]; rfl
theorem load67 (W : World) (g : Nat) (x : List Nat) (hx : x.length = 67) (h : Brow W g 38 x) : (Instr.loadAt 38 (.pointer (some ⟨g, 0, none⟩))).run Tryd.prog W = .ok (.agg (cellsOf x).toArray) W :=
  run_loadAt_mid W g 0 38 (cellsOf x) _ h.range Tryd.underlying38 rfl (by rw [cellsOf_length, hx]; exact info_67)
set_option maxRecDepth 100000 in
set_option maxHeartbeats 4000000 in
theorem cdigits_c (m : List Nat) (w : World) (hm : D32 m) (ht : Tab w) :
    Calls Tryd.prog 5 #[.agg (cellsOf m).toArray] w fun e w' => e = .returned (.bool true) ∧ Below w.heap.size w w' := by
  have HM := Lib.hid hm
  have HT := Lib.hid ht
  have hpos := ht.pos
  have HI := Lib.hid (info_r32 m hm)
  obtain ⟨D, hD⟩ : ∃ D, D = Dg.digs m := ⟨_, rfl⟩
  have HDL := Lib.hid (show D.length = 67 from by rw [hD, Dg.digs_len, hm.1])
  have HDB := Lib.hid (show ∀ z ∈ D, z < 256 from fun z hz => by rw [hD] at hz; have := Dg.digs_lt m hm.1 hm.2 z hz; omega)
  have HDA := Lib.hid (show ∀ k, k < 32 → D.getD (2 * k) 0 = m.getD k 0 / 16 ∧ D.getD (2 * k + 1) 0 = m.getD k 0 % 16 from fun k hk => by rw [hD]; exact digs_at m hm.1 k hk)
  have HDE := Lib.hid (show D.getD 64 0 = Dg.left m / 256 ∧ D.getD 65 0 = Dg.left m / 16 % 16 ∧ D.getD 66 0 = Dg.left m % 16 from by rw [hD]; exact digs_end m hm.1)
  have HID := Lib.hid (info_d67 D HDL.out)
  have HZD := Lib.hid (zs_67 D HDL.out)
  have HC1 := Lib.hid (show ∀ W, Calls Tryd.prog 21 #[.agg (cellsOf m).toArray] W (DigRet D W) from fun W => by rw [hD]; exact digits_c m W hm)
  have HC2 := Lib.hid (show ∀ W, Calls Tryd.prog 22 #[.agg (cellsOf m).toArray] W (DigRet D W) from fun W => by rw [hD]; exact rdigits_c m W hm)
  clear hm ht hD
  go_enter Tryd.func5, Tryd.ntmps5
  go_upto_region 1 with fail
  refine gen_code (F := B1 w 22 m) (B1.new w _ _) ?_
  intro wA h
  have H0 := Lib.hid h
  clear h
  go_wp2_with (first | (refine wpList_load_row (by rfl) 22 _ (by rfl) w.heap.size (by rfl) _ (cellsOf m).toArray (0, 0) _ H0.out.1 Tryd.underlying22 (by rfl) HI.out ?_))
  refine (HC1.out wA).mono ?_
  rintro e1 w1 ⟨rfl, hb1⟩
  have H1 := Lib.hid (H0.out.below hb1)
  clear hb1
  obtain ⟨g, hg⟩ : ∃ g, g = w1.heap.size := ⟨_, rfl⟩
  go_upto_region 2 with (first | (refine wpList_store_row (by rfl) 38 _ _ (by rfl) w1.heap.size (cellsOf D).toArray (by rfl) (by rfl) 38 (cellsOf zs67).toArray (by exact heap_new _ _) HID.out HZD.out (cellsOf_all _) ?_))
  refine gen_code (F := DG w g m D) (by rw [hg]; exact DG.lay H1.out _ rfl) ?_
  intro w2 h
  have HS := Lib.hid h
  clear h H0 H1
  rw [← hg]
  clear hg
  go_wp2_with fail
  go_loopw [4, 8] (fun s i wr => ∃ k : Nat, k ≤ 32 ∧ i = .int .i64 k ∧ s = .int .i64 ((Dg.left (m.take k) : Nat) : Int) ∧ Hid (DG w g m D wr)) (fun _ i _ => 32 - (intOf i).toNat)
  case atStart => exact ⟨0, by omega, rfl, rfl, HS⟩
  case round =>
    clear HS
    obtain ⟨k, hk, rfl, rfl, HB⟩ := hrel
    have hS := Dg.left_le (m.take k)
    rw [List.length_take] at hS
    by_cases hk32 : k < 32
    · obtain ⟨b, hb⟩ : ∃ b, b = m.getD k 0 := ⟨_, rfl⟩
      have hb8 : b < 256 := by rw [hb, getD_at _ _ (by rw [HM.out.1]; exact hk32)]; exact HM.out.2 _ (List.getElem_mem _)
      obtain ⟨q, hq⟩ : ∃ q, q = b / 16 := ⟨_, rfl⟩
      obtain ⟨r, hr⟩ : ∃ r, r = b % 16 := ⟨_, rfl⟩
      obtain ⟨s, hs⟩ : ∃ s, s = Dg.left (m.take k) := ⟨_, rfl⟩
      rw [← hs] at hS ⊢
      have hq15 : q ≤ 15 := by omega
      have hr15 : r ≤ 15 := by omega
      have HNX := Lib.hid (show s + (30 - q - r) = Dg.left (m.take (k + 1)) from by
        rw [take_snoc m k (by rw [HM.out.1]; exact hk32), Dg.left_app, ← getD_at m k (by rw [HM.out.1]; exact hk32), ← hb, ← hs]
        simp only [Dg.left]
        omega)
      have hab := HDA.out k hk32
      rw [← hb, ← hq, ← hr] at hab
      have f0 : wr.cell? ⟨w.heap.size, k, none⟩ = some (.int .u8 (b : Int)) := by rw [hb]; exact HB.out.1.cell _ (by rw [HM.out.1]; exact hk32)
      have f1 : wr.cell? ⟨g, 2 * k, none⟩ = some (.int .u8 (q : Int)) := by rw [← hab.1]; exact HB.out.2.1.cell _ (by rw [HDL.out]; omega)
      have f2 : wr.cell? ⟨g, 2 * k + 1, none⟩ = some (.int .u8 (r : Int)) := by rw [← hab.2]; exact HB.out.2.1.cell _ (by rw [HDL.out]; omega)
      have hor : bits .or .u8 ((q : Int) * 16) (r : Int) = (b : Int) := by
        have h1 := u8_or_nat (q * 16) r (by omega) (by omega)
        have h2 := Nat.two_pow_add_eq_or_of_lt (i := 4) (show r < 2 ^ 4 by omega) q
        rw [show ((q : Int) * 16) = ((q * 16 : Nat) : Int) by omega, h1, Nat.mul_comm q 16]
        have h3 : 2 ^ 4 * q ||| r = 16 * q ||| r := rfl
        omega
      clear hab hb hq hr hs
      go_upto_region 6 with fail
      go_region
      go_upto_region 8 with fail
      go_region
      go_wp2_with fail
      go_roundw
      case rel => exact ⟨k + 1, by omega, by go_num, congrArg (Value.int .i64) (by rw [← HNX.out]; omega), HB.out.drew.drew⟩
      case measure => simp [intOf]; omega
    · obtain rfl : k = 32 := by omega
      have hta : m.take 32 = m := List.take_of_length_le (by rw [HM.out.1]; omega)
      rw [hta] at hS ⊢
      clear hta
      have hl32 := HM.out.1
      obtain ⟨s, hs⟩ : ∃ s, s = Dg.left m := ⟨_, rfl⟩
      rw [← hs] at hS ⊢
      obtain ⟨A, hA⟩ : ∃ A, A = s / 256 := ⟨_, rfl⟩
      obtain ⟨B, hB⟩ : ∃ B, B = s / 16 % 16 := ⟨_, rfl⟩
      obtain ⟨C, hC⟩ : ∃ C, C = s % 16 := ⟨_, rfl⟩
      have hab := HDE.out
      rw [← hs, ← hA, ← hB, ← hC] at hab
      have hs960 : s ≤ 960 := by omega
      have hA8 : A < 16 := by omega
      have hB8 : B < 16 := by omega
      have hC8 : C < 16 := by omega
      obtain ⟨E, hE⟩ : ∃ E, E = A * 256 + B * 16 := ⟨_, rfl⟩
      have hE8 : E < 4096 := by omega
      have o1 : bits .or .i64 ((A : Int) * 256) ((B : Int) * 16) = (E : Int) := by
        have h1 := i64_or (A * 256) (B * 16) (by omega) (by omega)
        have h2 := Nat.two_pow_add_eq_or_of_lt (i := 8) (show B * 16 < 2 ^ 8 by omega) A
        rw [show ((A : Int) * 256) = ((A * 256 : Nat) : Int) by omega, show ((B : Int) * 16) = ((B * 16 : Nat) : Int) by omega, h1, Nat.mul_comm A 256]
        have h3 : 2 ^ 8 * A ||| B * 16 = 256 * A ||| B * 16 := rfl
        omega
      have o2 : bits .or .i64 (E : Int) (C : Int) = (s : Int) := by
        have h1 := i64_or E C (by omega) (by omega)
        have h2 := Nat.two_pow_add_eq_or_of_lt (i := 4) (show C < 2 ^ 4 by omega) (A * 16 + B)
        have h3 : 2 ^ 4 * (A * 16 + B) = E := by omega
        rw [h3] at h2
        rw [h1, ← h2]
        omega
      clear hs hA hB hC hE hl32
      go_upto_region 10 with fail
      (try dsimp only [Act.put, List.setIfInBounds_toArray, List.set_cons_zero, List.set_cons_succ])
      have HS := Lib.hid HB.out.drew
      have HAW := Lib.hid (show ∀ W, DG w g m D W → Calls Tryd.prog 14 #[] W (fun e w' => e = .returned (.bool true) ∧ Below W.heap.size W w') from fun W hW => awake4_c W (HT.out.below hW.2.2 hpos))
      have HLM := Lib.hid (fun W (hW : DG w g m D W) => loadR W w.heap.size m HM.out hW.1)
      have HLD := Lib.hid (fun W (hW : DG w g m D W) => load67 W g D HDL.out hW.2.1)
      have HLA := Lib.hid (show ∀ W, DG w g m D W → (Instr.loadAt 5 (.pointer (some ⟨g, 64, none⟩))).run Tryd.prog W = .ok (.int .u8 (A : Int)) W from fun W hW => by
        have hc := hW.2.1.cell 64 (by rw [HDL.out]; omega)
        rw [hab.1] at hc
        go_simp)
      have HLB := Lib.hid (show ∀ W, DG w g m D W → (Instr.loadAt 5 (.pointer (some ⟨g, 65, none⟩))).run Tryd.prog W = .ok (.int .u8 (B : Int)) W from fun W hW => by
        have hc := hW.2.1.cell 65 (by rw [HDL.out]; omega)
        rw [hab.2.1] at hc
        go_simp)
      have HLC := Lib.hid (show ∀ W, DG w g m D W → (Instr.loadAt 5 (.pointer (some ⟨g, 66, none⟩))).run Tryd.prog W = .ok (.int .u8 (C : Int)) W from fun W hW => by
        have hc := hW.2.1.cell 66 (by rw [HDL.out]; omega)
        rw [hab.2.2] at hc
        go_simp)
      have HED := Lib.hid (show ∀ W, (Op.equalIn 10000 38 (.agg (cellsOf D).toArray) (.agg (cellsOf D).toArray)).run Tryd.prog W = .ok true W from fun W => by
        simpa using eq_dig 38 67 Tryd.underlying38 W D D HDL.out HDL.out HDB.out HDB.out)
      have HG7 := Lib.hid (show Tryd.prog.eqGuardType Tryd.prog.depth 38 = false by kernel_rfl)
      clear hab HB
      have wA : IntKind.i64.wrap (A : Int) = (A : Int) := by simp [IntKind.wrap, IntKind.bits, IntKind.signed]; omega
      have wB : IntKind.i64.wrap (B : Int) = (B : Int) := by simp [IntKind.wrap, IntKind.bits, IntKind.signed]; omega
      have wC : IntKind.i64.wrap (C : Int) = (C : Int) := by simp [IntKind.wrap, IntKind.bits, IntKind.signed]; omega
      have wA2 : IntKind.i64.wrap ((A : Int) * 256) = (A : Int) * 256 := by simp [IntKind.wrap, IntKind.bits, IntKind.signed]; omega
      have wB2 : IntKind.i64.wrap ((B : Int) * 16) = (B : Int) * 16 := by simp [IntKind.wrap, IntKind.bits, IntKind.signed]; omega
      refine anyH_begin (S := DG w g m D) (by kernel_rfl) ?_
      refine anyH_callG 0 (d := some 42) (f := 14) (xs := #[]) (ts := #[]) (gd := none) (vs := #[]) (by kernel_rfl) (by rfl) (fun o ho => wanted_plain ho _) (by go_simp) (by go_simp) (HAW.out _ HS.out) ?_
      rintro e91 w91 ⟨rfl, hb91⟩
      refine ⟨_, rfl, HS.out.below hb91, fun hS91 => ?_⟩
      have HS := Lib.hid hS91
      clear hS91 hb91
      simp only [Act.put, List.setIfInBounds_toArray, List.set_cons_zero, List.set_cons_succ]
      refine anyH_pureG 1 (d := 43) (op := .move (.tmp 42)) (gd := none) (.bool true) (by rfl) (fun o ho => wanted_plain ho _) (by kernel_rfl) (by kernel_rfl) (by kernel_rfl) (fun _ _ _ h => h) (fun o ho W hW => by unfold execOp; simp only [ho]; go_simp) HS.out ?_
      simp only [Act.put, List.setIfInBounds_toArray, List.set_cons_zero, List.set_cons_succ]
      refine anyH_loadG 2 (d := 44) (ty := 38) (x := (.tmp 3)) (gd := some (1, true)) (p := .pointer (some ⟨g, 0, none⟩)) (.agg (cellsOf D).toArray) (by rfl) (fun o ho => by simp only [Region.wanted, ho]; rfl) (by kernel_rfl) (by kernel_rfl) (by kernel_rfl) (fun _ _ _ h => h) (by rfl) HLD.out HS.out ?_
      simp only [Act.put, List.setIfInBounds_toArray, List.set_cons_zero, List.set_cons_succ]
      refine anyH_loadG 3 (d := 45) (ty := 22) (x := (.tmp 1)) (gd := some (1, true)) (p := .pointer (some ⟨w.heap.size, 0, none⟩)) (.agg (cellsOf m).toArray) (by rfl) (fun o ho => by simp only [Region.wanted, ho]; rfl) (by kernel_rfl) (by kernel_rfl) (by kernel_rfl) (fun _ _ _ h => h) (by rfl) HLM.out HS.out ?_
      simp only [Act.put, List.setIfInBounds_toArray, List.set_cons_zero, List.set_cons_succ]
      refine anyH_callG 4 (d := some 46) (f := 22) (xs := #[(.tmp 45)]) (ts := #[22]) (gd := some (1, true)) (vs := #[.agg (cellsOf m).toArray]) (by kernel_rfl) (by rfl) (fun o ho => by simp only [Region.wanted, ho]; rfl) (by go_simp) (by go_simp) (HC2.out _) ?_
      rintro e92 w92 ⟨rfl, hb92⟩
      refine ⟨_, rfl, HS.out.below hb92, fun hS92 => ?_⟩
      have HS := Lib.hid hS92
      clear hS92 hb92
      simp only [Act.put, List.setIfInBounds_toArray, List.set_cons_zero, List.set_cons_succ]
      refine anyH_eqG 5 (d := 47) (t := 38) (t' := 38) (x := (.tmp 44)) (y := (.tmp 46)) (gd := some (1, true)) ((cellsOf D).toArray) ((cellsOf D).toArray) true (by rfl) (fun o ho => by simp only [Region.wanted, ho]; rfl) (by kernel_rfl) (by kernel_rfl) (by kernel_rfl) (fun _ _ _ h => h) (by rfl) (by rfl) HG7.out (fun W => HED.out W) HS.out ?_
      simp only [Act.put, List.setIfInBounds_toArray, List.set_cons_zero, List.set_cons_succ]
      refine anyH_pureG 6 (d := 48) (op := .pick (.tmp 43) (.tmp 47) (.const (.bool false))) (gd := none) (.bool true) (by rfl) (fun o ho => wanted_plain ho _) (by kernel_rfl) (by kernel_rfl) (by kernel_rfl) (fun _ _ _ h => h) (fun o ho W hW => by unfold execOp; simp only [ho]; go_simp) HS.out ?_
      simp only [Act.put, List.setIfInBounds_toArray, List.set_cons_zero, List.set_cons_succ]
      refine anyH_pureG 7 (d := 49) (op := .move (.tmp 48)) (gd := none) (.bool true) (by rfl) (fun o ho => wanted_plain ho _) (by kernel_rfl) (by kernel_rfl) (by kernel_rfl) (fun _ _ _ h => h) (fun o ho W hW => by unfold execOp; simp only [ho]; go_simp) HS.out ?_
      simp only [Act.put, List.setIfInBounds_toArray, List.set_cons_zero, List.set_cons_succ]
      refine anyH_pureG 8 (d := 50) (op := .indexAddr 38 (.tmp 3) (.const (.int .i64 64))) (gd := some (7, true)) (.pointer (some ⟨g, 64, none⟩)) (by rfl) (fun o ho => by simp only [Region.wanted, ho]; rfl) (by kernel_rfl) (by kernel_rfl) (by kernel_rfl) (fun _ _ _ h => h) (fun o ho W hW => by unfold execOp; simp only [ho]; go_simp) HS.out ?_
      simp only [Act.put, List.setIfInBounds_toArray, List.set_cons_zero, List.set_cons_succ]
      refine anyH_loadG 9 (d := 51) (ty := 5) (x := (.tmp 50)) (gd := some (7, true)) (p := .pointer (some ⟨g, 64, none⟩)) (.int .u8 (A : Int)) (by rfl) (fun o ho => by simp only [Region.wanted, ho]; rfl) (by kernel_rfl) (by kernel_rfl) (by kernel_rfl) (fun _ _ _ h => h) (by rfl) HLA.out HS.out ?_
      simp only [Act.put, List.setIfInBounds_toArray, List.set_cons_zero, List.set_cons_succ]
      refine anyH_pureG 10 (d := 52) (op := .convert 5 3 (.tmp 51)) (gd := some (7, true)) (.int .i64 (A : Int)) (by rfl) (fun o ho => by simp only [Region.wanted, ho]; rfl) (by kernel_rfl) (by kernel_rfl) (by kernel_rfl) (fun _ _ _ h => h) (fun o ho W hW => by unfold execOp; simp only [ho]; go_simp) HS.out ?_
      simp only [Act.put, List.setIfInBounds_toArray, List.set_cons_zero, List.set_cons_succ]
      refine anyH_pureG 11 (d := 53) (op := .binOp .shl 3 (.tmp 52) (.const (.int .u64 8)) 40) (gd := some (7, true)) (.int .i64 ((A : Int) * 256)) (by rfl) (fun o ho => by simp only [Region.wanted, ho]; rfl) (by kernel_rfl) (by kernel_rfl) (by kernel_rfl) (fun _ _ _ h => h) (fun o ho W hW => by unfold execOp; simp only [ho]; go_simp) HS.out ?_
      simp only [Act.put, List.setIfInBounds_toArray, List.set_cons_zero, List.set_cons_succ]
      refine anyH_pureG 12 (d := 54) (op := .indexAddr 38 (.tmp 3) (.const (.int .i64 65))) (gd := some (7, true)) (.pointer (some ⟨g, 65, none⟩)) (by rfl) (fun o ho => by simp only [Region.wanted, ho]; rfl) (by kernel_rfl) (by kernel_rfl) (by kernel_rfl) (fun _ _ _ h => h) (fun o ho W hW => by unfold execOp; simp only [ho]; go_simp) HS.out ?_
      simp only [Act.put, List.setIfInBounds_toArray, List.set_cons_zero, List.set_cons_succ]
      refine anyH_loadG 13 (d := 55) (ty := 5) (x := (.tmp 54)) (gd := some (7, true)) (p := .pointer (some ⟨g, 65, none⟩)) (.int .u8 (B : Int)) (by rfl) (fun o ho => by simp only [Region.wanted, ho]; rfl) (by kernel_rfl) (by kernel_rfl) (by kernel_rfl) (fun _ _ _ h => h) (by rfl) HLB.out HS.out ?_
      simp only [Act.put, List.setIfInBounds_toArray, List.set_cons_zero, List.set_cons_succ]
      refine anyH_pureG 14 (d := 56) (op := .convert 5 3 (.tmp 55)) (gd := some (7, true)) (.int .i64 (B : Int)) (by rfl) (fun o ho => by simp only [Region.wanted, ho]; rfl) (by kernel_rfl) (by kernel_rfl) (by kernel_rfl) (fun _ _ _ h => h) (fun o ho W hW => by unfold execOp; simp only [ho]; go_simp) HS.out ?_
      simp only [Act.put, List.setIfInBounds_toArray, List.set_cons_zero, List.set_cons_succ]
      refine anyH_pureG 15 (d := 57) (op := .binOp .shl 3 (.tmp 56) (.const (.int .u64 4)) 40) (gd := some (7, true)) (.int .i64 ((B : Int) * 16)) (by rfl) (fun o ho => by simp only [Region.wanted, ho]; rfl) (by kernel_rfl) (by kernel_rfl) (by kernel_rfl) (fun _ _ _ h => h) (fun o ho W hW => by unfold execOp; simp only [ho]; go_simp) HS.out ?_
      simp only [Act.put, List.setIfInBounds_toArray, List.set_cons_zero, List.set_cons_succ]
      refine anyH_pureG 16 (d := 58) (op := .binOp .or 3 (.tmp 53) (.tmp 57) 3) (gd := some (7, true)) (.int .i64 (E : Int)) (by rfl) (fun o ho => by simp only [Region.wanted, ho]; rfl) (by kernel_rfl) (by kernel_rfl) (by kernel_rfl) (fun _ _ _ h => h) (fun o ho W hW => by unfold execOp; simp only [ho]; go_simp) HS.out ?_
      simp only [Act.put, List.setIfInBounds_toArray, List.set_cons_zero, List.set_cons_succ]
      refine anyH_pureG 17 (d := 59) (op := .indexAddr 38 (.tmp 3) (.const (.int .i64 66))) (gd := some (7, true)) (.pointer (some ⟨g, 66, none⟩)) (by rfl) (fun o ho => by simp only [Region.wanted, ho]; rfl) (by kernel_rfl) (by kernel_rfl) (by kernel_rfl) (fun _ _ _ h => h) (fun o ho W hW => by unfold execOp; simp only [ho]; go_simp) HS.out ?_
      simp only [Act.put, List.setIfInBounds_toArray, List.set_cons_zero, List.set_cons_succ]
      refine anyH_loadG 18 (d := 60) (ty := 5) (x := (.tmp 59)) (gd := some (7, true)) (p := .pointer (some ⟨g, 66, none⟩)) (.int .u8 (C : Int)) (by rfl) (fun o ho => by simp only [Region.wanted, ho]; rfl) (by kernel_rfl) (by kernel_rfl) (by kernel_rfl) (fun _ _ _ h => h) (by rfl) HLC.out HS.out ?_
      simp only [Act.put, List.setIfInBounds_toArray, List.set_cons_zero, List.set_cons_succ]
      refine anyH_pureG 19 (d := 61) (op := .convert 5 3 (.tmp 60)) (gd := some (7, true)) (.int .i64 (C : Int)) (by rfl) (fun o ho => by simp only [Region.wanted, ho]; rfl) (by kernel_rfl) (by kernel_rfl) (by kernel_rfl) (fun _ _ _ h => h) (fun o ho W hW => by unfold execOp; simp only [ho]; go_simp) HS.out ?_
      simp only [Act.put, List.setIfInBounds_toArray, List.set_cons_zero, List.set_cons_succ]
      refine anyH_pureG 20 (d := 62) (op := .binOp .or 3 (.tmp 58) (.tmp 61) 3) (gd := some (7, true)) (.int .i64 (s : Int)) (by rfl) (fun o ho => by simp only [Region.wanted, ho]; rfl) (by kernel_rfl) (by kernel_rfl) (by kernel_rfl) (fun _ _ _ h => h) (fun o ho W hW => by unfold execOp; simp only [ho]; go_simp) HS.out ?_
      simp only [Act.put, List.setIfInBounds_toArray, List.set_cons_zero, List.set_cons_succ]
      refine anyH_pureG 21 (d := 63) (op := .move (.tmp 4)) (gd := some (7, true)) (.int .i64 (s : Int)) (by rfl) (fun o ho => by simp only [Region.wanted, ho]; rfl) (by kernel_rfl) (by kernel_rfl) (by kernel_rfl) (fun _ _ _ h => h) (fun o ho W hW => by unfold execOp; simp only [ho]; go_simp) HS.out ?_
      simp only [Act.put, List.setIfInBounds_toArray, List.set_cons_zero, List.set_cons_succ]
      refine anyH_pureG 22 (d := 64) (op := .binOp .eql 3 (.tmp 62) (.tmp 63) 3) (gd := some (7, true)) (.bool true) (by rfl) (fun o ho => by simp only [Region.wanted, ho]; rfl) (by kernel_rfl) (by kernel_rfl) (by kernel_rfl) (fun _ _ _ h => h) (fun o ho W hW => by unfold execOp; simp only [ho]; go_simp) HS.out ?_
      simp only [Act.put, List.setIfInBounds_toArray, List.set_cons_zero, List.set_cons_succ]
      refine anyH_pureG 23 (d := 65) (op := .pick (.tmp 49) (.tmp 64) (.const (.bool false))) (gd := none) (.bool true) (by rfl) (fun o ho => wanted_plain ho _) (by kernel_rfl) (by kernel_rfl) (by kernel_rfl) (fun _ _ _ h => h) (fun o ho W hW => by unfold execOp; simp only [ho]; go_simp) HS.out ?_
      simp only [Act.put, List.setIfInBounds_toArray, List.set_cons_zero, List.set_cons_succ]
      refine anyH_pureG 24 (d := 2) (op := .assign (.tmp 65)) (gd := none) (.bool true) (by rfl) (fun o ho => wanted_plain ho _) (by kernel_rfl) (by kernel_rfl) (by kernel_rfl) (fun _ _ _ h => h) (fun o ho W hW => by unfold execOp; simp only [ho]; go_simp) HS.out ?_
      simp only [Act.put, List.setIfInBounds_toArray, List.set_cons_zero, List.set_cons_succ]
      refine wpAnyH_done (by kernel_rfl) ?_ _
      go_wp2
      go_ret
      exact ⟨rfl, HS.out.2.2⟩
end Go.Proofs.YtealeefkeikcbabDoor
