/-
  The walk over DigestOrders.
-/
import Derived.Test.YtnnofcfagdbafabDoorDaw
import Derived.Test.YtnnofcfagdbafabDoorCmp
import Derived.Test.YtnnofcfagdbafabDoorRgh
namespace Go.Proofs.YtnnofcfagdbafabDoor
open Go.RowKit
set_option linter.unusedVariables false

def D32 (a : List Nat) : Prop := a.length = 32 ∧ ∀ z ∈ a, z < 256
def S3 (w : World) (t : TypeId) (a b c : List Nat) (W : World) : Prop :=
  Brow W w.heap.size t a ∧ Brow W (w.heap.size + 1) t b ∧ Brow W (w.heap.size + 1 + 1) t c ∧ Below w.heap.size w W
def S3f (w : World) (t : TypeId) (a b c : List Nat) (W : World) : Prop :=
  W.rangeAt w.heap.size 0 (cellsOf a) ∧ W.rangeAt (w.heap.size + 1) 0 (cellsOf b) ∧ W.rangeAt (w.heap.size + 1 + 1) 0 (cellsOf c) ∧ S3 w t a b c W
theorem Brow.range {w : World} {g : Nat} {t : TypeId} {zs : List Nat} (h : Brow w g t zs) : w.rangeAt g 0 (cellsOf zs) := fun j v hv => by
  rw [Nat.zero_add, cell_of_row w g j _ t _ h]
  simpa using hv
theorem S3.full {w : World} {t : TypeId} {a b c : List Nat} {W : World} (h : S3 w t a b c W) : S3f w t a b c W := ⟨h.1.range, h.2.1.range, h.2.2.1.range, h⟩
theorem S3.step {w : World} {t : TypeId} {a b c : List Nat} {W W' : World} (hb : Below W.heap.size W W') (h : S3 w t a b c W) : S3 w t a b c W' :=
  ⟨h.1.below hb h.1.lt, h.2.1.below hb h.2.1.lt, h.2.2.1.below hb h.2.2.1.lt, h.2.2.2.trans (hb.mono h.2.2.2.size)⟩
theorem S3.drew {w : World} {t : TypeId} {a b c : List Nat} {W : World} (h : S3 w t a b c W) : S3 w t a b c W.drew := ⟨h.1, h.2.1, h.2.2.1, h.2.2.2.drew⟩
theorem und_a32 : Tryd.prog.underlying 24 = some (.array 32 5) := Tryd.underlying24
theorem info_a32 : (Tryd.prog.info? 24).map (·.size) = some 32 := by kernel_rfl
set_option maxRecDepth 100000 in
set_option maxHeartbeats 1000000 in
theorem orders_c (a b c : List Nat) (w : World) (ha : D32 a) (hb : D32 b) (hc : D32 c) (ht : Tab w) :
    Calls Tryd.prog 9 #[.agg (cellsOf a).toArray, .agg (cellsOf b).toArray, .agg (cellsOf c).toArray] w fun e w' => e = .returned (.bool true) ∧ Below w.heap.size w w' := by
  have HT := Lib.hid ht
  have HPOS := ht.pos
  have HA := Lib.hid ha
  have HB := Lib.hid hb
  have HC := Lib.hid hc
  have hxv := lexc_val a b
  have HY := Lib.hid (show ∀ W : World, Calls Tryd.prog 34 #[.agg (cellsOf b).toArray, .agg (cellsOf c).toArray] W (fun e w' => e = .returned (.int .i64 (lexc b c)) ∧ Below W.heap.size W w') from fun W => cmp_c b c W hb.1 hc.1 hb.2 hc.2)
  have HX := Lib.hid (show ∀ W : World, Calls Tryd.prog 34 #[.agg (cellsOf a).toArray, .agg (cellsOf b).toArray] W (fun e w' => e = .returned (.int .i64 (lexc a b)) ∧ Below W.heap.size W w') from fun W => cmp_c a b W ha.1 hb.1 ha.2 hb.2)
  have HZ := Lib.hid (show ∀ W : World, Calls Tryd.prog 34 #[.agg (cellsOf a).toArray, .agg (cellsOf c).toArray] W (fun e w' => e = .returned (.int .i64 (lexc a c)) ∧ Below W.heap.size W w') from fun W => cmp_c a c W ha.1 hc.1 ha.2 hc.2)
  clear ht ha hb hc
  go_enter Tryd.func9, Tryd.ntmps9
  go_wp2_with fail
  refine gen_code (F := S3 w 24 a b c) ⟨(heap_new3 _ _ _ _).1, (heap_new3 _ _ _ _).2.1, (heap_new3 _ _ _ _).2.2, (((Below.refl _ _).alloc (Nat.le_refl _) _).alloc (by simp) _).alloc (by simp; omega) _⟩ ?_
  intro wA hS
  have HS := Lib.hid hS.drew
  clear hS
  have HIa := Lib.hid (show (Tryd.prog.info? 24).map (·.size) = some (cellsOf a).length from by rw [cellsOf_length, HA.out.1]; exact info_a32)
  have HIb := Lib.hid (show (Tryd.prog.info? 24).map (·.size) = some (cellsOf b).length from by rw [cellsOf_length, HB.out.1]; exact info_a32)
  have HIc := Lib.hid (show (Tryd.prog.info? 24).map (·.size) = some (cellsOf c).length from by rw [cellsOf_length, HC.out.1]; exact info_a32)
  have HLa := Lib.hid (fun W (hW : S3 w 24 a b c W) => run_loadAt_mid W w.heap.size 0 24 (cellsOf a) _ hW.1.range und_a32 rfl HIa.out)
  have HLb := Lib.hid (fun W (hW : S3 w 24 a b c W) => run_loadAt_mid W (w.heap.size + 1) 0 24 (cellsOf b) _ hW.2.1.range und_a32 rfl HIb.out)
  have HLc := Lib.hid (fun W (hW : S3 w 24 a b c W) => run_loadAt_mid W (w.heap.size + 1 + 1) 0 24 (cellsOf c) _ hW.2.2.1.range und_a32 rfl HIc.out)
  refine anyH_begin (S := S3 w 24 a b c) (by kernel_rfl) ?_
  refine anyH_load 0 (d := 11) (ty := 24) (x := .tmp 3) (p := .pointer (some ⟨w.heap.size, 0, none⟩)) (.agg (cellsOf a).toArray) (by rfl) (by kernel_rfl) (by kernel_rfl) (by kernel_rfl) (fun _ _ _ h => h) (by rfl) HLa.out HS.out ?_
  simp only [Act.put, List.setIfInBounds_toArray, List.set_cons_zero, List.set_cons_succ]
  refine anyH_load 1 (d := 12) (ty := 24) (x := .tmp 4) (p := .pointer (some ⟨w.heap.size + 1, 0, none⟩)) (.agg (cellsOf b).toArray) (by rfl) (by kernel_rfl) (by kernel_rfl) (by kernel_rfl) (fun _ _ _ h => h) (by rfl) HLb.out HS.out ?_
  simp only [Act.put, List.setIfInBounds_toArray, List.set_cons_zero, List.set_cons_succ]
  refine anyH_load 3 (d := 14) (ty := 24) (x := .tmp 4) (p := .pointer (some ⟨w.heap.size + 1, 0, none⟩)) (.agg (cellsOf b).toArray) (by rfl) (by kernel_rfl) (by kernel_rfl) (by kernel_rfl) (fun _ _ _ h => h) (by rfl) HLb.out HS.out ?_
  simp only [Act.put, List.setIfInBounds_toArray, List.set_cons_zero, List.set_cons_succ]
  refine anyH_load 4 (d := 15) (ty := 24) (x := .tmp 5) (p := .pointer (some ⟨w.heap.size + 1 + 1, 0, none⟩)) (.agg (cellsOf c).toArray) (by rfl) (by kernel_rfl) (by kernel_rfl) (by kernel_rfl) (fun _ _ _ h => h) (by rfl) HLc.out HS.out ?_
  simp only [Act.put, List.setIfInBounds_toArray, List.set_cons_zero, List.set_cons_succ]
  refine anyH_load 6 (d := 17) (ty := 24) (x := .tmp 3) (p := .pointer (some ⟨w.heap.size, 0, none⟩)) (.agg (cellsOf a).toArray) (by rfl) (by kernel_rfl) (by kernel_rfl) (by kernel_rfl) (fun _ _ _ h => h) (by rfl) HLa.out HS.out ?_
  simp only [Act.put, List.setIfInBounds_toArray, List.set_cons_zero, List.set_cons_succ]
  refine anyH_load 7 (d := 18) (ty := 24) (x := .tmp 5) (p := .pointer (some ⟨w.heap.size + 1 + 1, 0, none⟩)) (.agg (cellsOf c).toArray) (by rfl) (by kernel_rfl) (by kernel_rfl) (by kernel_rfl) (fun _ _ _ h => h) (by rfl) HLc.out HS.out ?_
  simp only [Act.put, List.setIfInBounds_toArray, List.set_cons_zero, List.set_cons_succ]
  refine anyH_call 2 (d := some 13) (f := 34) (xs := #[.tmp 11, .tmp 12]) (ts := #[25, 25]) (vs := #[.agg (cellsOf a).toArray, .agg (cellsOf b).toArray]) (by kernel_rfl) (by rfl) (by go_simp) (by go_simp) (HX.out _) ?_
  rintro e w1 ⟨rfl, hbw1⟩
  refine ⟨_, rfl, HS.out.step hbw1, ?_⟩
  intro hSw1
  have HS := Lib.hid hSw1
  clear hSw1 hbw1
  simp only [Act.put, List.setIfInBounds_toArray, List.set_cons_zero, List.set_cons_succ]
  refine anyH_call 5 (d := some 16) (f := 34) (xs := #[.tmp 14, .tmp 15]) (ts := #[25, 25]) (vs := #[.agg (cellsOf b).toArray, .agg (cellsOf c).toArray]) (by kernel_rfl) (by rfl) (by go_simp) (by go_simp) (HY.out _) ?_
  rintro e w2 ⟨rfl, hbw2⟩
  refine ⟨_, rfl, HS.out.step hbw2, ?_⟩
  intro hSw2
  have HS := Lib.hid hSw2
  clear hSw2 hbw2
  simp only [Act.put, List.setIfInBounds_toArray, List.set_cons_zero, List.set_cons_succ]
  refine anyH_call 8 (d := some 19) (f := 34) (xs := #[.tmp 17, .tmp 18]) (ts := #[25, 25]) (vs := #[.agg (cellsOf a).toArray, .agg (cellsOf c).toArray]) (by kernel_rfl) (by rfl) (by go_simp) (by go_simp) (HZ.out _) ?_
  rintro e w3 ⟨rfl, hbw3⟩
  refine ⟨_, rfl, HS.out.step hbw3, ?_⟩
  intro hSw3
  have HS := Lib.hid hSw3
  clear hSw3 hbw3
  simp only [Act.put, List.setIfInBounds_toArray, List.set_cons_zero, List.set_cons_succ]
  refine anyH_pure 9 (d := 7) (op := .assign (.tmp 13)) (.int .i64 (lexc a b)) (by rfl) (by kernel_rfl) (by kernel_rfl) (by kernel_rfl) (fun _ _ _ h => h) (fun o ho W hW => by unfold execOp; simp only [ho]; go_simp) HS.out ?_
  simp only [Act.put, List.setIfInBounds_toArray, List.set_cons_zero, List.set_cons_succ]
  refine anyH_pure 10 (d := 8) (op := .assign (.tmp 16)) (.int .i64 (lexc b c)) (by rfl) (by kernel_rfl) (by kernel_rfl) (by kernel_rfl) (fun _ _ _ h => h) (fun o ho W hW => by unfold execOp; simp only [ho]; go_simp) HS.out ?_
  simp only [Act.put, List.setIfInBounds_toArray, List.set_cons_zero, List.set_cons_succ]
  refine anyH_pure 11 (d := 9) (op := .assign (.tmp 19)) (.int .i64 (lexc a c)) (by rfl) (by kernel_rfl) (by kernel_rfl) (by kernel_rfl) (fun _ _ _ h => h) (fun o ho W hW => by unfold execOp; simp only [ho]; go_simp) HS.out ?_
  simp only [Act.put, List.setIfInBounds_toArray, List.set_cons_zero, List.set_cons_succ]
  refine wpAnyH_done (by kernel_rfl) ?_ _
  have HTR := Lib.hid (lexc_trans a b c)
  have HZE := Lib.hid (lexc_zero a b)
  have HEQ := Lib.hid (fun W => eq_dig 24 32 und_a32 W a b HA.out.1 HB.out.1 HA.out.2 HB.out.2)
  have HGT := Lib.hid (show Tryd.prog.eqGuardType Tryd.prog.depth 24 = false by kernel_rfl)
  obtain ⟨y, hy⟩ : ∃ z, z = lexc b c := ⟨_, rfl⟩
  obtain ⟨z, hz⟩ : ∃ z, z = lexc a c := ⟨_, rfl⟩
  rw [← hy, ← hz] at HTR
  rw [← hy, ← hz]
  clear hy hz HX HY HZ HLc
  rcases hxv with hx | hx | hx
  · rw [hx] at HTR HZE ⊢
    have HBab := Lib.hid (show ∀ W : World, Calls Tryd.prog 35 #[.agg (cellsOf a).toArray, .agg (cellsOf b).toArray] W (fun e w' => e = .returned (.bool true) ∧ Below W.heap.size W w') from fun W => (below_c a b W HA.out.1 HB.out.1 HA.out.2 HB.out.2).mono fun e w' ⟨h1, h2⟩ => ⟨by rw [h1, hx]; rfl, h2⟩)
    have HBba := Lib.hid (show ∀ W : World, Calls Tryd.prog 35 #[.agg (cellsOf b).toArray, .agg (cellsOf a).toArray] W (fun e w' => e = .returned (.bool false) ∧ Below W.heap.size W w') from fun W => (below_c b a W HB.out.1 HA.out.1 HB.out.2 HA.out.2).mono fun e w' ⟨h1, h2⟩ => ⟨by rw [h1, lexc_anti, hx]; try rfl, h2⟩)
    have HCba := Lib.hid (show ∀ W : World, Calls Tryd.prog 34 #[.agg (cellsOf b).toArray, .agg (cellsOf a).toArray] W (fun e w' => e = .returned (.int .i64 (1)) ∧ Below W.heap.size W w') from fun W => (cmp_c b a W HB.out.1 HA.out.1 HB.out.2 HA.out.2).mono fun e w' ⟨h1, h2⟩ => ⟨by rw [h1, lexc_anti, hx]; try rfl, h2⟩)
    have HCaa := Lib.hid (show ∀ W : World, Calls Tryd.prog 34 #[.agg (cellsOf a).toArray, .agg (cellsOf a).toArray] W (fun e w' => e = .returned (.int .i64 0) ∧ Below W.heap.size W w') from fun W => (cmp_c a a W HA.out.1 HA.out.1 HA.out.2 HA.out.2).mono fun e w' ⟨h1, h2⟩ => ⟨by rw [h1, lexc_self], h2⟩)
    have hne : decide (a = b) = false := by have := HZE.out; simp at this; simp [this]
    rw [hne] at HEQ
    clear hx hne HZE
    by_cases hy0 : y > 0
    · clear HTR
      go_wp2_with (first | (refine wpList_loadg 24 _ (by rfl) (by rfl) (.pointer (some ⟨w.heap.size, 0, none⟩)) (by rfl) (.agg (cellsOf a).toArray) (HLa.out _ HS.out) ?_) | (refine wpList_loadg 24 _ (by rfl) (by rfl) (.pointer (some ⟨w.heap.size + 1, 0, none⟩)) (by rfl) (.agg (cellsOf b).toArray) (HLb.out _ HS.out) ?_) | (go_at_call 35; with_reducible refine (HBab.out _).mono ?_; rintro e wb ⟨rfl, hbb⟩; have HS := Lib.hid (HS.out.step hbb); clear hbb) | (go_at_call 35; with_reducible refine (HBba.out _).mono ?_; rintro e wb ⟨rfl, hbb⟩; have HS := Lib.hid (HS.out.step hbb); clear hbb) | (go_at_call 34; with_reducible refine (HCba.out _).mono ?_; rintro e wb ⟨rfl, hbb⟩; have HS := Lib.hid (HS.out.step hbb); clear hbb) | (go_at_call 34; with_reducible refine (HCaa.out _).mono ?_; rintro e wb ⟨rfl, hbb⟩; have HS := Lib.hid (HS.out.step hbb); clear hbb) | (go_at_call 11; refine (awake2_c _ (HT.out.below HS.out.2.2.2 HPOS)).mono ?_; rintro e wb ⟨rfl, hbb⟩; have HS := Lib.hid (HS.out.step hbb); clear hbb) | (refine wpList_eqg 24 _ _ _ (by rfl) (by rfl) (cellsOf a).toArray (cellsOf b).toArray (by rfl) (by rfl) HGT.out _ (HEQ.out _) ?_))
      go_ret
      exact ⟨rfl, HS.out.2.2.2⟩
    · have hz0 : z ≤ 0 := HTR.out (by omega) (by omega)
      clear HTR
      go_wp2_with (first | (refine wpList_loadg 24 _ (by rfl) (by rfl) (.pointer (some ⟨w.heap.size, 0, none⟩)) (by rfl) (.agg (cellsOf a).toArray) (HLa.out _ HS.out) ?_) | (refine wpList_loadg 24 _ (by rfl) (by rfl) (.pointer (some ⟨w.heap.size + 1, 0, none⟩)) (by rfl) (.agg (cellsOf b).toArray) (HLb.out _ HS.out) ?_) | (go_at_call 35; with_reducible refine (HBab.out _).mono ?_; rintro e wb ⟨rfl, hbb⟩; have HS := Lib.hid (HS.out.step hbb); clear hbb) | (go_at_call 35; with_reducible refine (HBba.out _).mono ?_; rintro e wb ⟨rfl, hbb⟩; have HS := Lib.hid (HS.out.step hbb); clear hbb) | (go_at_call 34; with_reducible refine (HCba.out _).mono ?_; rintro e wb ⟨rfl, hbb⟩; have HS := Lib.hid (HS.out.step hbb); clear hbb) | (go_at_call 34; with_reducible refine (HCaa.out _).mono ?_; rintro e wb ⟨rfl, hbb⟩; have HS := Lib.hid (HS.out.step hbb); clear hbb) | (go_at_call 11; refine (awake2_c _ (HT.out.below HS.out.2.2.2 HPOS)).mono ?_; rintro e wb ⟨rfl, hbb⟩; have HS := Lib.hid (HS.out.step hbb); clear hbb) | (refine wpList_eqg 24 _ _ _ (by rfl) (by rfl) (cellsOf a).toArray (cellsOf b).toArray (by rfl) (by rfl) HGT.out _ (HEQ.out _) ?_))
      go_ret
      exact ⟨rfl, HS.out.2.2.2⟩
  · rw [hx] at HTR HZE ⊢
    have HBab := Lib.hid (show ∀ W : World, Calls Tryd.prog 35 #[.agg (cellsOf a).toArray, .agg (cellsOf b).toArray] W (fun e w' => e = .returned (.bool false) ∧ Below W.heap.size W w') from fun W => (below_c a b W HA.out.1 HB.out.1 HA.out.2 HB.out.2).mono fun e w' ⟨h1, h2⟩ => ⟨by rw [h1, hx]; rfl, h2⟩)
    have HBba := Lib.hid (show ∀ W : World, Calls Tryd.prog 35 #[.agg (cellsOf b).toArray, .agg (cellsOf a).toArray] W (fun e w' => e = .returned (.bool false) ∧ Below W.heap.size W w') from fun W => (below_c b a W HB.out.1 HA.out.1 HB.out.2 HA.out.2).mono fun e w' ⟨h1, h2⟩ => ⟨by rw [h1, lexc_anti, hx]; try rfl, h2⟩)
    have HCba := Lib.hid (show ∀ W : World, Calls Tryd.prog 34 #[.agg (cellsOf b).toArray, .agg (cellsOf a).toArray] W (fun e w' => e = .returned (.int .i64 (0)) ∧ Below W.heap.size W w') from fun W => (cmp_c b a W HB.out.1 HA.out.1 HB.out.2 HA.out.2).mono fun e w' ⟨h1, h2⟩ => ⟨by rw [h1, lexc_anti, hx]; try rfl, h2⟩)
    have HCaa := Lib.hid (show ∀ W : World, Calls Tryd.prog 34 #[.agg (cellsOf a).toArray, .agg (cellsOf a).toArray] W (fun e w' => e = .returned (.int .i64 0) ∧ Below W.heap.size W w') from fun W => (cmp_c a a W HA.out.1 HA.out.1 HA.out.2 HA.out.2).mono fun e w' ⟨h1, h2⟩ => ⟨by rw [h1, lexc_self], h2⟩)
    have hne : decide (a = b) = true := by have := HZE.out; simp at this; simp [this]
    rw [hne] at HEQ
    clear hx hne HZE
    by_cases hy0 : y > 0
    · clear HTR
      go_wp2_with (first | (refine wpList_loadg 24 _ (by rfl) (by rfl) (.pointer (some ⟨w.heap.size, 0, none⟩)) (by rfl) (.agg (cellsOf a).toArray) (HLa.out _ HS.out) ?_) | (refine wpList_loadg 24 _ (by rfl) (by rfl) (.pointer (some ⟨w.heap.size + 1, 0, none⟩)) (by rfl) (.agg (cellsOf b).toArray) (HLb.out _ HS.out) ?_) | (go_at_call 35; with_reducible refine (HBab.out _).mono ?_; rintro e wb ⟨rfl, hbb⟩; have HS := Lib.hid (HS.out.step hbb); clear hbb) | (go_at_call 35; with_reducible refine (HBba.out _).mono ?_; rintro e wb ⟨rfl, hbb⟩; have HS := Lib.hid (HS.out.step hbb); clear hbb) | (go_at_call 34; with_reducible refine (HCba.out _).mono ?_; rintro e wb ⟨rfl, hbb⟩; have HS := Lib.hid (HS.out.step hbb); clear hbb) | (go_at_call 34; with_reducible refine (HCaa.out _).mono ?_; rintro e wb ⟨rfl, hbb⟩; have HS := Lib.hid (HS.out.step hbb); clear hbb) | (go_at_call 11; refine (awake2_c _ (HT.out.below HS.out.2.2.2 HPOS)).mono ?_; rintro e wb ⟨rfl, hbb⟩; have HS := Lib.hid (HS.out.step hbb); clear hbb) | (refine wpList_eqg 24 _ _ _ (by rfl) (by rfl) (cellsOf a).toArray (cellsOf b).toArray (by rfl) (by rfl) HGT.out _ (HEQ.out _) ?_))
      go_ret
      exact ⟨rfl, HS.out.2.2.2⟩
    · have hz0 : z ≤ 0 := HTR.out (by omega) (by omega)
      clear HTR
      go_wp2_with (first | (refine wpList_loadg 24 _ (by rfl) (by rfl) (.pointer (some ⟨w.heap.size, 0, none⟩)) (by rfl) (.agg (cellsOf a).toArray) (HLa.out _ HS.out) ?_) | (refine wpList_loadg 24 _ (by rfl) (by rfl) (.pointer (some ⟨w.heap.size + 1, 0, none⟩)) (by rfl) (.agg (cellsOf b).toArray) (HLb.out _ HS.out) ?_) | (go_at_call 35; with_reducible refine (HBab.out _).mono ?_; rintro e wb ⟨rfl, hbb⟩; have HS := Lib.hid (HS.out.step hbb); clear hbb) | (go_at_call 35; with_reducible refine (HBba.out _).mono ?_; rintro e wb ⟨rfl, hbb⟩; have HS := Lib.hid (HS.out.step hbb); clear hbb) | (go_at_call 34; with_reducible refine (HCba.out _).mono ?_; rintro e wb ⟨rfl, hbb⟩; have HS := Lib.hid (HS.out.step hbb); clear hbb) | (go_at_call 34; with_reducible refine (HCaa.out _).mono ?_; rintro e wb ⟨rfl, hbb⟩; have HS := Lib.hid (HS.out.step hbb); clear hbb) | (go_at_call 11; refine (awake2_c _ (HT.out.below HS.out.2.2.2 HPOS)).mono ?_; rintro e wb ⟨rfl, hbb⟩; have HS := Lib.hid (HS.out.step hbb); clear hbb) | (refine wpList_eqg 24 _ _ _ (by rfl) (by rfl) (cellsOf a).toArray (cellsOf b).toArray (by rfl) (by rfl) HGT.out _ (HEQ.out _) ?_))
      go_ret
      exact ⟨rfl, HS.out.2.2.2⟩
  · rw [hx] at HTR HZE ⊢
    have HBab := Lib.hid (show ∀ W : World, Calls Tryd.prog 35 #[.agg (cellsOf a).toArray, .agg (cellsOf b).toArray] W (fun e w' => e = .returned (.bool false) ∧ Below W.heap.size W w') from fun W => (below_c a b W HA.out.1 HB.out.1 HA.out.2 HB.out.2).mono fun e w' ⟨h1, h2⟩ => ⟨by rw [h1, hx]; rfl, h2⟩)
    have HBba := Lib.hid (show ∀ W : World, Calls Tryd.prog 35 #[.agg (cellsOf b).toArray, .agg (cellsOf a).toArray] W (fun e w' => e = .returned (.bool true) ∧ Below W.heap.size W w') from fun W => (below_c b a W HB.out.1 HA.out.1 HB.out.2 HA.out.2).mono fun e w' ⟨h1, h2⟩ => ⟨by rw [h1, lexc_anti, hx]; try rfl, h2⟩)
    have HCba := Lib.hid (show ∀ W : World, Calls Tryd.prog 34 #[.agg (cellsOf b).toArray, .agg (cellsOf a).toArray] W (fun e w' => e = .returned (.int .i64 (-1)) ∧ Below W.heap.size W w') from fun W => (cmp_c b a W HB.out.1 HA.out.1 HB.out.2 HA.out.2).mono fun e w' ⟨h1, h2⟩ => ⟨by rw [h1, lexc_anti, hx]; try rfl, h2⟩)
    have HCaa := Lib.hid (show ∀ W : World, Calls Tryd.prog 34 #[.agg (cellsOf a).toArray, .agg (cellsOf a).toArray] W (fun e w' => e = .returned (.int .i64 0) ∧ Below W.heap.size W w') from fun W => (cmp_c a a W HA.out.1 HA.out.1 HA.out.2 HA.out.2).mono fun e w' ⟨h1, h2⟩ => ⟨by rw [h1, lexc_self], h2⟩)
    have hne : decide (a = b) = false := by have := HZE.out; simp at this; simp [this]
    rw [hne] at HEQ
    clear hx hne HZE HTR
    go_wp2_with (first | (refine wpList_loadg 24 _ (by rfl) (by rfl) (.pointer (some ⟨w.heap.size, 0, none⟩)) (by rfl) (.agg (cellsOf a).toArray) (HLa.out _ HS.out) ?_) | (refine wpList_loadg 24 _ (by rfl) (by rfl) (.pointer (some ⟨w.heap.size + 1, 0, none⟩)) (by rfl) (.agg (cellsOf b).toArray) (HLb.out _ HS.out) ?_) | (go_at_call 35; with_reducible refine (HBab.out _).mono ?_; rintro e wb ⟨rfl, hbb⟩; have HS := Lib.hid (HS.out.step hbb); clear hbb) | (go_at_call 35; with_reducible refine (HBba.out _).mono ?_; rintro e wb ⟨rfl, hbb⟩; have HS := Lib.hid (HS.out.step hbb); clear hbb) | (go_at_call 34; with_reducible refine (HCba.out _).mono ?_; rintro e wb ⟨rfl, hbb⟩; have HS := Lib.hid (HS.out.step hbb); clear hbb) | (go_at_call 34; with_reducible refine (HCaa.out _).mono ?_; rintro e wb ⟨rfl, hbb⟩; have HS := Lib.hid (HS.out.step hbb); clear hbb) | (go_at_call 11; refine (awake2_c _ (HT.out.below HS.out.2.2.2 HPOS)).mono ?_; rintro e wb ⟨rfl, hbb⟩; have HS := Lib.hid (HS.out.step hbb); clear hbb) | (refine wpList_eqg 24 _ _ _ (by rfl) (by rfl) (cellsOf a).toArray (cellsOf b).toArray (by rfl) (by rfl) HGT.out _ (HEQ.out _) ?_))
    go_ret
    exact ⟨rfl, HS.out.2.2.2⟩
end Go.Proofs.YtnnofcfagdbafabDoor
