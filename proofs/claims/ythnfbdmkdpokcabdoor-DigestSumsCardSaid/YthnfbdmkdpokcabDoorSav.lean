/-
  The walk over the state's Save; a nil state's Write, Sum and Save.
-/
import Derived.Test.YthnfbdmkdpokcabDoorRgh
import Derived.Test.YthnfbdmkdpokcabDoorDsm
namespace Go.Proofs.YthnfbdmkdpokcabDoor
open Go.RowKit
set_option linter.unusedVariables false
section
variable {ops : Array Oper} {Q : Exit → Act → World → Prop} {md : Region.Mode} {S : World → Prop}
/-- append(s, p...) as one operation -/
theorem op_cat {i : Nat} {dst : Option Tmp} {s x : Operand} {a : Act} {w : World} {K : Act → World → Prop}
    (hi : (ops[i]?.map fun o => (o.dst, o.op, o.guard)) = some (dst, Op.call { callee := .builtin .append, args := #[s, x], argTypes := #[22, 22] }, none))
    (B : Nat) (v : Value) (zs ys : List Nat) (hs : a.eval s = v) (hown : Own w B v zs) (hB : B ≤ w.heap.size) (ad : Addr) (len cap : Nat) (hx : a.eval x = .slice (some ad) len cap) (hrd : Rd w (some ad) len ys)
    (hlen : zs.length + ys.length ≤ 140737488355328) (h : ∀ v' w', Own w' B v' (zs ++ ys) → Below B w w' → K (a.put dst v') w') : wpOp Tryd.prog ops Q i K a w := by
  obtain ⟨i0, hi0, hz0, hz1, hz2⟩ := info_parts byteInfo
  obtain ⟨hl, hz, hc⟩ := hrd
  cases ho : ops[i]? with
  | none => simp [ho] at hi
  | some o =>
    simp only [ho, Option.map_some, Option.some.injEq, Prod.mk.injEq] at hi
    obtain ⟨g1, g2, g3⟩ := hi
    unfold wpOp
    simp only [ho, wanted_plain g3, if_true]
    refine .inl ?_
    refine wp_append_own w s x 22 g2 B 5 i0 (.int .u8 0) 1 1 Tryd.underlying22 hi0 hz0 hz1 hz2 rfl (by decide) v zs.length (cellsOf zs) hs hown ad len cap (cellsOf ys) hx (by rw [cellsOf_length, hl, Nat.mul_one]) ?_ (cellsOf_one _) (by unfold maxLen; omega) (by omega) hB ?_
    · intro j u hj
      have hjl : j < ys.length := by
        have := (List.getElem?_eq_some_iff.1 hj).1
        rwa [cellsOf_length] at this
      rw [cellsOf_get ys j hjl] at hj
      cases hj
      rcases hc with h0 | ⟨b, off, hb, _, hcell⟩
      · omega
      · cases hb
        rw [Addr.add_mid]
        exact hcell j (by omega)
    · intro v' w' h1 h2 _
      rw [g1]
      refine h v' w' ?_ ?_
      · unfold Own
        rw [List.length_append, cellsOf_append, hl]
        exact h1
      · exact (Below.refl B w).grown h2 hB fun k hk => (hown.lt k hk).1
theorem anyH_cat (i : Nat) {dst : Option Tmp} {s x : Operand} {fuel : Nat} {listed : Array Bool} {a : Act} {w : World}
    (h0 : Region.ready md ops listed = [i])
    (hi : (ops[i]?.map fun o => (o.dst, o.op, o.guard)) = some (dst, Op.call { callee := .builtin .append, args := #[s, x], argTypes := #[22, 22] }, none))
    (B : Nat) (v : Value) (zs ys : List Nat) (hs : a.eval s = v) (hown : Own w B v zs) (hB : B ≤ w.heap.size) (ad : Addr) (len cap : Nat) (hx : a.eval x = .slice (some ad) len cap) (hrd : Rd w (some ad) len ys)
    (hlen : zs.length + ys.length ≤ 140737488355328) (h : ∀ v' w', Own w' B v' (zs ++ ys) → Below B w w' → S w' ∧ (S w' → wpAnyH Tryd.prog md ops Q S fuel (listed.setIfInBounds i true) (a.put dst v') w')) :
    wpAnyH Tryd.prog md ops Q S (fuel + 1) listed a w := by
  refine wpAnyH_all h0 (by simp) ?_
  intro k hk
  simp only [List.mem_cons, List.not_mem_nil, or_false] at hk
  subst hk
  refine op_cat hi B v zs ys hs hown hB ad len cap hx hrd hlen fun v' w' h1 h2 => ?_
  obtain ⟨h3, h4⟩ := h v' w' h1 h2
  exact ⟨h3, h4 h3⟩
end
def SV (w : World) (g : Nat) (hs bs : List Nat) (n : Nat) (W : World) : Prop := St W g hs bs n ∧ Below w.heap.size w W
theorem SV.step {w : World} {g : Nat} {hs bs : List Nat} {n : Nat} {W W' : World} (h : SV w g hs bs n W) {B : Nat} (hb : Below B W W') (hB : w.heap.size ≤ B) (hg : g < w.heap.size) : SV w g hs bs n W' :=
  ⟨h.1.below hb (by omega), h.2.trans (hb.mono hB)⟩
/-- the bytes of a state -/
def saved (hs tail : List Nat) (n : Nat) : List Nat := (Sha.bytesOf hs ++ Numm.put n 8) ++ tail
set_option maxRecDepth 100000 in
theorem save_nil (w : World) : Calls Tryd.prog 18 #[.pointer none] w fun e w' => e = .returned (.slice none 0 0) ∧ w = w' := by
  go_enter Tryd.func18, Tryd.ntmps18
  go_wp2
  go_ret
  exact ⟨rfl, rfl⟩
set_option maxRecDepth 100000 in
theorem write_nil (w : World) (v : Value) : Calls Tryd.prog 16 #[.pointer none, v] w fun e w' => e = .returned (.int .i64 2) ∧ w = w' := by
  go_enter Tryd.func16, Tryd.ntmps16
  go_wp2
  go_ret
  exact ⟨rfl, rfl⟩
set_option maxRecDepth 100000 in
set_option maxHeartbeats 1000000 in
theorem ssum_nil (w : World) : Calls Tryd.prog 20 #[.pointer none] w (DigRet zs32 w) := by
  have HI32 := Lib.hid (show (Tryd.prog.info? 25).map (·.size) = some (cellsOf zs32).toArray.size from by rw [cellsOf_size, zs32_len]; exact info_dig)
  have HN := Lib.hid (show ∀ X : Obj, (w.alloc X).heap[w.heap.size]? = some X from fun X => heap_new w X)
  go_enter Tryd.func20, Tryd.ntmps20
  go_wp2_with (first | (refine wpList_store_row (by rfl) 25 _ _ (by rfl) w.heap.size (cellsOf zs32).toArray (by rfl) (by rfl) 25 (cellsOf zs32).toArray (by exact HN.out _) HI32.out rfl (cellsOf_all _) ?_))
  refine bodyPost_ret (results_cell_row (by rfl) _ _ w.heap.size _ (cellsOf zs32).toArray (0, 0) _ (by rfl) (setRow_heap _ _ _ _ _ _ (HN.out _)) Tryd.underlying25 (by rfl) HI32.out) ?_ ?_
  · rfl
  · exact ⟨rfl, ((Below.refl _ _).alloc (Nat.le_refl _) _).setRow (Nat.le_refl _) _⟩
set_option maxRecDepth 100000 in
set_option maxHeartbeats 1000000 in
theorem save_c (w : World) (g : Nat) (hs tail : List Nat) (n : Nat) (h : StM w g hs tail n) :
    Calls Tryd.prog 18 #[.pointer (some ⟨g, 0, none⟩)] w (RetB w.heap.size w (saved hs tail n)) := by
  obtain ⟨bs, hst, rfl⟩ := h
  have HST := Lib.hid hst
  have hg := hst.lt
  have h8 := Lib.hid hst.w8
  have hnn := hst.nn
  clear hst
  go_enter Tryd.func18, Tryd.ntmps18
  go_wp2_with fail
  have hS : SV w g hs bs n w := ⟨HST.out, Below.refl _ _⟩
  have HS := Lib.hid (show SV w g hs bs n w.drew from ⟨HST.out.drew, (Below.refl _ _).drew⟩)
  clear hS
  have HI8 := Lib.hid (show (Tryd.prog.info? 67).map (·.size) = some (wordsOf hs).length from by rw [wordsOf_length, h8.out.1]; exact info_words)
  have HL8 := Lib.hid (fun W (hW : SV w g hs bs n W) => run_loadAt_mid W g 0 67 (wordsOf hs) _ hW.1.words Tryd.underlying67 rfl HI8.out)
  have HLN := Lib.hid (show ∀ W, SV w g hs bs n W → (Instr.loadAt 3 (.pointer (some ⟨g, 72, none⟩))).run Tryd.prog W = .ok (.int .i64 (n : Int)) W from fun W hW => by
    have hc := hW.1.size
    go_simp)
  refine anyH_begin (S := SV w g hs bs n) (by kernel_rfl) ?_
  refine anyH_pure 0 (d := 6) (op := .move (.tmp 0)) (.pointer (some ⟨g, 0, none⟩)) (by rfl) (by kernel_rfl) (by kernel_rfl) (by kernel_rfl) (fun _ _ _ h => h) (fun o ho W hW => by unfold execOp; simp only [ho]; go_simp) HS.out ?_
  simp only [Act.put, List.setIfInBounds_toArray, List.set_cons_zero, List.set_cons_succ]
  refine anyH_pure 1 (d := 7) (op := .nilCheck (.tmp 6)) (.pointer (some ⟨g, 0, none⟩)) (by rfl) (by kernel_rfl) (by kernel_rfl) (by kernel_rfl) (fun _ _ _ h => h) (fun o ho W hW => by unfold execOp; simp only [ho]; go_simp) HS.out ?_
  simp only [Act.put, List.setIfInBounds_toArray, List.set_cons_zero, List.set_cons_succ]
  refine anyH_pure 2 (d := 8) (op := .fieldAddr 71 (.tmp 7) 0) (.pointer (some ⟨g, 0, none⟩)) (by rfl) (by kernel_rfl) (by kernel_rfl) (by kernel_rfl) (fun _ _ _ h => h) (fun o ho W hW => by unfold execOp; simp only [ho]; go_simp) HS.out ?_
  simp only [Act.put, List.setIfInBounds_toArray, List.set_cons_zero, List.set_cons_succ]
  refine anyH_pure 5 (d := 11) (op := .move (.tmp 0)) (.pointer (some ⟨g, 0, none⟩)) (by rfl) (by kernel_rfl) (by kernel_rfl) (by kernel_rfl) (fun _ _ _ h => h) (fun o ho W hW => by unfold execOp; simp only [ho]; go_simp) HS.out ?_
  simp only [Act.put, List.setIfInBounds_toArray, List.set_cons_zero, List.set_cons_succ]
  refine anyH_pure 6 (d := 12) (op := .nilCheck (.tmp 11)) (.pointer (some ⟨g, 0, none⟩)) (by rfl) (by kernel_rfl) (by kernel_rfl) (by kernel_rfl) (fun _ _ _ h => h) (fun o ho W hW => by unfold execOp; simp only [ho]; go_simp) HS.out ?_
  simp only [Act.put, List.setIfInBounds_toArray, List.set_cons_zero, List.set_cons_succ]
  refine anyH_pure 7 (d := 13) (op := .fieldAddr 71 (.tmp 12) 2) (.pointer (some ⟨g, 72, none⟩)) (by rfl) (by kernel_rfl) (by kernel_rfl) (by kernel_rfl) (fun _ _ _ h => h) (fun o ho W hW => by unfold execOp; simp only [ho]; go_simp) HS.out ?_
  simp only [Act.put, List.setIfInBounds_toArray, List.set_cons_zero, List.set_cons_succ]
  refine anyH_load 3 (d := 9) (ty := 67) (x := .tmp 8) (p := .pointer (some ⟨g, 0, none⟩)) (.agg (wordsOf hs).toArray) (by rfl) (by kernel_rfl) (by kernel_rfl) (by kernel_rfl) (fun _ _ _ h => h) (by rfl) HL8.out HS.out ?_
  simp only [Act.put, List.setIfInBounds_toArray, List.set_cons_zero, List.set_cons_succ]
  refine anyH_load 8 (d := 14) (ty := 3) (x := .tmp 13) (p := .pointer (some ⟨g, 72, none⟩)) (.int .i64 (n : Int)) (by rfl) (by kernel_rfl) (by kernel_rfl) (by kernel_rfl) (fun _ _ _ h => h) (by rfl) HLN.out HS.out ?_
  simp only [Act.put, List.setIfInBounds_toArray, List.set_cons_zero, List.set_cons_succ]
  have hcv : IntKind.u64.wrap (n : Int) = (n : Int) := by rw [IntKind.wrap_u64]; omega
  refine anyH_pure 9 (d := 15) (op := .convert 3 52 (.tmp 14)) (.int .u64 (n : Int)) (by rfl) (by kernel_rfl) (by kernel_rfl) (by kernel_rfl) (fun _ _ _ h => h) (fun o ho W hW => by unfold execOp; simp only [ho]; go_simp) HS.out ?_
  simp only [Act.put, List.setIfInBounds_toArray, List.set_cons_zero, List.set_cons_succ]
  have HSPR := Lib.hid (spread_c hs w.drew h8.out)
  refine anyH_call 4 (d := some 10) (f := 34) (xs := #[.tmp 9]) (ts := #[67]) (vs := #[.agg (wordsOf hs).toArray]) (by kernel_rfl) (by rfl) (by go_simp) (by go_simp) HSPR.out ?_
  rintro e1 w1 ⟨v1, rfl, ho1, hb1⟩
  refine ⟨_, rfl, HS.out.step hb1 (by simp) hg, fun hS1 => ?_⟩
  have HS1 := Lib.hid hS1
  have HO1 := Lib.hid ho1
  have hz1 : w.heap.size ≤ w1.heap.size := by have := hb1.size; simpa using this
  clear hS1 ho1 hb1 HS HSPR
  simp only [Act.put, List.setIfInBounds_toArray, List.set_cons_zero, List.set_cons_succ]
  have HPUT := Lib.hid ((put_in n 8 w1 (by omega) (by omega)).mono (RetB.form (Numm.put_byte _ _)))
  refine anyH_call 10 (d := some 16) (f := 35) (xs := #[.tmp 15, .const (.int .i64 8)]) (ts := #[52, 3]) (vs := #[.int .u64 (n : Int), .int .i64 8]) (by kernel_rfl) (by rfl) (by go_simp) (by go_simp) HPUT.out ?_
  rintro e2 w2 ⟨a2, L2, c2, rfl, hl2, hlc2, hc2, hn2, hr2, ho2, hb2⟩
  obtain ⟨ad, rfl⟩ : ∃ ad, a2 = some ad := by
    rcases hr2.2.2 with h0 | ⟨b, off, h, _⟩
    · rw [Numm.put_len] at hl2; omega
    · exact ⟨_, h⟩
  refine ⟨_, rfl, HS1.out.step hb2 hz1 hg, fun hS2 => ?_⟩
  have HS2 := Lib.hid hS2
  have HO2 := Lib.hid (HO1.out.keep hb2)
  have HR2 := Lib.hid hr2
  have hz2 : w.heap.size ≤ w2.heap.size := by have := hb2.size; omega
  have hlen : (Sha.bytesOf hs).length + (Numm.put n 8).length ≤ 140737488355328 := by rw [bytesOf_len, h8.out.1, Numm.put_len]; omega
  have HLEN := Lib.hid hlen
  clear hS2 hr2 hb2 ho2 hl2 hlc2 hc2 hn2 HS1 HO1 HPUT hlen
  simp only [Act.put, List.setIfInBounds_toArray, List.set_cons_zero, List.set_cons_succ]
  refine anyH_cat 11 (dst := some 17) (s := .tmp 10) (x := .tmp 16) (by kernel_rfl) (by rfl) w.heap.size v1 (Sha.bytesOf hs) (Numm.put n 8) (by rfl) HO2.out hz2 ad L2 c2 (by rfl) HR2.out HLEN.out fun v3 w3 ho3 hb3 => ?_
  refine ⟨HS2.out.step hb3 (Nat.le_refl _) hg, fun hS3 => ?_⟩
  have HS := Lib.hid hS3
  have HO3 := Lib.hid ho3
  have hz3 : w.heap.size ≤ w3.heap.size := by have := hb3.size; omega
  clear hS3 ho3 hb3 HS2 HO2
  simp only [Act.put, List.setIfInBounds_toArray, List.set_cons_zero, List.set_cons_succ]
  refine anyH_pure 12 (d := 3) (op := .assign (.tmp 17)) (v3) (by rfl) (by kernel_rfl) (by kernel_rfl) (by kernel_rfl) (fun _ _ _ h => h) (fun o ho W hW => by unfold execOp; simp only [ho]; go_simp) HS.out ?_
  simp only [Act.put, List.setIfInBounds_toArray, List.set_cons_zero, List.set_cons_succ]
  refine wpAnyH_done (by kernel_rfl) ?_ _
  obtain ⟨r, hr⟩ : ∃ z, z = n % 64 := ⟨_, rfl⟩
  obtain ⟨Z, hZ⟩ : ∃ z, z = saved hs (bs.take (n % 64)) n := ⟨_, rfl⟩
  have HZf := Lib.hid hZ.symm
  rw [← hr] at hZ
  have hr64 : r < 64 := by omega
  have HZ := Lib.hid hZ
  clear hZ
  have HWT := Lib.hid (show ∀ W, St W g hs bs n → Calls Tryd.prog 30 #[.pointer (some ⟨g, 0, none⟩)] W (fun e w' => e = .returned (.int .i64 (r : Int)) ∧ w' = W) from fun W hW => (waiting_c W g hs bs n hW).mono fun e w' ⟨h1, h2⟩ => ⟨by rw [h1, hr], h2.symm⟩)
  have HBT := fun W => run_blockTo W g 8 r (by omega)
  have HRD := HS.out.1.rdAll.take r (by omega)
  have HRD := Lib.hid HRD
  have HLEN2 := Lib.hid (show (Sha.bytesOf hs ++ Numm.put n 8).length + (bs.take r).length ≤ 140737488355328 from by rw [List.length_append, bytesOf_len, h8.out.1, Numm.put_len, List.length_take]; omega)
  clear hr hcv
  go_wp2_with fail
  refine wp_region_still_tail 7 (by kernel_rfl) (by kernel_rfl) ?_
  simp only [List.take_succ_cons, List.take_zero, List.drop_succ_cons, List.drop_zero]
  still_step
  still_step
  still_step
  still_step
  still_step
  still_call (HWT.out _ HS.out.1.drew)
  still_step
  refine wpStill_nil ?_
  change wpList _ _ _ _ _ w3.drew
  clear HBT
  go_wp2_with (refine wpList_cat rfl _ _ rfl w.heap.size v3 (Sha.bytesOf hs ++ Numm.put n 8) (bs.take r) (by rfl) HO3.out hz3 (some ⟨g, 8, none⟩) r 64 (by rfl) HRD.out (fun h => by cases h) HLEN2.out ?_)
  intro v4 w4 ho4 hb4
  have HO4 := Lib.hid (show Own w4 w.heap.size v4 Z from by rw [HZ.out]; unfold saved; rw [List.append_assoc]; exact ho4)
  have HB4 := Lib.hid (HS.out.2.drew.trans hb4)
  clear ho4 hb4
  go_wp2
  go_ret
  refine ⟨_, rfl, ?_, HB4.out⟩
  rw [HZf.out]
  exact HO4.out
end Go.Proofs.YthnfbdmkdpokcabDoor
