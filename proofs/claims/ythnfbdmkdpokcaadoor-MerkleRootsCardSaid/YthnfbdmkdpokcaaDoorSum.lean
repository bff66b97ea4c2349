/-
  The walk over the state's Sum.
-/
import Derived.Test.YthnfbdmkdpokcaaDoorWrt
import Derived.Test.YthnfbdmkdpokcaaDoorRgc
import Derived.Test.YthnfbdmkdpokcaaDoorPad
namespace Go.Proofs.YthnfbdmkdpokcaaDoor
open Go.RowKit
set_option linter.unusedVariables false

def DigRet (d : List Nat) (w : World) (e : Ending) (w' : World) : Prop := e = .returned (.agg (cellsOf d).toArray) ∧ Below w.heap.size w w'
theorem gen_code {P : Program} {c : Code} {Q : Exit → Act → World → Prop} {a : Act} {W : World} {F : World → Prop} (h : F W) (k : ∀ w, F w → c.wp P Q a w) : c.wp P Q a W := k W h
theorem heap_new2 (w : World) (o1 o2 : Obj) : ((w.alloc o1).alloc o2).heap[w.heap.size]? = some o1 ∧ ((w.alloc o1).alloc o2).heap[w.heap.size + 1]? = some o2 := by
  refine ⟨?_, ?_⟩
  · rw [Below.heap_alloc _ _ _ (by simp)]; exact heap_new w o1
  · have := heap_new (w.alloc o1) o2
    simpa using this
theorem St.rdAll {w : World} {g : Nat} {hs bs : List Nat} {n : Nat} (h : St w g hs bs n) : Rd w (some ⟨g, 8, none⟩) 64 bs := by
  have h1 := h.rd 0 64 (by omega)
  rw [List.drop_zero, List.take_of_length_le (by rw [h.bl]; omega)] at h1
  exact h1
theorem zs64_mem : ∀ z ∈ zs64, z < 256 := by decide
theorem set_mem (L : List Nat) (r x : Nat) (h : ∀ z ∈ L, z < 256) (hx : x < 256) : ∀ z ∈ L.set r x, z < 256 := by
  intro z hz
  rcases List.mem_or_eq_of_mem_set hz with h1 | rfl
  · exact h z h1
  · exact hx
theorem splice_whole (a b : List Nat) (h : a.length = b.length) : splice a 0 b = b := by
  unfold splice
  rw [List.take_zero, List.nil_append, List.drop_eq_nil_of_le (by omega), List.append_nil]
theorem bytesOf_byte (hs : List Nat) : ∀ z ∈ Sha.bytesOf hs, z < 256 := by
  intro z hz
  simp only [Sha.bytesOf, List.mem_flatMap] at hz
  obtain ⟨x, _, hx⟩ := hz
  exact Numm.put_byte _ _ z hx
theorem Wrow.range {w : World} {g : Nat} {t : TypeId} {ws : List Nat} (h : Wrow w g t ws) : w.rangeAt g 0 (wordsOf ws) := fun j v hv => by
  rw [Nat.zero_add, cell_of_row w g j _ t _ h]
  simpa using hv
theorem step7 {w wG : World} {B : Nat} {HH : List Nat} (M : List Nat) (hd : Brow wG w.heap.size 27 zs32) (hw : Wrow wG B 96 HH) (hb : Below w.heap.size w wG) (hB : w.heap.size + 1 < B) :
    Brow (wG.setRow B (wordsOf M).toArray) w.heap.size 27 zs32 ∧ Wrow (wG.setRow B (wordsOf M).toArray) B 96 M ∧ Below w.heap.size w (wG.setRow B (wordsOf M).toArray) := by
  have o : Only B wG (wG.setRow B (wordsOf M).toArray) := (Only.refl _ _).setRow _
  exact ⟨hd.only o (by omega), hw.setRow, hb.trans (o.below (by omega) hb.size)⟩
theorem step9 {w wP : World} {B g n : Nat} {hs bs LL : List Nat} (M : List Nat) (hd : Brow wP w.heap.size 27 zs32) (hb : Brow wP (w.heap.size + 1) 98 LL) (hw : Wrow wP B 96 hs) (hst : St wP g hs bs n) (hbel : Below w.heap.size w wP)
    (hB : w.heap.size + 1 < B) (hg : g < w.heap.size) :
    Brow (wP.setRow B (wordsOf M).toArray) (w.heap.size + 1) 98 LL ∧
    (Brow ((wP.setRow B (wordsOf M).toArray).setRow (w.heap.size + 1) (cellsOf zs64).toArray) w.heap.size 27 zs32 ∧
     Brow ((wP.setRow B (wordsOf M).toArray).setRow (w.heap.size + 1) (cellsOf zs64).toArray) (w.heap.size + 1) 98 zs64 ∧
     Wrow ((wP.setRow B (wordsOf M).toArray).setRow (w.heap.size + 1) (cellsOf zs64).toArray) B 96 M ∧
     St ((wP.setRow B (wordsOf M).toArray).setRow (w.heap.size + 1) (cellsOf zs64).toArray) g hs bs n ∧
     Below w.heap.size w ((wP.setRow B (wordsOf M).toArray).setRow (w.heap.size + 1) (cellsOf zs64).toArray)) := by
  have o : Only B wP (wP.setRow B (wordsOf M).toArray) := (Only.refl _ _).setRow _
  have hb1 := hb.only o (by omega)
  have hd1 := hd.only o (by omega)
  have hs1 := hst.only o (by have := hb.lt; have := hw.lt; omega)
  have hw1 : Wrow (wP.setRow B (wordsOf M).toArray) B 96 M := hw.setRow
  have e1 := hbel.trans (o.below (by omega) hbel.size)
  refine ⟨hb1, ?_⟩
  generalize wP.setRow B (wordsOf M).toArray = W at *
  have o2 : Only (w.heap.size + 1) W (W.setRow (w.heap.size + 1) (cellsOf zs64).toArray) := (Only.refl _ _).setRow _
  exact ⟨hd1.only o2 (by omega), hb1.setRow, hw1.only o2 (by omega), hs1.only o2 (by omega), e1.trans (o2.below (by omega) e1.size)⟩
theorem step8 {w wH : World} {B : Nat} {M : List Nat} (hd : Brow wH w.heap.size 27 zs32) (hw : Wrow wH B 96 M) (hb : Below w.heap.size w wH) (X : Obj) (hX : X = .cells (cellsOf zs32).toArray 27 (0, 0)) :
    Brow (wH.alloc X) w.heap.size 27 zs32 ∧ Brow (wH.alloc X) wH.heap.size 27 zs32 ∧ Wrow (wH.alloc X) B 96 M ∧ Below w.heap.size w (wH.alloc X) := by
  subst hX
  have b := (Below.refl wH.heap.size wH).alloc (Nat.le_refl _) (.cells (cellsOf zs32).toArray 27 (0, 0))
  exact ⟨hd.below b hd.lt, Brow.new _ _ _, hw.below b hw.lt, hb.trans (b.mono hb.size)⟩
theorem run_b56 (W : World) (g : Nat) : (Instr.sliceAt 98 (.pointer (some ⟨g, 0, none⟩)) (some (.int .i64 56)) none none).run Tryd.prog W = .ok (.slice (some ⟨g, 56, none⟩) 8 8) W := by
  have := run_blockFrom W g 0 56 (by omega)
  rw [Nat.zero_add] at this
  exact this
theorem heap_newS (w : World) (ad : Addr) (v : Value) (o : Obj) : ((w.setCell ad v).alloc o).heap[w.heap.size]? = some o := by
  have := heap_new (w.setCell ad v) o
  simpa using this
theorem step6 {w wB : World} {g n : Nat} {hs bs L0 : List Nat} (hd : Brow wB w.heap.size 27 zs32) (hb : Brow wB (w.heap.size + 1) 98 L0) (hst : St wB g hs bs n) (hw : Below w.heap.size w wB) (hg : g < w.heap.size)
    (r : Nat) (X : Obj) (hX : X = .cells (wordsOf zs8).toArray 96 (0, 0)) :
    Brow (((wB.setCell ⟨w.heap.size + 1, r, none⟩ (.int .u8 128)).alloc X).setRow wB.heap.size (wordsOf hs).toArray) w.heap.size 27 zs32 ∧
    Brow (((wB.setCell ⟨w.heap.size + 1, r, none⟩ (.int .u8 128)).alloc X).setRow wB.heap.size (wordsOf hs).toArray) (w.heap.size + 1) 98 (L0.set r 128) ∧
    Wrow (((wB.setCell ⟨w.heap.size + 1, r, none⟩ (.int .u8 128)).alloc X).setRow wB.heap.size (wordsOf hs).toArray) wB.heap.size 96 hs ∧
    St (((wB.setCell ⟨w.heap.size + 1, r, none⟩ (.int .u8 128)).alloc X).setRow wB.heap.size (wordsOf hs).toArray) g hs bs n ∧
    Below w.heap.size w (((wB.setCell ⟨w.heap.size + 1, r, none⟩ (.int .u8 128)).alloc X).setRow wB.heap.size (wordsOf hs).toArray) := by
  subst hX
  obtain ⟨W1, hW1⟩ : ∃ z, z = wB.setCell ⟨w.heap.size + 1, r, none⟩ (.int .u8 128) := ⟨_, rfl⟩
  have o1 : Only (w.heap.size + 1) wB W1 := by rw [hW1]; exact (Only.refl _ _).setCell _ _
  have hs1 : W1.heap.size = wB.heap.size := by rw [hW1]; simp
  have hb1 : Brow W1 (w.heap.size + 1) 98 (L0.set r 128) := by rw [hW1]; exact hb.set r 128
  have hd1 := hd.only o1 (by omega)
  have hst1 := hst.only o1 (by omega)
  have hbl := hb.lt
  have hdl := hd.lt
  have hsl := hst.lt
  rw [← hW1, ← hs1]
  obtain ⟨W2, hW2⟩ : ∃ z, z = W1.alloc (.cells (wordsOf zs8).toArray 96 (0, 0)) := ⟨_, rfl⟩
  have b2 : Below W1.heap.size W1 W2 := by rw [hW2]; exact (Below.refl _ _).alloc (Nat.le_refl _) _
  have hw2 : Wrow W2 W1.heap.size 96 zs8 := by rw [hW2]; exact Wrow.new _ _ _
  rw [← hW2]
  have o3 : Only W1.heap.size W2 (W2.setRow W1.heap.size (wordsOf hs).toArray) := (Only.refl _ _).setRow _
  refine ⟨(hd1.below b2 (by omega)).only o3 (by omega), (hb1.below b2 (by omega)).only o3 (by omega), hw2.setRow, (hst1.below b2 (by omega)).only o3 (by omega), ?_⟩
  exact ((hw.trans (o1.below (by omega) (by omega))).trans (b2.mono (by omega))).trans (o3.below (by omega) (by have := b2.size; omega))
set_option maxRecDepth 100000 in
set_option maxHeartbeats 2000000 in
theorem ssum_less (w : World) (g : Nat) (hs bs : List Nat) (n : Nat) (h : St w g hs bs n) (ht : Tab w) (hr : n % 64 < 56) :
    Calls Tryd.prog 46 #[.pointer (some ⟨g, 0, none⟩)] w (DigRet (Sha.close hs (bs.take (n % 64)) n) w) := by
  have HST := Lib.hid h
  have HT := Lib.hid ht
  have hg := h.lt
  have hg0 : 0 < w.heap.size := by omega
  obtain ⟨r, hr'⟩ : ∃ z, z = n % 64 := ⟨_, rfl⟩
  rw [← hr'] at hr ⊢
  have hr64 : r < 64 := by omega
  have HR := Lib.hid hr'
  have h8 := Lib.hid h.w8
  have hbl := Lib.hid h.bl
  have hbb := Lib.hid h.bb
  have hnn := Lib.hid h.nn
  clear h ht hr'
  obtain ⟨T, hT⟩ : ∃ z, z = bs.take r := ⟨_, rfl⟩
  rw [← hT]
  have hTl := Lib.hid (show T.length = r from by rw [hT, List.length_take, hbl.out]; omega)
  have hTb := Lib.hid (show ∀ z ∈ T, z < 256 from by rw [hT]; exact fun z hz => hbb.out z (List.mem_of_mem_take hz))
  have HTT := Lib.hid hT
  clear hT
  have HBA := fun W => run_blockAll W (w.heap.size + 1) 0
  have HBT := fun W => run_blockTo W g 8 r (by omega)
  go_enter Tryd.func46, Tryd.ntmps46
  go_wp2_with fail
  refine gen_code (F := fun W => Brow W w.heap.size 27 zs32 ∧ Brow W (w.heap.size + 1) 98 zs64 ∧ Below w.heap.size w W) ⟨(heap_new2 _ _ _).1, (heap_new2 _ _ _).2, ((Below.refl _ _).alloc (Nat.le_refl _) _).alloc (by simp) _⟩ ?_
  rintro wA ⟨hd, hb, hw⟩
  have HD := Lib.hid hd
  have HB := Lib.hid hb
  have HW := Lib.hid hw
  have HSA := Lib.hid (HST.out.below hw hg)
  clear hd hb hw
  have HWT := Lib.hid (show ∀ W, St W g hs bs n → Calls Tryd.prog 62 #[.pointer (some ⟨g, 0, none⟩)] W (fun e w' => e = .returned (.int .i64 (r : Int)) ∧ w' = W) from fun W hW => (waiting_c W g hs bs n hW).mono fun e w' ⟨h1, h2⟩ => ⟨by rw [h1, HR.out], h2.symm⟩)
  refine wp_region_still_tail 7 (by kernel_rfl) (by kernel_rfl) ?_
  simp only [List.take_succ_cons, List.take_zero, List.drop_succ_cons, List.drop_zero]
  still_step
  still_step
  still_step
  still_step
  still_step
  still_call (HWT.out _ HSA.out.drew)
  still_step
  refine wpStill_nil ?_
  change wpList _ _ _ _ _ wA.drew
  clear HBA HBT HWT
  have hcn := Lib.hid (show (cellsOf T).length = Nat.min r 64 from by rw [cellsOf_length, hTl.out]; exact (Nat.min_eq_left (by omega)).symm)
  have hcp := Lib.hid (show 0 < (cellsOf T).length → (some ⟨w.heap.size + 1, 0, none⟩ : Option Addr) = some ⟨w.heap.size + 1, 0, none⟩ ∧ ∃ ad, (some ⟨g, 8, none⟩ : Option Addr) = some ad ∧ ∀ j v, (cellsOf T)[j]? = some v → wA.drew.cell? (ad.add j) = some v from
    fun h0 => ⟨rfl, by rw [HTT.out] at h0 ⊢; exact HSA.out.drew.rdAll.src r (by omega) h0⟩)
  have hcf := Lib.hid (show 0 + (cellsOf T).length ≤ (cellsOf zs64).length from by rw [cellsOf_length, cellsOf_length, hTl.out, zs64_len]; omega)
  go_wp2_with (refine wpList_copy_only rfl (.tmp 10) (.tmp 16) 23 23 rfl 5 Tryd.underlying23 u8size _ _ _ _ _ _ rfl rfl (w.heap.size + 1) 0 (cellsOf zs64) 98 HB.out (cellsOf T) hcn.out hcp.out hcf.out (cellsOf_one _) ?_)
  intro wB hrowB hoB
  rw [cellsOf_length, hTl.out]
  have HB2 := Lib.hid (Brow.copied hrowB)
  have HD2 := Lib.hid (Brow.only (g' := w.heap.size + 1) HD.out.drew hoB (by omega))
  have HS2 := Lib.hid (HSA.out.drew.only hoB (by omega))
  have HW2 := Lib.hid (HW.out.drew.trans (hoB.below (by omega) (by have := HW.out.size; simpa using this)))
  clear hrowB hoB HD HSA HW HB hcn hcp hcf
  obtain ⟨L0, hL0⟩ : ∃ z, z = splice zs64 0 T := ⟨_, rfl⟩
  have hL0l : L0.length = 64 := by rw [hL0, length_splice _ _ _ (by rw [hTl.out, zs64_len]; omega), zs64_len]
  rw [← hL0] at HB2
  have HL0 := Lib.hid hL0
  have hcell := HB2.out.cell r (by omega)
  have hfz := HB2.out.frozen r
  have HL0l := Lib.hid hL0l
  clear hL0 hL0l
  have q1 : (0 : Int) ≤ (r : Int) := by omega
  have q2 : (r : Int) < 64 := by omega
  have HI8 := Lib.hid (show (Tryd.prog.info? 96).map (·.size) = some (wordsOf hs).length from by rw [wordsOf_length, h8.out.1]; exact info_words)
  have HS3 := fun W (hW : Only (w.heap.size + 1) wB W) => HS2.out.only hW (show g ≠ w.heap.size + 1 by omega)
  have HS3' := Lib.hid (HS3 (wB.setCell ⟨w.heap.size + 1, r, none⟩ (.int .u8 128)) ((Only.refl _ _).setCell _ _)).words
  have HS3 := Lib.hid HS3
  have K1 := Lib.hid (fun (X : Obj) (hX : X = .cells (wordsOf zs8).toArray 96 (0, 0)) => step6 HD2.out HB2.out HS2.out HW2.out hg r X hX)
  have hnew := Lib.hid (fun (X : Obj) => heap_newS wB ⟨w.heap.size + 1, r, none⟩ (.int .u8 128) X)
  have hsz8 := Lib.hid (show (wordsOf zs8).toArray.size = (wordsOf hs).toArray.size from by rw [wordsOf_size, wordsOf_size, h8.out.1]; rfl)
  have HI8' := Lib.hid (show (Tryd.prog.info? 96).map (·.size) = some (wordsOf hs).toArray.size from by rw [wordsOf_size, h8.out.1]; exact info_words)
  go_wp2_with (first | (refine wpList_load_mid (by rfl) 96 _ (by rfl) g 0 (by rfl) (wordsOf hs) _ HS3'.out Tryd.underlying96 rfl HI8.out ?_) | (refine wpList_store_row (by rfl) 96 _ _ (by rfl) wB.heap.size (wordsOf hs).toArray (by rfl) (by rfl) 96 (wordsOf zs8).toArray (by exact hnew.out _) HI8'.out hsz8.out (wordsOf_one _) ?_; refine gen_world (F := fun W => Brow W w.heap.size 27 zs32 ∧ Brow W (w.heap.size + 1) 98 (L0.set r 128) ∧ Wrow W wB.heap.size 96 hs ∧ St W g hs bs n ∧ Below w.heap.size w W) (K1.out _ rfl) ?_; rintro wD ⟨hdD, hbD, hwD, hsD, hwwD⟩; have HDD := Lib.hid hdD; have HBD := Lib.hid hbD; have HWD := Lib.hid hwD; have HSD := Lib.hid hsD; have HWWD := Lib.hid hwwD; clear hdD hbD hwD hsD hwwD))
  have H56 := fun W => run_b56 W (w.heap.size + 1)
  have HNN := Lib.hid (show 8 * n < 18446744073709551616 from by have := hnn.out; omega)
  have hcz := HSD.out.size
  have hmul : IntKind.u64.wrap (8 * (n : Int)) = ((8 * n : Nat) : Int) := by have := hnn.out; rw [IntKind.wrap_u64]; omega
  have hcv : IntKind.u64.wrap (n : Int) = (n : Int) := by have := hnn.out; rw [IntKind.wrap_u64]; omega
  (try dsimp only [Act.put, List.setIfInBounds_toArray, List.set_cons_zero, List.set_cons_succ])
  refine wp_region_any (by kernel_rfl) ?_
  change wpAny _ _ _ _ _ _ _ wD.drew
  refine any_pure 0 (d := 30) (op := .slice 98 (.tmp 3) (some (.const (.int .i64 56))) none none) (.slice (some ⟨w.heap.size + 1, 56, none⟩) 8 8) (by rfl) (by kernel_rfl) (by kernel_rfl) (by kernel_rfl) (fun _ _ _ h => h) (fun o ho W => by unfold execOp; simp only [ho]; simp [H56 W, Act.eval]) ?_
  simp only [Act.put, List.setIfInBounds_toArray, List.set_cons_zero, List.set_cons_succ]
  refine any_pure 1 (d := 31) (op := .move (.tmp 0)) (.pointer (some ⟨g, 0, none⟩)) (by rfl) (by kernel_rfl) (by kernel_rfl) (by kernel_rfl) (fun _ _ _ h => h) (fun o ho W => by unfold execOp; simp only [ho]; go_simp) ?_
  simp only [Act.put, List.setIfInBounds_toArray, List.set_cons_zero, List.set_cons_succ]
  refine any_pure 2 (d := 32) (op := .nilCheck (.tmp 31)) (.pointer (some ⟨g, 0, none⟩)) (by rfl) (by kernel_rfl) (by kernel_rfl) (by kernel_rfl) (fun _ _ _ h => h) (fun o ho W => by unfold execOp; simp only [ho]; go_simp) ?_
  simp only [Act.put, List.setIfInBounds_toArray, List.set_cons_zero, List.set_cons_succ]
  refine any_pure 3 (d := 33) (op := .fieldAddr 100 (.tmp 32) 2) (.pointer (some ⟨g, 72, none⟩)) (by rfl) (by kernel_rfl) (by kernel_rfl) (by kernel_rfl) (fun _ _ _ h => h) (fun o ho W => by unfold execOp; simp only [ho]; go_simp) ?_
  simp only [Act.put, List.setIfInBounds_toArray, List.set_cons_zero, List.set_cons_succ]
  refine any_load 4 (d := 34) (ty := 3) (x := .tmp 33) (p := .pointer (some ⟨g, 72, none⟩)) (v := .int .i64 (n : Int)) (by kernel_rfl) (by rfl) (by rfl) (by go_simp) ?_
  simp only [Act.put, List.setIfInBounds_toArray, List.set_cons_zero, List.set_cons_succ]
  refine any_pure 5 (d := 35) (op := .convert 3 90 (.tmp 34)) (.int .u64 (n : Int)) (by rfl) (by kernel_rfl) (by kernel_rfl) (by kernel_rfl) (fun _ _ _ h => h) (fun o ho W => by unfold execOp; simp only [ho]; go_simp) ?_
  simp only [Act.put, List.setIfInBounds_toArray, List.set_cons_zero, List.set_cons_succ]
  refine any_pure 6 (d := 36) (op := .binOp .mul 90 (.const (.int .u64 8)) (.tmp 35) 90) (.int .u64 ((8 * n : Nat) : Int)) (by rfl) (by kernel_rfl) (by kernel_rfl) (by kernel_rfl) (fun _ _ _ h => h) (fun o ho W => by unfold execOp; simp only [ho]; go_simp) ?_
  simp only [Act.put, List.setIfInBounds_toArray, List.set_cons_zero, List.set_cons_succ]
  have HH8 := Lib.hid (show Sha.W8 hs from h8.out)
  have HLL := Lib.hid (show ((L0.set r 128)).length = 64 from by rw [List.length_set, HL0l.out])
  have HLB := Lib.hid (show ∀ z ∈ (L0.set r 128), z < 256 from set_mem L0 r 128 (by rw [HL0.out]; exact splice_mem zs64_mem hTb.out) (by omega))
  obtain ⟨PP, hPP⟩ : ∃ z, z = Numm.put (8 * n) 8 := ⟨_, rfl⟩
  have hPl := Lib.hid (show PP.length = 8 from by rw [hPP, Numm.put_len])
  have hPb := Lib.hid (show ∀ z ∈ PP, z < 256 from by rw [hPP]; exact Numm.put_byte _ _)
  have HPUT := (put_in (8 * n) 8 wD.drew HNN.out (by omega)).mono (RetB.form (Numm.put_byte _ _))
  rw [← hPP] at HPUT
  have HPUT := Lib.hid HPUT
  have HPP := Lib.hid hPP
  clear hPP hmul hcv hcz H56
  refine any_call 7 (d := some 37) (f := 64) (xs := #[.tmp 36, .const (.int .i64 8)]) (ts := #[90, 3]) (vs := #[.int .u64 ((8 * n : Nat) : Int), .int .i64 8]) (by kernel_rfl) (by rfl) (by go_simp) (by go_simp) HPUT.out ?_
  rintro e4 wE ⟨a1, L1, c1, rfl, hl1, hlc1, hc1, hn1, hr1, ho1, hb1⟩
  refine ⟨_, rfl, ?_⟩
  simp only [Act.put, List.setIfInBounds_toArray, List.set_cons_zero, List.set_cons_succ]
  obtain rfl : L1 = 8 := by rw [← hl1, hPl.out]
  have hbl1 := HBD.out.lt
  have hdl1 := HDD.out.lt
  have hwl1 := HWD.out.lt
  have HBE := Lib.hid (HBD.out.drew.below hb1 (by simpa using hbl1))
  have HDE := Lib.hid (HDD.out.drew.below hb1 (by simpa using hdl1))
  have HWE := Lib.hid (HWD.out.drew.below hb1 (by simpa using hwl1))
  have HWWE := Lib.hid (HWWD.out.drew.trans (hb1.mono (by have := HWWD.out.size; simpa using this)))
  have hsrc := fun h0 => hr1.src 8 (Nat.le_refl _) h0
  rw [List.take_of_length_le (by rw [hPl.out]; omega)] at hsrc
  have HSRC := Lib.hid hsrc
  clear hsrc ho1 hb1 hl1 hbl1 hdl1
  refine any_copy 8 (dst := some 38) (d := .tmp 30) (s := .tmp 37) (dT := 23) (sT := 23) (by kernel_rfl) (by rfl) 5 Tryd.underlying23 u8size (some ⟨w.heap.size + 1, 56, none⟩) a1 8 8 8 c1 (by rfl) (by rfl) (w.heap.size + 1) 56 (cellsOf ((L0.set r 128))) 98 HBE.out (cellsOf PP)
    (by rw [cellsOf_length, hPl.out]; rfl) (fun h0 => ⟨rfl, HSRC.out h0⟩) (by rw [cellsOf_length, cellsOf_length, hPl.out, HLL.out]; omega) (cellsOf_one _) ?_
  intro wF hrowF hoF
  have HBF := Brow.copied hrowF
  obtain ⟨L3, hL3⟩ : ∃ z, z = splice ((L0.set r 128)) 56 PP := ⟨_, rfl⟩
  rw [← hL3] at HBF
  have HBF := Lib.hid HBF
  have hL3l := Lib.hid (show L3.length = 64 from by rw [hL3, length_splice _ _ _ (by rw [hPl.out, HLL.out]; omega), HLL.out])
  have hL3b := Lib.hid (show ∀ z ∈ L3, z < 256 from by rw [hL3]; exact splice_mem HLB.out hPb.out)
  have HL3 := Lib.hid hL3
  have HDF := Lib.hid (HDE.out.only hoF (by omega))
  have hg5 : w.heap.size + 1 < wB.heap.size := HB2.out.lt
  have HWF := Lib.hid (HWE.out.only hoF (by omega))
  have HWWF := Lib.hid (HWWE.out.trans (hoF.below (by omega) (by have := HWWE.out.size; omega)))
  clear hrowF hoF hL3
  refine wpAny_done (by kernel_rfl) ?_ _
  have HI8m := Lib.hid (show (Tryd.prog.info? 96).map (·.size) = some (wordsOf hs).toArray.size from by rw [wordsOf_size, HH8.out.1]; exact info_words)
  have HI64 := Lib.hid (show (Tryd.prog.info? 98).map (·.size) = some (cellsOf L3).toArray.size from by rw [cellsOf_size, hL3l.out]; exact info_block)
  go_wp2_with (first | (refine wpList_load_row (by rfl) 96 _ (by rfl) wB.heap.size (by rfl) _ (wordsOf hs).toArray (0, 0) _ HWF.out Tryd.underlying96 (by rfl) HI8m.out ?_) | (refine wpList_load_row (by rfl) 98 _ (by rfl) (w.heap.size + 1) (by rfl) _ (cellsOf L3).toArray (0, 0) _ HBF.out Tryd.underlying98 (by rfl) HI64.out ?_))
  have HTF := Lib.hid (HT.out.below HWWF.out hg0)
  refine (mix_c hs L3 wF HH8.out.1 HH8.out.2 hL3l.out hL3b.out HTF.out).mono ?_
  rintro e5 wG ⟨rfl, hb5⟩
  obtain ⟨M, hM⟩ : ∃ z, z = Sha.mix (hs) L3 := ⟨_, rfl⟩
  rw [← hM]
  have hM8 := Lib.hid (show Sha.W8 M from by rw [hM]; exact Sha.W8.mix _ _)
  have HM := Lib.hid hM
  have hdlF := HDF.out.lt
  have hwlF := HWF.out.lt
  have HDG := Lib.hid (HDF.out.below hb5 hdlF)
  have HWG := Lib.hid (HWF.out.below hb5 hwlF)
  have HWWG := Lib.hid (HWWF.out.trans (hb5.mono HWWF.out.size))
  have hwlG := HWG.out.lt
  clear hb5 hM hdlF hwlF
  have K7 := Lib.hid (step7 M HDG.out HWG.out HWWG.out hg5)
  have HI8M := Lib.hid (show (Tryd.prog.info? 96).map (·.size) = some (wordsOf M).toArray.size from by rw [wordsOf_size, hM8.out.1]; exact info_words)
  have hszM := Lib.hid (show (wordsOf hs).toArray.size = (wordsOf M).toArray.size from by rw [wordsOf_size, wordsOf_size, hM8.out.1, HH8.out.1])
  go_wp2_with (first | (refine wpList_store_row (by rfl) 96 _ _ (by rfl) wB.heap.size (wordsOf M).toArray (by rfl) (by rfl) 96 (wordsOf hs).toArray HWG.out HI8M.out hszM.out (wordsOf_one _) ?_; refine gen_world (F := fun W => Brow W w.heap.size 27 zs32 ∧ Wrow W wB.heap.size 96 M ∧ Below w.heap.size w W) K7.out ?_; rintro wH ⟨hdH, hwH, hwwH⟩; have HDH := Lib.hid hdH; have HWH := Lib.hid hwH; have HWWH := Lib.hid hwwH; clear hdH hwH hwwH))
  refine gen_code (F := fun W => Brow W w.heap.size 27 zs32 ∧ Brow W wH.heap.size 27 zs32 ∧ Wrow W wB.heap.size 96 M ∧ Below w.heap.size w W) (step8 HDH.out HWH.out HWWH.out _ rfl) ?_
  rintro wI ⟨hdI, heI, hwI, hwwI⟩
  have HDI := Lib.hid hdI
  have HEI := Lib.hid heI
  have HWI := Lib.hid hwI
  have HWWI := Lib.hid hwwI
  have hne : w.heap.size < wH.heap.size := HDH.out.lt
  clear hdI heI hwI hwwI
  have HDA := fun W => run_digAll W wH.heap.size 0
  refine wp_region_any (by kernel_rfl) ?_
  change wpAny _ _ _ _ _ _ _ wI.drew
  refine any_pure 0 (d := 42) (op := .slice 27 (.tmp 6) none none none) (.slice (some ⟨wH.heap.size, 0, none⟩) 32 32) (by rfl) (by kernel_rfl) (by kernel_rfl) (by kernel_rfl) (fun _ _ _ h => h) (fun o ho W => by unfold execOp; simp only [ho]; simp [HDA W, Act.eval]) ?_
  simp only [Act.put, List.setIfInBounds_toArray, List.set_cons_zero, List.set_cons_succ]
  have HRL := Lib.hid (run_loadAt_mid wI.drew wB.heap.size 0 96 (wordsOf M) _ HWI.out.drew.range Tryd.underlying96 rfl (by rw [wordsOf_length, hM8.out.1]; exact info_words))
  refine any_load 1 (d := 43) (ty := 96) (x := .tmp 5) (p := .pointer (some ⟨wB.heap.size, 0, none⟩)) (v := .agg (wordsOf M).toArray) (by kernel_rfl) (by rfl) (by rfl) HRL.out ?_
  simp only [Act.put, List.setIfInBounds_toArray, List.set_cons_zero, List.set_cons_succ]
  have HSP := Lib.hid ((spread_c M wI.drew hM8.out).mono (RetB.form (bytesOf_byte M)))
  refine any_call 2 (d := some 44) (f := 65) (xs := #[.tmp 43]) (ts := #[96]) (vs := #[.agg (wordsOf M).toArray]) (by kernel_rfl) (by rfl) (by go_simp) (by go_simp) HSP.out ?_
  rintro e6 wJ ⟨a2, L2, c2, rfl, hl2, hlc2, hc2, hn2, hr2, ho2, hb2⟩
  refine ⟨_, rfl, ?_⟩
  simp only [Act.put, List.setIfInBounds_toArray, List.set_cons_zero, List.set_cons_succ]
  have hML := hM8.out.1
  obtain rfl : L2 = 32 := by rw [← hl2, bytesOf_len, hML]
  have hdl2 := HDI.out.lt
  have hel2 := HEI.out.lt
  have HDJ := Lib.hid (HDI.out.drew.below hb2 (by simpa using hdl2))
  have HEJ := Lib.hid (HEI.out.drew.below hb2 (by simpa using hel2))
  have HWWJ := Lib.hid (HWWI.out.drew.trans (hb2.mono (by have := HWWI.out.size; simpa using this)))
  have hsrc := fun h0 => hr2.src 32 (Nat.le_refl _) h0
  rw [List.take_of_length_le (by rw [bytesOf_len, hML]; omega)] at hsrc
  have HSRC := Lib.hid hsrc
  clear hsrc ho2 hb2 hl2 hdl2 hel2 HDA
  refine any_copy 3 (dst := some 45) (d := .tmp 42) (s := .tmp 44) (dT := 23) (sT := 23) (by kernel_rfl) (by rfl) 5 Tryd.underlying23 u8size (some ⟨wH.heap.size, 0, none⟩) a2 32 32 32 c2 (by rfl) (by rfl) wH.heap.size 0 (cellsOf zs32) 27 HEJ.out (cellsOf (Sha.bytesOf M))
    (by rw [cellsOf_length, bytesOf_len, hML]; rfl) (fun h0 => ⟨rfl, HSRC.out h0⟩) (by rw [cellsOf_length, cellsOf_length, bytesOf_len, hML, zs32_len]; omega) (cellsOf_one _) ?_
  intro wK hrowK hoK
  have HEK := Brow.copied hrowK
  rw [splice_whole zs32 (Sha.bytesOf M) (by rw [zs32_len, bytesOf_len, hML])] at HEK
  have HEK := Lib.hid HEK
  have HDK := Lib.hid (HDJ.out.only hoK (by omega))
  have HWWK := Lib.hid (HWWJ.out.trans (hoK.below (by omega) (by have := HWWJ.out.size; omega)))
  clear hrowK hoK
  refine wpAny_done (by kernel_rfl) ?_ _
  obtain ⟨D, hD⟩ : ∃ z, z = Sha.bytesOf M := ⟨_, rfl⟩
  rw [← hD] at HEK
  have hDl := Lib.hid (show D.length = 32 from by rw [hD, bytesOf_len, hML])
  have HDD' := Lib.hid hD
  clear hD hML
  have HI32 := Lib.hid (show (Tryd.prog.info? 27).map (·.size) = some (cellsOf D).toArray.size from by rw [cellsOf_size, hDl.out]; exact info_dig)
  have hsz32 := Lib.hid (show (cellsOf zs32).toArray.size = (cellsOf D).toArray.size from by rw [cellsOf_size, cellsOf_size, hDl.out, zs32_len])
  have HFIN := Lib.hid (show (wK.setRow w.heap.size (cellsOf D).toArray).heap[w.heap.size]? = some (.cells (cellsOf D).toArray 27 (0, 0)) from setRow_heap _ _ _ _ _ _ HDK.out)
  have HBFIN := Lib.hid (HWWK.out.setRow (Nat.le_refl _) (cellsOf D).toArray)
  go_wp2_with (first | (refine wpList_load_row (by rfl) 27 _ (by rfl) wH.heap.size (by rfl) _ (cellsOf D).toArray (0, 0) _ HEK.out Tryd.underlying27 (by rfl) HI32.out ?_) | (refine wpList_store_row (by rfl) 27 _ _ (by rfl) w.heap.size (cellsOf D).toArray (by rfl) (by rfl) 27 (cellsOf zs32).toArray HDK.out HI32.out hsz32.out (cellsOf_all _) ?_))
  refine bodyPost_ret (results_cell_row (by rfl) _ _ w.heap.size _ (cellsOf D).toArray (0, 0) _ (by rfl) HFIN.out Tryd.underlying27 (by rfl) HI32.out) ?_ ?_
  · rfl
  · refine ⟨?_, HBFIN.out⟩
    rw [HDD'.out, HM.out, HL3.out, HPP.out, HL0.out, ← hTl.out, close_less _ _ _ (by rw [hTl.out]; exact hr)]
set_option maxRecDepth 100000 in
set_option maxHeartbeats 2000000 in
theorem ssum_more (w : World) (g : Nat) (hs bs : List Nat) (n : Nat) (h : St w g hs bs n) (ht : Tab w) (hr : 56 ≤ n % 64) :
    Calls Tryd.prog 46 #[.pointer (some ⟨g, 0, none⟩)] w (DigRet (Sha.close hs (bs.take (n % 64)) n) w) := by
  have HST := Lib.hid h
  have HT := Lib.hid ht
  have hg := h.lt
  have hg0 : 0 < w.heap.size := by omega
  obtain ⟨r, hr'⟩ : ∃ z, z = n % 64 := ⟨_, rfl⟩
  rw [← hr'] at hr ⊢
  have hr64 : r < 64 := by omega
  have HR := Lib.hid hr'
  have h8 := Lib.hid h.w8
  have hbl := Lib.hid h.bl
  have hbb := Lib.hid h.bb
  have hnn := Lib.hid h.nn
  clear h ht hr'
  obtain ⟨T, hT⟩ : ∃ z, z = bs.take r := ⟨_, rfl⟩
  rw [← hT]
  have hTl := Lib.hid (show T.length = r from by rw [hT, List.length_take, hbl.out]; omega)
  have hTb := Lib.hid (show ∀ z ∈ T, z < 256 from by rw [hT]; exact fun z hz => hbb.out z (List.mem_of_mem_take hz))
  have HTT := Lib.hid hT
  clear hT
  have HBA := fun W => run_blockAll W (w.heap.size + 1) 0
  have HBT := fun W => run_blockTo W g 8 r (by omega)
  go_enter Tryd.func46, Tryd.ntmps46
  go_wp2_with fail
  refine gen_code (F := fun W => Brow W w.heap.size 27 zs32 ∧ Brow W (w.heap.size + 1) 98 zs64 ∧ Below w.heap.size w W) ⟨(heap_new2 _ _ _).1, (heap_new2 _ _ _).2, ((Below.refl _ _).alloc (Nat.le_refl _) _).alloc (by simp) _⟩ ?_
  rintro wA ⟨hd, hb, hw⟩
  have HD := Lib.hid hd
  have HB := Lib.hid hb
  have HW := Lib.hid hw
  have HSA := Lib.hid (HST.out.below hw hg)
  clear hd hb hw
  have HWT := Lib.hid (show ∀ W, St W g hs bs n → Calls Tryd.prog 62 #[.pointer (some ⟨g, 0, none⟩)] W (fun e w' => e = .returned (.int .i64 (r : Int)) ∧ w' = W) from fun W hW => (waiting_c W g hs bs n hW).mono fun e w' ⟨h1, h2⟩ => ⟨by rw [h1, HR.out], h2.symm⟩)
  refine wp_region_still_tail 7 (by kernel_rfl) (by kernel_rfl) ?_
  simp only [List.take_succ_cons, List.take_zero, List.drop_succ_cons, List.drop_zero]
  still_step
  still_step
  still_step
  still_step
  still_step
  still_call (HWT.out _ HSA.out.drew)
  still_step
  refine wpStill_nil ?_
  change wpList _ _ _ _ _ wA.drew
  clear HBA HBT HWT
  have hcn := Lib.hid (show (cellsOf T).length = Nat.min r 64 from by rw [cellsOf_length, hTl.out]; exact (Nat.min_eq_left (by omega)).symm)
  have hcp := Lib.hid (show 0 < (cellsOf T).length → (some ⟨w.heap.size + 1, 0, none⟩ : Option Addr) = some ⟨w.heap.size + 1, 0, none⟩ ∧ ∃ ad, (some ⟨g, 8, none⟩ : Option Addr) = some ad ∧ ∀ j v, (cellsOf T)[j]? = some v → wA.drew.cell? (ad.add j) = some v from
    fun h0 => ⟨rfl, by rw [HTT.out] at h0 ⊢; exact HSA.out.drew.rdAll.src r (by omega) h0⟩)
  have hcf := Lib.hid (show 0 + (cellsOf T).length ≤ (cellsOf zs64).length from by rw [cellsOf_length, cellsOf_length, hTl.out, zs64_len]; omega)
  go_wp2_with (refine wpList_copy_only rfl (.tmp 10) (.tmp 16) 23 23 rfl 5 Tryd.underlying23 u8size _ _ _ _ _ _ rfl rfl (w.heap.size + 1) 0 (cellsOf zs64) 98 HB.out (cellsOf T) hcn.out hcp.out hcf.out (cellsOf_one _) ?_)
  intro wB hrowB hoB
  rw [cellsOf_length, hTl.out]
  have HB2 := Lib.hid (Brow.copied hrowB)
  have HD2 := Lib.hid (Brow.only (g' := w.heap.size + 1) HD.out.drew hoB (by omega))
  have HS2 := Lib.hid (HSA.out.drew.only hoB (by omega))
  have HW2 := Lib.hid (HW.out.drew.trans (hoB.below (by omega) (by have := HW.out.size; simpa using this)))
  clear hrowB hoB HD HSA HW HB hcn hcp hcf
  obtain ⟨L0, hL0⟩ : ∃ z, z = splice zs64 0 T := ⟨_, rfl⟩
  have hL0l : L0.length = 64 := by rw [hL0, length_splice _ _ _ (by rw [hTl.out, zs64_len]; omega), zs64_len]
  rw [← hL0] at HB2
  have HL0 := Lib.hid hL0
  have hcell := HB2.out.cell r (by omega)
  have hfz := HB2.out.frozen r
  have HL0l := Lib.hid hL0l
  clear hL0 hL0l
  have q1 : (0 : Int) ≤ (r : Int) := by omega
  have q2 : (r : Int) < 64 := by omega
  have HI8 := Lib.hid (show (Tryd.prog.info? 96).map (·.size) = some (wordsOf hs).length from by rw [wordsOf_length, h8.out.1]; exact info_words)
  have HS3 := fun W (hW : Only (w.heap.size + 1) wB W) => HS2.out.only hW (show g ≠ w.heap.size + 1 by omega)
  have HS3' := Lib.hid (HS3 (wB.setCell ⟨w.heap.size + 1, r, none⟩ (.int .u8 128)) ((Only.refl _ _).setCell _ _)).words
  have HS3 := Lib.hid HS3
  have K1 := Lib.hid (fun (X : Obj) (hX : X = .cells (wordsOf zs8).toArray 96 (0, 0)) => step6 HD2.out HB2.out HS2.out HW2.out hg r X hX)
  have hnew := Lib.hid (fun (X : Obj) => heap_newS wB ⟨w.heap.size + 1, r, none⟩ (.int .u8 128) X)
  have hsz8 := Lib.hid (show (wordsOf zs8).toArray.size = (wordsOf hs).toArray.size from by rw [wordsOf_size, wordsOf_size, h8.out.1]; rfl)
  have HI8' := Lib.hid (show (Tryd.prog.info? 96).map (·.size) = some (wordsOf hs).toArray.size from by rw [wordsOf_size, h8.out.1]; exact info_words)
  have HI64a := Lib.hid (show (Tryd.prog.info? 98).map (·.size) = some (cellsOf (L0.set r 128)).toArray.size from by rw [cellsOf_size, List.length_set, HL0l.out]; exact info_block)
  go_wp2_with (first | (refine wpList_load_row (by rfl) 96 _ (by rfl) wB.heap.size (by rfl) _ (wordsOf hs).toArray (0, 0) _ HWD.out Tryd.underlying96 (by rfl) HI8'.out ?_) | (refine wpList_load_row (by rfl) 98 _ (by rfl) (w.heap.size + 1) (by rfl) _ (cellsOf (L0.set r 128)).toArray (0, 0) _ HBD.out Tryd.underlying98 (by rfl) HI64a.out ?_) | (refine wpList_load_mid (by rfl) 96 _ (by rfl) g 0 (by rfl) (wordsOf hs) _ HS3'.out Tryd.underlying96 rfl HI8.out ?_) | (refine wpList_store_row (by rfl) 96 _ _ (by rfl) wB.heap.size (wordsOf hs).toArray (by rfl) (by rfl) 96 (wordsOf zs8).toArray (by exact hnew.out _) HI8'.out hsz8.out (wordsOf_one _) ?_; refine gen_world (F := fun W => Brow W w.heap.size 27 zs32 ∧ Brow W (w.heap.size + 1) 98 (L0.set r 128) ∧ Wrow W wB.heap.size 96 hs ∧ St W g hs bs n ∧ Below w.heap.size w W) (K1.out _ rfl) ?_; rintro wD ⟨hdD, hbD, hwD, hsD, hwwD⟩; have HDD := Lib.hid hdD; have HBD := Lib.hid hbD; have HWD := Lib.hid hwD; have HSD := Lib.hid hsD; have HWWD := Lib.hid hwwD; clear hdD hbD hwD hsD hwwD))
  have HTD := Lib.hid (HT.out.below HWWD.out hg0)
  have HLBa := Lib.hid (set_mem L0 r 128 (by rw [HL0.out]; exact splice_mem zs64_mem hTb.out) (by omega))
  refine (mix_c hs (L0.set r 128) wD h8.out.1 h8.out.2 (by rw [List.length_set, HL0l.out]) HLBa.out HTD.out).mono ?_
  rintro e5 wP ⟨rfl, hbP⟩
  obtain ⟨M1, hM1⟩ : ∃ z, z = Sha.mix hs (L0.set r 128) := ⟨_, rfl⟩
  rw [← hM1]
  have hM18 := Lib.hid (show Sha.W8 M1 from by rw [hM1]; exact Sha.W8.mix _ _)
  have HM1 := Lib.hid hM1
  have hg5 : w.heap.size + 1 < wB.heap.size := HB2.out.lt
  have K9 := Lib.hid (step9 (wP := wP) M1 (HDD.out.below hbP HDD.out.lt) (HBD.out.below hbP HBD.out.lt) (HWD.out.below hbP HWD.out.lt) (HSD.out.below hbP HSD.out.lt) (HWWD.out.trans (hbP.mono HWWD.out.size)) hg5 hg)
  have HWP := Lib.hid (HWD.out.below hbP HWD.out.lt)
  clear hbP hM1
  have HI81 := Lib.hid (show (Tryd.prog.info? 96).map (·.size) = some (wordsOf M1).toArray.size from by rw [wordsOf_size, hM18.out.1]; exact info_words)
  have hsz1 := Lib.hid (show (wordsOf hs).toArray.size = (wordsOf M1).toArray.size from by rw [wordsOf_size, wordsOf_size, hM18.out.1, h8.out.1])
  have HI640 := Lib.hid (show (Tryd.prog.info? 98).map (·.size) = some (cellsOf zs64).toArray.size from by rw [cellsOf_size, zs64_len]; exact info_block)
  have hsz640 := Lib.hid (show (cellsOf (L0.set r 128)).toArray.size = (cellsOf zs64).toArray.size from by rw [cellsOf_size, cellsOf_size, zs64_len, List.length_set, HL0l.out])
  have HBP := Lib.hid K9.out.1
  have K9' := Lib.hid K9.out.2
  clear HDD HWD HSD HWWD HBD
  go_wp2_with (first | (refine wpList_store_row (by rfl) 96 _ _ (by rfl) wB.heap.size (wordsOf M1).toArray (by rfl) (by rfl) 96 (wordsOf hs).toArray HWP.out HI81.out hsz1.out (wordsOf_one _) ?_) | (refine wpList_store_row (by rfl) 98 _ _ (by rfl) (w.heap.size + 1) (cellsOf zs64).toArray (by rfl) (by rfl) 98 (cellsOf (L0.set r 128)).toArray HBP.out HI640.out hsz640.out (cellsOf_all _) ?_; refine gen_world (F := fun W => Brow W w.heap.size 27 zs32 ∧ Brow W (w.heap.size + 1) 98 zs64 ∧ Wrow W wB.heap.size 96 M1 ∧ St W g hs bs n ∧ Below w.heap.size w W) K9'.out ?_; rintro wX ⟨hdD, hbD, hwD, hsD, hwwD⟩; have HDD := Lib.hid hdD; have HBD := Lib.hid hbD; have HWD := Lib.hid hwD; have HSD := Lib.hid hsD; have HWWD := Lib.hid hwwD; clear hdD hbD hwD hsD hwwD))
  have H56 := fun W => run_b56 W (w.heap.size + 1)
  have HNN := Lib.hid (show 8 * n < 18446744073709551616 from by have := hnn.out; omega)
  have hcz := HSD.out.size
  have hmul : IntKind.u64.wrap (8 * (n : Int)) = ((8 * n : Nat) : Int) := by have := hnn.out; rw [IntKind.wrap_u64]; omega
  have hcv : IntKind.u64.wrap (n : Int) = (n : Int) := by have := hnn.out; rw [IntKind.wrap_u64]; omega
  (try dsimp only [Act.put, List.setIfInBounds_toArray, List.set_cons_zero, List.set_cons_succ])
  refine wp_region_any (by kernel_rfl) ?_
  change wpAny _ _ _ _ _ _ _ wX.drew
  refine any_pure 0 (d := 30) (op := .slice 98 (.tmp 3) (some (.const (.int .i64 56))) none none) (.slice (some ⟨w.heap.size + 1, 56, none⟩) 8 8) (by rfl) (by kernel_rfl) (by kernel_rfl) (by kernel_rfl) (fun _ _ _ h => h) (fun o ho W => by unfold execOp; simp only [ho]; simp [H56 W, Act.eval]) ?_
  simp only [Act.put, List.setIfInBounds_toArray, List.set_cons_zero, List.set_cons_succ]
  refine any_pure 1 (d := 31) (op := .move (.tmp 0)) (.pointer (some ⟨g, 0, none⟩)) (by rfl) (by kernel_rfl) (by kernel_rfl) (by kernel_rfl) (fun _ _ _ h => h) (fun o ho W => by unfold execOp; simp only [ho]; go_simp) ?_
  simp only [Act.put, List.setIfInBounds_toArray, List.set_cons_zero, List.set_cons_succ]
  refine any_pure 2 (d := 32) (op := .nilCheck (.tmp 31)) (.pointer (some ⟨g, 0, none⟩)) (by rfl) (by kernel_rfl) (by kernel_rfl) (by kernel_rfl) (fun _ _ _ h => h) (fun o ho W => by unfold execOp; simp only [ho]; go_simp) ?_
  simp only [Act.put, List.setIfInBounds_toArray, List.set_cons_zero, List.set_cons_succ]
  refine any_pure 3 (d := 33) (op := .fieldAddr 100 (.tmp 32) 2) (.pointer (some ⟨g, 72, none⟩)) (by rfl) (by kernel_rfl) (by kernel_rfl) (by kernel_rfl) (fun _ _ _ h => h) (fun o ho W => by unfold execOp; simp only [ho]; go_simp) ?_
  simp only [Act.put, List.setIfInBounds_toArray, List.set_cons_zero, List.set_cons_succ]
  refine any_load 4 (d := 34) (ty := 3) (x := .tmp 33) (p := .pointer (some ⟨g, 72, none⟩)) (v := .int .i64 (n : Int)) (by kernel_rfl) (by rfl) (by rfl) (by go_simp) ?_
  simp only [Act.put, List.setIfInBounds_toArray, List.set_cons_zero, List.set_cons_succ]
  refine any_pure 5 (d := 35) (op := .convert 3 90 (.tmp 34)) (.int .u64 (n : Int)) (by rfl) (by kernel_rfl) (by kernel_rfl) (by kernel_rfl) (fun _ _ _ h => h) (fun o ho W => by unfold execOp; simp only [ho]; go_simp) ?_
  simp only [Act.put, List.setIfInBounds_toArray, List.set_cons_zero, List.set_cons_succ]
  refine any_pure 6 (d := 36) (op := .binOp .mul 90 (.const (.int .u64 8)) (.tmp 35) 90) (.int .u64 ((8 * n : Nat) : Int)) (by rfl) (by kernel_rfl) (by kernel_rfl) (by kernel_rfl) (fun _ _ _ h => h) (fun o ho W => by unfold execOp; simp only [ho]; go_simp) ?_
  simp only [Act.put, List.setIfInBounds_toArray, List.set_cons_zero, List.set_cons_succ]
  have HH8 := Lib.hid (show Sha.W8 M1 from hM18.out)
  have HLL := Lib.hid (show (zs64).length = 64 from zs64_len)
  have HLB := Lib.hid (show ∀ z ∈ zs64, z < 256 from zs64_mem)
  obtain ⟨PP, hPP⟩ : ∃ z, z = Numm.put (8 * n) 8 := ⟨_, rfl⟩
  have hPl := Lib.hid (show PP.length = 8 from by rw [hPP, Numm.put_len])
  have hPb := Lib.hid (show ∀ z ∈ PP, z < 256 from by rw [hPP]; exact Numm.put_byte _ _)
  have HPUT := (put_in (8 * n) 8 wX.drew HNN.out (by omega)).mono (RetB.form (Numm.put_byte _ _))
  rw [← hPP] at HPUT
  have HPUT := Lib.hid HPUT
  have HPP := Lib.hid hPP
  clear hPP hmul hcv hcz H56
  refine any_call 7 (d := some 37) (f := 64) (xs := #[.tmp 36, .const (.int .i64 8)]) (ts := #[90, 3]) (vs := #[.int .u64 ((8 * n : Nat) : Int), .int .i64 8]) (by kernel_rfl) (by rfl) (by go_simp) (by go_simp) HPUT.out ?_
  rintro e4 wE ⟨a1, L1, c1, rfl, hl1, hlc1, hc1, hn1, hr1, ho1, hb1⟩
  refine ⟨_, rfl, ?_⟩
  simp only [Act.put, List.setIfInBounds_toArray, List.set_cons_zero, List.set_cons_succ]
  obtain rfl : L1 = 8 := by rw [← hl1, hPl.out]
  have hbl1 := HBD.out.lt
  have hdl1 := HDD.out.lt
  have hwl1 := HWD.out.lt
  have HBE := Lib.hid (HBD.out.drew.below hb1 (by simpa using hbl1))
  have HDE := Lib.hid (HDD.out.drew.below hb1 (by simpa using hdl1))
  have HWE := Lib.hid (HWD.out.drew.below hb1 (by simpa using hwl1))
  have HWWE := Lib.hid (HWWD.out.drew.trans (hb1.mono (by have := HWWD.out.size; simpa using this)))
  have hsrc := fun h0 => hr1.src 8 (Nat.le_refl _) h0
  rw [List.take_of_length_le (by rw [hPl.out]; omega)] at hsrc
  have HSRC := Lib.hid hsrc
  clear hsrc ho1 hb1 hl1 hbl1 hdl1
  refine any_copy 8 (dst := some 38) (d := .tmp 30) (s := .tmp 37) (dT := 23) (sT := 23) (by kernel_rfl) (by rfl) 5 Tryd.underlying23 u8size (some ⟨w.heap.size + 1, 56, none⟩) a1 8 8 8 c1 (by rfl) (by rfl) (w.heap.size + 1) 56 (cellsOf (zs64)) 98 HBE.out (cellsOf PP)
    (by rw [cellsOf_length, hPl.out]; rfl) (fun h0 => ⟨rfl, HSRC.out h0⟩) (by rw [cellsOf_length, cellsOf_length, hPl.out, HLL.out]; omega) (cellsOf_one _) ?_
  intro wF hrowF hoF
  have HBF := Brow.copied hrowF
  obtain ⟨L3, hL3⟩ : ∃ z, z = splice (zs64) 56 PP := ⟨_, rfl⟩
  rw [← hL3] at HBF
  have HBF := Lib.hid HBF
  have hL3l := Lib.hid (show L3.length = 64 from by rw [hL3, length_splice _ _ _ (by rw [hPl.out, HLL.out]; omega), HLL.out])
  have hL3b := Lib.hid (show ∀ z ∈ L3, z < 256 from by rw [hL3]; exact splice_mem HLB.out hPb.out)
  have HL3 := Lib.hid hL3
  have HDF := Lib.hid (HDE.out.only hoF (by omega))
  have hg5 : w.heap.size + 1 < wB.heap.size := HB2.out.lt
  have HWF := Lib.hid (HWE.out.only hoF (by omega))
  have HWWF := Lib.hid (HWWE.out.trans (hoF.below (by omega) (by have := HWWE.out.size; omega)))
  clear hrowF hoF hL3
  refine wpAny_done (by kernel_rfl) ?_ _
  have HI8m := Lib.hid (show (Tryd.prog.info? 96).map (·.size) = some (wordsOf M1).toArray.size from by rw [wordsOf_size, HH8.out.1]; exact info_words)
  have HI64 := Lib.hid (show (Tryd.prog.info? 98).map (·.size) = some (cellsOf L3).toArray.size from by rw [cellsOf_size, hL3l.out]; exact info_block)
  go_wp2_with (first | (refine wpList_load_row (by rfl) 96 _ (by rfl) wB.heap.size (by rfl) _ (wordsOf M1).toArray (0, 0) _ HWF.out Tryd.underlying96 (by rfl) HI8m.out ?_) | (refine wpList_load_row (by rfl) 98 _ (by rfl) (w.heap.size + 1) (by rfl) _ (cellsOf L3).toArray (0, 0) _ HBF.out Tryd.underlying98 (by rfl) HI64.out ?_))
  have HTF := Lib.hid (HT.out.below HWWF.out hg0)
  refine (mix_c M1 L3 wF HH8.out.1 HH8.out.2 hL3l.out hL3b.out HTF.out).mono ?_
  rintro e5 wG ⟨rfl, hb5⟩
  obtain ⟨M, hM⟩ : ∃ z, z = Sha.mix (M1) L3 := ⟨_, rfl⟩
  rw [← hM]
  have hM8 := Lib.hid (show Sha.W8 M from by rw [hM]; exact Sha.W8.mix _ _)
  have HM := Lib.hid hM
  have hdlF := HDF.out.lt
  have hwlF := HWF.out.lt
  have HDG := Lib.hid (HDF.out.below hb5 hdlF)
  have HWG := Lib.hid (HWF.out.below hb5 hwlF)
  have HWWG := Lib.hid (HWWF.out.trans (hb5.mono HWWF.out.size))
  have hwlG := HWG.out.lt
  clear hb5 hM hdlF hwlF
  have K7 := Lib.hid (step7 M HDG.out HWG.out HWWG.out hg5)
  have HI8M := Lib.hid (show (Tryd.prog.info? 96).map (·.size) = some (wordsOf M).toArray.size from by rw [wordsOf_size, hM8.out.1]; exact info_words)
  have hszM := Lib.hid (show (wordsOf M1).toArray.size = (wordsOf M).toArray.size from by rw [wordsOf_size, wordsOf_size, hM8.out.1, HH8.out.1])
  go_wp2_with (first | (refine wpList_store_row (by rfl) 96 _ _ (by rfl) wB.heap.size (wordsOf M).toArray (by rfl) (by rfl) 96 (wordsOf M1).toArray HWG.out HI8M.out hszM.out (wordsOf_one _) ?_; refine gen_world (F := fun W => Brow W w.heap.size 27 zs32 ∧ Wrow W wB.heap.size 96 M ∧ Below w.heap.size w W) K7.out ?_; rintro wH ⟨hdH, hwH, hwwH⟩; have HDH := Lib.hid hdH; have HWH := Lib.hid hwH; have HWWH := Lib.hid hwwH; clear hdH hwH hwwH))
  refine gen_code (F := fun W => Brow W w.heap.size 27 zs32 ∧ Brow W wH.heap.size 27 zs32 ∧ Wrow W wB.heap.size 96 M ∧ Below w.heap.size w W) (step8 HDH.out HWH.out HWWH.out _ rfl) ?_
  rintro wI ⟨hdI, heI, hwI, hwwI⟩
  have HDI := Lib.hid hdI
  have HEI := Lib.hid heI
  have HWI := Lib.hid hwI
  have HWWI := Lib.hid hwwI
  have hne : w.heap.size < wH.heap.size := HDH.out.lt
  clear hdI heI hwI hwwI
  have HDA := fun W => run_digAll W wH.heap.size 0
  refine wp_region_any (by kernel_rfl) ?_
  change wpAny _ _ _ _ _ _ _ wI.drew
  refine any_pure 0 (d := 42) (op := .slice 27 (.tmp 6) none none none) (.slice (some ⟨wH.heap.size, 0, none⟩) 32 32) (by rfl) (by kernel_rfl) (by kernel_rfl) (by kernel_rfl) (fun _ _ _ h => h) (fun o ho W => by unfold execOp; simp only [ho]; simp [HDA W, Act.eval]) ?_
  simp only [Act.put, List.setIfInBounds_toArray, List.set_cons_zero, List.set_cons_succ]
  have HRL := Lib.hid (run_loadAt_mid wI.drew wB.heap.size 0 96 (wordsOf M) _ HWI.out.drew.range Tryd.underlying96 rfl (by rw [wordsOf_length, hM8.out.1]; exact info_words))
  refine any_load 1 (d := 43) (ty := 96) (x := .tmp 5) (p := .pointer (some ⟨wB.heap.size, 0, none⟩)) (v := .agg (wordsOf M).toArray) (by kernel_rfl) (by rfl) (by rfl) HRL.out ?_
  simp only [Act.put, List.setIfInBounds_toArray, List.set_cons_zero, List.set_cons_succ]
  have HSP := Lib.hid ((spread_c M wI.drew hM8.out).mono (RetB.form (bytesOf_byte M)))
  refine any_call 2 (d := some 44) (f := 65) (xs := #[.tmp 43]) (ts := #[96]) (vs := #[.agg (wordsOf M).toArray]) (by kernel_rfl) (by rfl) (by go_simp) (by go_simp) HSP.out ?_
  rintro e6 wJ ⟨a2, L2, c2, rfl, hl2, hlc2, hc2, hn2, hr2, ho2, hb2⟩
  refine ⟨_, rfl, ?_⟩
  simp only [Act.put, List.setIfInBounds_toArray, List.set_cons_zero, List.set_cons_succ]
  have hML := hM8.out.1
  obtain rfl : L2 = 32 := by rw [← hl2, bytesOf_len, hML]
  have hdl2 := HDI.out.lt
  have hel2 := HEI.out.lt
  have HDJ := Lib.hid (HDI.out.drew.below hb2 (by simpa using hdl2))
  have HEJ := Lib.hid (HEI.out.drew.below hb2 (by simpa using hel2))
  have HWWJ := Lib.hid (HWWI.out.drew.trans (hb2.mono (by have := HWWI.out.size; simpa using this)))
  have hsrc := fun h0 => hr2.src 32 (Nat.le_refl _) h0
  rw [List.take_of_length_le (by rw [bytesOf_len, hML]; omega)] at hsrc
  have HSRC := Lib.hid hsrc
  clear hsrc ho2 hb2 hl2 hdl2 hel2 HDA
  refine any_copy 3 (dst := some 45) (d := .tmp 42) (s := .tmp 44) (dT := 23) (sT := 23) (by kernel_rfl) (by rfl) 5 Tryd.underlying23 u8size (some ⟨wH.heap.size, 0, none⟩) a2 32 32 32 c2 (by rfl) (by rfl) wH.heap.size 0 (cellsOf zs32) 27 HEJ.out (cellsOf (Sha.bytesOf M))
    (by rw [cellsOf_length, bytesOf_len, hML]; rfl) (fun h0 => ⟨rfl, HSRC.out h0⟩) (by rw [cellsOf_length, cellsOf_length, bytesOf_len, hML, zs32_len]; omega) (cellsOf_one _) ?_
  intro wK hrowK hoK
  have HEK := Brow.copied hrowK
  rw [splice_whole zs32 (Sha.bytesOf M) (by rw [zs32_len, bytesOf_len, hML])] at HEK
  have HEK := Lib.hid HEK
  have HDK := Lib.hid (HDJ.out.only hoK (by omega))
  have HWWK := Lib.hid (HWWJ.out.trans (hoK.below (by omega) (by have := HWWJ.out.size; omega)))
  clear hrowK hoK
  refine wpAny_done (by kernel_rfl) ?_ _
  obtain ⟨D, hD⟩ : ∃ z, z = Sha.bytesOf M := ⟨_, rfl⟩
  rw [← hD] at HEK
  have hDl := Lib.hid (show D.length = 32 from by rw [hD, bytesOf_len, hML])
  have HDD' := Lib.hid hD
  clear hD hML
  have HI32 := Lib.hid (show (Tryd.prog.info? 27).map (·.size) = some (cellsOf D).toArray.size from by rw [cellsOf_size, hDl.out]; exact info_dig)
  have hsz32 := Lib.hid (show (cellsOf zs32).toArray.size = (cellsOf D).toArray.size from by rw [cellsOf_size, cellsOf_size, hDl.out, zs32_len])
  have HFIN := Lib.hid (show (wK.setRow w.heap.size (cellsOf D).toArray).heap[w.heap.size]? = some (.cells (cellsOf D).toArray 27 (0, 0)) from setRow_heap _ _ _ _ _ _ HDK.out)
  have HBFIN := Lib.hid (HWWK.out.setRow (Nat.le_refl _) (cellsOf D).toArray)
  go_wp2_with (first | (refine wpList_load_row (by rfl) 27 _ (by rfl) wH.heap.size (by rfl) _ (cellsOf D).toArray (0, 0) _ HEK.out Tryd.underlying27 (by rfl) HI32.out ?_) | (refine wpList_store_row (by rfl) 27 _ _ (by rfl) w.heap.size (cellsOf D).toArray (by rfl) (by rfl) 27 (cellsOf zs32).toArray HDK.out HI32.out hsz32.out (cellsOf_all _) ?_))
  refine bodyPost_ret (results_cell_row (by rfl) _ _ w.heap.size _ (cellsOf D).toArray (0, 0) _ (by rfl) HFIN.out Tryd.underlying27 (by rfl) HI32.out) ?_ ?_
  · rfl
  · refine ⟨?_, HBFIN.out⟩
    rw [HDD'.out, HM.out, HL3.out, HPP.out, HM1.out, HL0.out, ← hTl.out, close_more _ _ _ (by rw [hTl.out]; exact hr) (by rw [hTl.out]; exact hr64)]

/-- the state's Sum -/
theorem ssum_c (w : World) (g : Nat) (hs tail : List Nat) (n : Nat) (h : StM w g hs tail n) (ht : Tab w) :
    Calls Tryd.prog 46 #[.pointer (some ⟨g, 0, none⟩)] w (DigRet (Sha.close hs tail n) w) := by
  obtain ⟨bs, hst, rfl⟩ := h
  by_cases hr : n % 64 < 56
  · exact ssum_less w g hs bs n hst ht hr
  · exact ssum_more w g hs bs n hst ht (by omega)
end Go.Proofs.YthnfbdmkdpokcaaDoor
