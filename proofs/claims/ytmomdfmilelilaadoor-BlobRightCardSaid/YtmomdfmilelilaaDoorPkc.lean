/-
  The walk over the state's Sum. The walks over digest.Sum and Text. The walk over the state's Save; a nil state's Write, Sum and Save. The order of sums: bytes.Compare, digest.Compare, the document's Below; whether two sums are one. The walk over 'awake' of layer 2: the answers that the document fixes. The walk over DigestOrders. The walk over DigestNil. What the arguments of a law of this seat give its walk: sums that came in; the table of the rounds' constants.
-/
import Derived.Test.YtmomdfmilelilaaDoorPkb
import Derived.Test.YtmomdfmilelilaaDoorPka
import Derived.Lib.Bytealg
import Derived.Lib.BytesEntry
import Derived.Stop.BytesEq
import Derived.Lib.SlBytesConst
import Derived.Test.YtmomdfmilelilaaDoorCards
import Derived.Test.YtmomdfmilelilaaDoorTie
import Derived.Deep.DeepHandedRow
import Derived.Lib.LaidTab
import Derived.LaidMore
namespace Go.Proofs.YtmomdfmilelilaaDoor
open Go.RowKit
set_option linter.unusedVariables false

def DigRet (d : List Nat) (w : World) (e : Ending) (w' : World) : Prop := e = .returned (.agg (cellsOf d).toArray) ∧ Below w.heap.size w w'
theorem gen_code {P : Program} {c : Code} {Q : Exit → Act → World → Prop} {a : Act} {W : World} {F : World → Prop} (h : F W) (k : ∀ w, F w → c.wp P Q a w) : c.wp P Q a W := k W h
theorem heap_new2 (w : World) (o1 o2 : Obj) : ((w.alloc o1).alloc o2).heap[w.heap.size]? = some o1 ∧ ((w.alloc o1).alloc o2).heap[w.heap.size + 1]? = some o2 := by
  refine ⟨?_, ?_⟩
  · rw [Below.heap_alloc _ _ _ (by simp)]; exact heap_new w o1
  · have := heap_new (w.alloc o1) o2
    simpa using this
theorem St.rdAll {w : World} {g : Nat} {hs bs : List Nat} {n : Nat} (h : St w g hs bs n) : Rd w (some ⟨g, 8, none⟩) 64 bs := by
  have h1 := h.rd 0 64 (by omega)
  rw [List.drop_zero, List.take_of_length_le (by rw [h.bl]; omega)] at h1
  exact h1
theorem zs64_mem : ∀ z ∈ zs64, z < 256 := by decide
theorem set_mem (L : List Nat) (r x : Nat) (h : ∀ z ∈ L, z < 256) (hx : x < 256) : ∀ z ∈ L.set r x, z < 256 := by
  intro z hz
  rcases List.mem_or_eq_of_mem_set hz with h1 | rfl
  · exact h z h1
  · exact hx
theorem splice_whole (a b : List Nat) (h : a.length = b.length) : splice a 0 b = b := by
  unfold splice
  rw [List.take_zero, List.nil_append, List.drop_eq_nil_of_le (by omega), List.append_nil]
theorem bytesOf_byte (hs : List Nat) : ∀ z ∈ Sha.bytesOf hs, z < 256 := by
  intro z hz
  simp only [Sha.bytesOf, List.mem_flatMap] at hz
  obtain ⟨x, _, hx⟩ := hz
  exact Numm.put_byte _ _ z hx
theorem Wrow.range {w : World} {g : Nat} {t : TypeId} {ws : List Nat} (h : Wrow w g t ws) : w.rangeAt g 0 (wordsOf ws) := fun j v hv => by
  rw [Nat.zero_add, cell_of_row w g j _ t _ h]
  simpa using hv
theorem step7 {w wG : World} {B : Nat} {HH : List Nat} (M : List Nat) (hd : Brow wG w.heap.size 37 zs32) (hw : Wrow wG B 86 HH) (hb : Below w.heap.size w wG) (hB : w.heap.size + 1 < B) :
    Brow (wG.setRow B (wordsOf M).toArray) w.heap.size 37 zs32 ∧ Wrow (wG.setRow B (wordsOf M).toArray) B 86 M ∧ Below w.heap.size w (wG.setRow B (wordsOf M).toArray) := by
  have o : Only B wG (wG.setRow B (wordsOf M).toArray) := (Only.refl _ _).setRow _
  exact ⟨hd.only o (by omega), hw.setRow, hb.trans (o.below (by omega) hb.size)⟩
theorem step9 {w wP : World} {B g n : Nat} {hs bs LL : List Nat} (M : List Nat) (hd : Brow wP w.heap.size 37 zs32) (hb : Brow wP (w.heap.size + 1) 88 LL) (hw : Wrow wP B 86 hs) (hst : St wP g hs bs n) (hbel : Below w.heap.size w wP)
    (hB : w.heap.size + 1 < B) (hg : g < w.heap.size) :
    Brow (wP.setRow B (wordsOf M).toArray) (w.heap.size + 1) 88 LL ∧
    (Brow ((wP.setRow B (wordsOf M).toArray).setRow (w.heap.size + 1) (cellsOf zs64).toArray) w.heap.size 37 zs32 ∧
     Brow ((wP.setRow B (wordsOf M).toArray).setRow (w.heap.size + 1) (cellsOf zs64).toArray) (w.heap.size + 1) 88 zs64 ∧
     Wrow ((wP.setRow B (wordsOf M).toArray).setRow (w.heap.size + 1) (cellsOf zs64).toArray) B 86 M ∧
     St ((wP.setRow B (wordsOf M).toArray).setRow (w.heap.size + 1) (cellsOf zs64).toArray) g hs bs n ∧
     Below w.heap.size w ((wP.setRow B (wordsOf M).toArray).setRow (w.heap.size + 1) (cellsOf zs64).toArray)) := by
  have o : Only B wP (wP.setRow B (wordsOf M).toArray) := (Only.refl _ _).setRow _
  have hb1 := hb.only o (by omega)
  have hd1 := hd.only o (by omega)
  have hs1 := hst.only o (by have := hb.lt; have := hw.lt; omega)
  have hw1 : Wrow (wP.setRow B (wordsOf M).toArray) B 86 M := hw.setRow
  have e1 := hbel.trans (o.below (by omega) hbel.size)
  refine ⟨hb1, ?_⟩
  generalize wP.setRow B (wordsOf M).toArray = W at *
  have o2 : Only (w.heap.size + 1) W (W.setRow (w.heap.size + 1) (cellsOf zs64).toArray) := (Only.refl _ _).setRow _
  exact ⟨hd1.only o2 (by omega), hb1.setRow, hw1.only o2 (by omega), hs1.only o2 (by omega), e1.trans (o2.below (by omega) e1.size)⟩
theorem step8 {w wH : World} {B : Nat} {M : List Nat} (hd : Brow wH w.heap.size 37 zs32) (hw : Wrow wH B 86 M) (hb : Below w.heap.size w wH) (X : Obj) (hX : X = .cells (cellsOf zs32).toArray 37 (0, 0)) :
    Brow (wH.alloc X) w.heap.size 37 zs32 ∧ Brow (wH.alloc X) wH.heap.size 37 zs32 ∧ Wrow (wH.alloc X) B 86 M ∧ Below w.heap.size w (wH.alloc X) := by
  subst hX
  have b := (Below.refl wH.heap.size wH).alloc (Nat.le_refl _) (.cells (cellsOf zs32).toArray 37 (0, 0))
  exact ⟨hd.below b hd.lt, Brow.new _ _ _, hw.below b hw.lt, hb.trans (b.mono hb.size)⟩
theorem run_b56 (W : World) (g : Nat) : (Instr.sliceAt 88 (.pointer (some ⟨g, 0, none⟩)) (some (.int .i64 56)) none none).run Tryd.prog W = .ok (.slice (some ⟨g, 56, none⟩) 8 8) W := by
  have := run_blockFrom W g 0 56 (by omega)
  rw [Nat.zero_add] at this
  exact this
theorem heap_newS (w : World) (ad : Addr) (v : Value) (o : Obj) : ((w.setCell ad v).alloc o).heap[w.heap.size]? = some o := by
  have := heap_new (w.setCell ad v) o
  simpa using this
theorem step6 {w wB : World} {g n : Nat} {hs bs L0 : List Nat} (hd : Brow wB w.heap.size 37 zs32) (hb : Brow wB (w.heap.size + 1) 88 L0) (hst : St wB g hs bs n) (hw : Below w.heap.size w wB) (hg : g < w.heap.size)
    (r : Nat) (X : Obj) (hX : X = .cells (wordsOf zs8).toArray 86 (0, 0)) :
    Brow (((wB.setCell ⟨w.heap.size + 1, r, none⟩ (.int .u8 128)).alloc X).setRow wB.heap.size (wordsOf hs).toArray) w.heap.size 37 zs32 ∧
    Brow (((wB.setCell ⟨w.heap.size + 1, r, none⟩ (.int .u8 128)).alloc X).setRow wB.heap.size (wordsOf hs).toArray) (w.heap.size + 1) 88 (L0.set r 128) ∧
    Wrow (((wB.setCell ⟨w.heap.size + 1, r, none⟩ (.int .u8 128)).alloc X).setRow wB.heap.size (wordsOf hs).toArray) wB.heap.size 86 hs ∧
    St (((wB.setCell ⟨w.heap.size + 1, r, none⟩ (.int .u8 128)).alloc X).setRow wB.heap.size (wordsOf hs).toArray) g hs bs n ∧
    Below w.heap.size w (((wB.setCell ⟨w.heap.size + 1, r, none⟩ (.int .u8 128)).alloc X).setRow wB.heap.size (wordsOf hs).toArray) := by
  subst hX
  obtain ⟨W1, hW1⟩ : ∃ z, z = wB.setCell ⟨w.heap.size + 1, r, none⟩ (.int .u8 128) := ⟨_, rfl⟩
  have o1 : Only (w.heap.size + 1) wB W1 := by rw [hW1]; exact (Only.refl _ _).setCell _ _
  have hs1 : W1.heap.size = wB.heap.size := by rw [hW1]; simp
  have hb1 : Brow W1 (w.heap.size + 1) 88 (L0.set r 128) := by rw [hW1]; exact hb.set r 128
  have hd1 := hd.only o1 (by omega)
  have hst1 := hst.only o1 (by omega)
  have hbl := hb.lt
  have hdl := hd.lt
  have hsl := hst.lt
  rw [← hW1, ← hs1]
  obtain ⟨W2, hW2⟩ : ∃ z, z = W1.alloc (.cells (wordsOf zs8).toArray 86 (0, 0)) := ⟨_, rfl⟩
  have b2 : Below W1.heap.size W1 W2 := by rw [hW2]; exact (Below.refl _ _).alloc (Nat.le_refl _) _
  have hw2 : Wrow W2 W1.heap.size 86 zs8 := by rw [hW2]; exact Wrow.new _ _ _
  rw [← hW2]
  have o3 : Only W1.heap.size W2 (W2.setRow W1.heap.size (wordsOf hs).toArray) := (Only.refl _ _).setRow _
  refine ⟨(hd1.below b2 (by omega)).only o3 (by omega), (hb1.below b2 (by omega)).only o3 (by omega), hw2.setRow, (hst1.below b2 (by omega)).only o3 (by omega), ?_⟩
  exact ((hw.trans (o1.below (by omega) (by omega))).trans (b2.mono (by omega))).trans (o3.below (by omega) (by have := b2.size; omega))
set_option maxRecDepth 100000 in
set_option maxHeartbeats 2000000 in
theorem ssum_less (w : World) (g : Nat) (hs bs : List Nat) (n : Nat) (h : St w g hs bs n) (ht : Tab w) (hr : n % 64 < 56) :
    Calls Tryd.prog 23 #[.pointer (some ⟨g, 0, none⟩)] w (DigRet (Sha.close hs (bs.take (n % 64)) n) w) := by
  have HST := Lib.hid h
  have HT := Lib.hid ht
  have hg := h.lt
  have hg0 : 0 < w.heap.size := by omega
  obtain ⟨r, hr'⟩ : ∃ z, z = n % 64 := ⟨_, rfl⟩
  rw [← hr'] at hr ⊢
  have hr64 : r < 64 := by omega
  have HR := Lib.hid hr'
  have h8 := Lib.hid h.w8
  have hbl := Lib.hid h.bl
  have hbb := Lib.hid h.bb
  have hnn := Lib.hid h.nn
  clear h ht hr'
  obtain ⟨T, hT⟩ : ∃ z, z = bs.take r := ⟨_, rfl⟩
  rw [← hT]
  have hTl := Lib.hid (show T.length = r from by rw [hT, List.length_take, hbl.out]; omega)
  have hTb := Lib.hid (show ∀ z ∈ T, z < 256 from by rw [hT]; exact fun z hz => hbb.out z (List.mem_of_mem_take hz))
  have HTT := Lib.hid hT
  clear hT
  have HBA := fun W => run_blockAll W (w.heap.size + 1) 0
  have HBT := fun W => run_blockTo W g 8 r (by omega)
  go_enter Tryd.func23, Tryd.ntmps23
  go_wp2_with fail
  refine gen_code (F := fun W => Brow W w.heap.size 37 zs32 ∧ Brow W (w.heap.size + 1) 88 zs64 ∧ Below w.heap.size w W) ⟨(heap_new2 _ _ _).1, (heap_new2 _ _ _).2, ((Below.refl _ _).alloc (Nat.le_refl _) _).alloc (by simp) _⟩ ?_
  rintro wA ⟨hd, hb, hw⟩
  have HD := Lib.hid hd
  have HB := Lib.hid hb
  have HW := Lib.hid hw
  have HSA := Lib.hid (HST.out.below hw hg)
  clear hd hb hw
  have HWT := Lib.hid (show ∀ W, St W g hs bs n → Calls Tryd.prog 36 #[.pointer (some ⟨g, 0, none⟩)] W (fun e w' => e = .returned (.int .i64 (r : Int)) ∧ w' = W) from fun W hW => (waiting_c W g hs bs n hW).mono fun e w' ⟨h1, h2⟩ => ⟨by rw [h1, HR.out], h2.symm⟩)
  refine wp_region_still_tail 7 (by kernel_rfl) (by kernel_rfl) ?_
  simp only [List.take_succ_cons, List.take_zero, List.drop_succ_cons, List.drop_zero]
  still_step
  still_step
  still_step
  still_step
  still_step
  still_call (HWT.out _ HSA.out.drew)
  still_step
  refine wpStill_nil ?_
  change wpList _ _ _ _ _ wA.drew
  clear HBA HBT HWT
  have hcn := Lib.hid (show (cellsOf T).length = Nat.min r 64 from by rw [cellsOf_length, hTl.out]; exact (Nat.min_eq_left (by omega)).symm)
  have hcp := Lib.hid (show 0 < (cellsOf T).length → (some ⟨w.heap.size + 1, 0, none⟩ : Option Addr) = some ⟨w.heap.size + 1, 0, none⟩ ∧ ∃ ad, (some ⟨g, 8, none⟩ : Option Addr) = some ad ∧ ∀ j v, (cellsOf T)[j]? = some v → wA.drew.cell? (ad.add j) = some v from
    fun h0 => ⟨rfl, by rw [HTT.out] at h0 ⊢; exact HSA.out.drew.rdAll.src r (by omega) h0⟩)
  have hcf := Lib.hid (show 0 + (cellsOf T).length ≤ (cellsOf zs64).length from by rw [cellsOf_length, cellsOf_length, hTl.out, zs64_len]; omega)
  go_wp2_with (refine wpList_copy_only rfl (.tmp 10) (.tmp 16) 33 33 rfl 5 Tryd.underlying33 u8size _ _ _ _ _ _ rfl rfl (w.heap.size + 1) 0 (cellsOf zs64) 88 HB.out (cellsOf T) hcn.out hcp.out hcf.out (cellsOf_one _) ?_)
  intro wB hrowB hoB
  rw [cellsOf_length, hTl.out]
  have HB2 := Lib.hid (Brow.copied hrowB)
  have HD2 := Lib.hid (Brow.only (g' := w.heap.size + 1) HD.out.drew hoB (by omega))
  have HS2 := Lib.hid (HSA.out.drew.only hoB (by omega))
  have HW2 := Lib.hid (HW.out.drew.trans (hoB.below (by omega) (by have := HW.out.size; simpa using this)))
  clear hrowB hoB HD HSA HW HB hcn hcp hcf
  obtain ⟨L0, hL0⟩ : ∃ z, z = splice zs64 0 T := ⟨_, rfl⟩
  have hL0l : L0.length = 64 := by rw [hL0, length_splice _ _ _ (by rw [hTl.out, zs64_len]; omega), zs64_len]
  rw [← hL0] at HB2
  have HL0 := Lib.hid hL0
  have hcell := HB2.out.cell r (by omega)
  have hfz := HB2.out.frozen r
  have HL0l := Lib.hid hL0l
  clear hL0 hL0l
  have q1 : (0 : Int) ≤ (r : Int) := by omega
  have q2 : (r : Int) < 64 := by omega
  have HI8 := Lib.hid (show (Tryd.prog.info? 86).map (·.size) = some (wordsOf hs).length from by rw [wordsOf_length, h8.out.1]; exact info_words)
  have HS3 := fun W (hW : Only (w.heap.size + 1) wB W) => HS2.out.only hW (show g ≠ w.heap.size + 1 by omega)
  have HS3' := Lib.hid (HS3 (wB.setCell ⟨w.heap.size + 1, r, none⟩ (.int .u8 128)) ((Only.refl _ _).setCell _ _)).words
  have HS3 := Lib.hid HS3
  have K1 := Lib.hid (fun (X : Obj) (hX : X = .cells (wordsOf zs8).toArray 86 (0, 0)) => step6 HD2.out HB2.out HS2.out HW2.out hg r X hX)
  have hnew := Lib.hid (fun (X : Obj) => heap_newS wB ⟨w.heap.size + 1, r, none⟩ (.int .u8 128) X)
  have hsz8 := Lib.hid (show (wordsOf zs8).toArray.size = (wordsOf hs).toArray.size from by rw [wordsOf_size, wordsOf_size, h8.out.1]; rfl)
  have HI8' := Lib.hid (show (Tryd.prog.info? 86).map (·.size) = some (wordsOf hs).toArray.size from by rw [wordsOf_size, h8.out.1]; exact info_words)
  go_wp2_with (first | (refine wpList_load_mid (by rfl) 86 _ (by rfl) g 0 (by rfl) (wordsOf hs) _ HS3'.out Tryd.underlying86 rfl HI8.out ?_) | (refine wpList_store_row (by rfl) 86 _ _ (by rfl) wB.heap.size (wordsOf hs).toArray (by rfl) (by rfl) 86 (wordsOf zs8).toArray (by exact hnew.out _) HI8'.out hsz8.out (wordsOf_one _) ?_; refine gen_world (F := fun W => Brow W w.heap.size 37 zs32 ∧ Brow W (w.heap.size + 1) 88 (L0.set r 128) ∧ Wrow W wB.heap.size 86 hs ∧ St W g hs bs n ∧ Below w.heap.size w W) (K1.out _ rfl) ?_; rintro wD ⟨hdD, hbD, hwD, hsD, hwwD⟩; have HDD := Lib.hid hdD; have HBD := Lib.hid hbD; have HWD := Lib.hid hwD; have HSD := Lib.hid hsD; have HWWD := Lib.hid hwwD; clear hdD hbD hwD hsD hwwD))
  have H56 := fun W => run_b56 W (w.heap.size + 1)
  have HNN := Lib.hid (show 8 * n < 18446744073709551616 from by have := hnn.out; omega)
  have hcz := HSD.out.size
  have hmul : IntKind.u64.wrap (8 * (n : Int)) = ((8 * n : Nat) : Int) := by have := hnn.out; rw [IntKind.wrap_u64]; omega
  have hcv : IntKind.u64.wrap (n : Int) = (n : Int) := by have := hnn.out; rw [IntKind.wrap_u64]; omega
  (try dsimp only [Act.put, List.setIfInBounds_toArray, List.set_cons_zero, List.set_cons_succ])
  refine wp_region_any (by kernel_rfl) ?_
  change wpAny _ _ _ _ _ _ _ wD.drew
  refine any_pure 0 (d := 30) (op := .slice 88 (.tmp 3) (some (.const (.int .i64 56))) none none) (.slice (some ⟨w.heap.size + 1, 56, none⟩) 8 8) (by rfl) (by kernel_rfl) (by kernel_rfl) (by kernel_rfl) (fun _ _ _ h => h) (fun o ho W => by unfold execOp; simp only [ho]; simp [H56 W, Act.eval]) ?_
  simp only [Act.put, List.setIfInBounds_toArray, List.set_cons_zero, List.set_cons_succ]
  refine any_pure 1 (d := 31) (op := .move (.tmp 0)) (.pointer (some ⟨g, 0, none⟩)) (by rfl) (by kernel_rfl) (by kernel_rfl) (by kernel_rfl) (fun _ _ _ h => h) (fun o ho W => by unfold execOp; simp only [ho]; go_simp) ?_
  simp only [Act.put, List.setIfInBounds_toArray, List.set_cons_zero, List.set_cons_succ]
  refine any_pure 2 (d := 32) (op := .nilCheck (.tmp 31)) (.pointer (some ⟨g, 0, none⟩)) (by rfl) (by kernel_rfl) (by kernel_rfl) (by kernel_rfl) (fun _ _ _ h => h) (fun o ho W => by unfold execOp; simp only [ho]; go_simp) ?_
  simp only [Act.put, List.setIfInBounds_toArray, List.set_cons_zero, List.set_cons_succ]
  refine any_pure 3 (d := 33) (op := .fieldAddr 90 (.tmp 32) 2) (.pointer (some ⟨g, 72, none⟩)) (by rfl) (by kernel_rfl) (by kernel_rfl) (by kernel_rfl) (fun _ _ _ h => h) (fun o ho W => by unfold execOp; simp only [ho]; go_simp) ?_
  simp only [Act.put, List.setIfInBounds_toArray, List.set_cons_zero, List.set_cons_succ]
  refine any_load 4 (d := 34) (ty := 3) (x := .tmp 33) (p := .pointer (some ⟨g, 72, none⟩)) (v := .int .i64 (n : Int)) (by kernel_rfl) (by rfl) (by rfl) (by go_simp) ?_
  simp only [Act.put, List.setIfInBounds_toArray, List.set_cons_zero, List.set_cons_succ]
  refine any_pure 5 (d := 35) (op := .convert 3 94 (.tmp 34)) (.int .u64 (n : Int)) (by rfl) (by kernel_rfl) (by kernel_rfl) (by kernel_rfl) (fun _ _ _ h => h) (fun o ho W => by unfold execOp; simp only [ho]; go_simp) ?_
  simp only [Act.put, List.setIfInBounds_toArray, List.set_cons_zero, List.set_cons_succ]
  refine any_pure 6 (d := 36) (op := .binOp .mul 94 (.const (.int .u64 8)) (.tmp 35) 94) (.int .u64 ((8 * n : Nat) : Int)) (by rfl) (by kernel_rfl) (by kernel_rfl) (by kernel_rfl) (fun _ _ _ h => h) (fun o ho W => by unfold execOp; simp only [ho]; go_simp) ?_
  simp only [Act.put, List.setIfInBounds_toArray, List.set_cons_zero, List.set_cons_succ]
  have HH8 := Lib.hid (show Sha.W8 hs from h8.out)
  have HLL := Lib.hid (show ((L0.set r 128)).length = 64 from by rw [List.length_set, HL0l.out])
  have HLB := Lib.hid (show ∀ z ∈ (L0.set r 128), z < 256 from set_mem L0 r 128 (by rw [HL0.out]; exact splice_mem zs64_mem hTb.out) (by omega))
  obtain ⟨PP, hPP⟩ : ∃ z, z = Numm.put (8 * n) 8 := ⟨_, rfl⟩
  have hPl := Lib.hid (show PP.length = 8 from by rw [hPP, Numm.put_len])
  have hPb := Lib.hid (show ∀ z ∈ PP, z < 256 from by rw [hPP]; exact Numm.put_byte _ _)
  have HPUT := (put_in (8 * n) 8 wD.drew HNN.out (by omega)).mono (RetB.form (Numm.put_byte _ _))
  rw [← hPP] at HPUT
  have HPUT := Lib.hid HPUT
  have HPP := Lib.hid hPP
  clear hPP hmul hcv hcz H56
  refine any_call 7 (d := some 37) (f := 38) (xs := #[.tmp 36, .const (.int .i64 8)]) (ts := #[94, 3]) (vs := #[.int .u64 ((8 * n : Nat) : Int), .int .i64 8]) (by kernel_rfl) (by rfl) (by go_simp) (by go_simp) HPUT.out ?_
  rintro e4 wE ⟨a1, L1, c1, rfl, hl1, hlc1, hc1, hn1, hr1, ho1, hb1⟩
  refine ⟨_, rfl, ?_⟩
  simp only [Act.put, List.setIfInBounds_toArray, List.set_cons_zero, List.set_cons_succ]
  obtain rfl : L1 = 8 := by rw [← hl1, hPl.out]
  have hbl1 := HBD.out.lt
  have hdl1 := HDD.out.lt
  have hwl1 := HWD.out.lt
  have HBE := Lib.hid (HBD.out.drew.below hb1 (by simpa using hbl1))
  have HDE := Lib.hid (HDD.out.drew.below hb1 (by simpa using hdl1))
  have HWE := Lib.hid (HWD.out.drew.below hb1 (by simpa using hwl1))
  have HWWE := Lib.hid (HWWD.out.drew.trans (hb1.mono (by have := HWWD.out.size; simpa using this)))
  have hsrc := fun h0 => hr1.src 8 (Nat.le_refl _) h0
  rw [List.take_of_length_le (by rw [hPl.out]; omega)] at hsrc
  have HSRC := Lib.hid hsrc
  clear hsrc ho1 hb1 hl1 hbl1 hdl1
  refine any_copy 8 (dst := some 38) (d := .tmp 30) (s := .tmp 37) (dT := 33) (sT := 33) (by kernel_rfl) (by rfl) 5 Tryd.underlying33 u8size (some ⟨w.heap.size + 1, 56, none⟩) a1 8 8 8 c1 (by rfl) (by rfl) (w.heap.size + 1) 56 (cellsOf ((L0.set r 128))) 88 HBE.out (cellsOf PP)
    (by rw [cellsOf_length, hPl.out]; rfl) (fun h0 => ⟨rfl, HSRC.out h0⟩) (by rw [cellsOf_length, cellsOf_length, hPl.out, HLL.out]; omega) (cellsOf_one _) ?_
  intro wF hrowF hoF
  have HBF := Brow.copied hrowF
  obtain ⟨L3, hL3⟩ : ∃ z, z = splice ((L0.set r 128)) 56 PP := ⟨_, rfl⟩
  rw [← hL3] at HBF
  have HBF := Lib.hid HBF
  have hL3l := Lib.hid (show L3.length = 64 from by rw [hL3, length_splice _ _ _ (by rw [hPl.out, HLL.out]; omega), HLL.out])
  have hL3b := Lib.hid (show ∀ z ∈ L3, z < 256 from by rw [hL3]; exact splice_mem HLB.out hPb.out)
  have HL3 := Lib.hid hL3
  have HDF := Lib.hid (HDE.out.only hoF (by omega))
  have hg5 : w.heap.size + 1 < wB.heap.size := HB2.out.lt
  have HWF := Lib.hid (HWE.out.only hoF (by omega))
  have HWWF := Lib.hid (HWWE.out.trans (hoF.below (by omega) (by have := HWWE.out.size; omega)))
  clear hrowF hoF hL3
  refine wpAny_done (by kernel_rfl) ?_ _
  have HI8m := Lib.hid (show (Tryd.prog.info? 86).map (·.size) = some (wordsOf hs).toArray.size from by rw [wordsOf_size, HH8.out.1]; exact info_words)
  have HI64 := Lib.hid (show (Tryd.prog.info? 88).map (·.size) = some (cellsOf L3).toArray.size from by rw [cellsOf_size, hL3l.out]; exact info_block)
  go_wp2_with (first | (refine wpList_load_row (by rfl) 86 _ (by rfl) wB.heap.size (by rfl) _ (wordsOf hs).toArray (0, 0) _ HWF.out Tryd.underlying86 (by rfl) HI8m.out ?_) | (refine wpList_load_row (by rfl) 88 _ (by rfl) (w.heap.size + 1) (by rfl) _ (cellsOf L3).toArray (0, 0) _ HBF.out Tryd.underlying88 (by rfl) HI64.out ?_))
  have HTF := Lib.hid (HT.out.below HWWF.out hg0)
  refine (mix_c hs L3 wF HH8.out.1 HH8.out.2 hL3l.out hL3b.out HTF.out).mono ?_
  rintro e5 wG ⟨rfl, hb5⟩
  obtain ⟨M, hM⟩ : ∃ z, z = Sha.mix (hs) L3 := ⟨_, rfl⟩
  rw [← hM]
  have hM8 := Lib.hid (show Sha.W8 M from by rw [hM]; exact Sha.W8.mix _ _)
  have HM := Lib.hid hM
  have hdlF := HDF.out.lt
  have hwlF := HWF.out.lt
  have HDG := Lib.hid (HDF.out.below hb5 hdlF)
  have HWG := Lib.hid (HWF.out.below hb5 hwlF)
  have HWWG := Lib.hid (HWWF.out.trans (hb5.mono HWWF.out.size))
  have hwlG := HWG.out.lt
  clear hb5 hM hdlF hwlF
  have K7 := Lib.hid (step7 M HDG.out HWG.out HWWG.out hg5)
  have HI8M := Lib.hid (show (Tryd.prog.info? 86).map (·.size) = some (wordsOf M).toArray.size from by rw [wordsOf_size, hM8.out.1]; exact info_words)
  have hszM := Lib.hid (show (wordsOf hs).toArray.size = (wordsOf M).toArray.size from by rw [wordsOf_size, wordsOf_size, hM8.out.1, HH8.out.1])
  go_wp2_with (first | (refine wpList_store_row (by rfl) 86 _ _ (by rfl) wB.heap.size (wordsOf M).toArray (by rfl) (by rfl) 86 (wordsOf hs).toArray HWG.out HI8M.out hszM.out (wordsOf_one _) ?_; refine gen_world (F := fun W => Brow W w.heap.size 37 zs32 ∧ Wrow W wB.heap.size 86 M ∧ Below w.heap.size w W) K7.out ?_; rintro wH ⟨hdH, hwH, hwwH⟩; have HDH := Lib.hid hdH; have HWH := Lib.hid hwH; have HWWH := Lib.hid hwwH; clear hdH hwH hwwH))
  refine gen_code (F := fun W => Brow W w.heap.size 37 zs32 ∧ Brow W wH.heap.size 37 zs32 ∧ Wrow W wB.heap.size 86 M ∧ Below w.heap.size w W) (step8 HDH.out HWH.out HWWH.out _ rfl) ?_
  rintro wI ⟨hdI, heI, hwI, hwwI⟩
  have HDI := Lib.hid hdI
  have HEI := Lib.hid heI
  have HWI := Lib.hid hwI
  have HWWI := Lib.hid hwwI
  have hne : w.heap.size < wH.heap.size := HDH.out.lt
  clear hdI heI hwI hwwI
  have HDA := fun W => run_digAll W wH.heap.size 0
  refine wp_region_any (by kernel_rfl) ?_
  change wpAny _ _ _ _ _ _ _ wI.drew
  refine any_pure 0 (d := 42) (op := .slice 37 (.tmp 6) none none none) (.slice (some ⟨wH.heap.size, 0, none⟩) 32 32) (by rfl) (by kernel_rfl) (by kernel_rfl) (by kernel_rfl) (fun _ _ _ h => h) (fun o ho W => by unfold execOp; simp only [ho]; simp [HDA W, Act.eval]) ?_
  simp only [Act.put, List.setIfInBounds_toArray, List.set_cons_zero, List.set_cons_succ]
  have HRL := Lib.hid (run_loadAt_mid wI.drew wB.heap.size 0 86 (wordsOf M) _ HWI.out.drew.range Tryd.underlying86 rfl (by rw [wordsOf_length, hM8.out.1]; exact info_words))
  refine any_load 1 (d := 43) (ty := 86) (x := .tmp 5) (p := .pointer (some ⟨wB.heap.size, 0, none⟩)) (v := .agg (wordsOf M).toArray) (by kernel_rfl) (by rfl) (by rfl) HRL.out ?_
  simp only [Act.put, List.setIfInBounds_toArray, List.set_cons_zero, List.set_cons_succ]
  have HSP := Lib.hid ((spread_c M wI.drew hM8.out).mono (RetB.form (bytesOf_byte M)))
  refine any_call 2 (d := some 44) (f := 39) (xs := #[.tmp 43]) (ts := #[86]) (vs := #[.agg (wordsOf M).toArray]) (by kernel_rfl) (by rfl) (by go_simp) (by go_simp) HSP.out ?_
  rintro e6 wJ ⟨a2, L2, c2, rfl, hl2, hlc2, hc2, hn2, hr2, ho2, hb2⟩
  refine ⟨_, rfl, ?_⟩
  simp only [Act.put, List.setIfInBounds_toArray, List.set_cons_zero, List.set_cons_succ]
  have hML := hM8.out.1
  obtain rfl : L2 = 32 := by rw [← hl2, bytesOf_len, hML]
  have hdl2 := HDI.out.lt
  have hel2 := HEI.out.lt
  have HDJ := Lib.hid (HDI.out.drew.below hb2 (by simpa using hdl2))
  have HEJ := Lib.hid (HEI.out.drew.below hb2 (by simpa using hel2))
  have HWWJ := Lib.hid (HWWI.out.drew.trans (hb2.mono (by have := HWWI.out.size; simpa using this)))
  have hsrc := fun h0 => hr2.src 32 (Nat.le_refl _) h0
  rw [List.take_of_length_le (by rw [bytesOf_len, hML]; omega)] at hsrc
  have HSRC := Lib.hid hsrc
  clear hsrc ho2 hb2 hl2 hdl2 hel2 HDA
  refine any_copy 3 (dst := some 45) (d := .tmp 42) (s := .tmp 44) (dT := 33) (sT := 33) (by kernel_rfl) (by rfl) 5 Tryd.underlying33 u8size (some ⟨wH.heap.size, 0, none⟩) a2 32 32 32 c2 (by rfl) (by rfl) wH.heap.size 0 (cellsOf zs32) 37 HEJ.out (cellsOf (Sha.bytesOf M))
    (by rw [cellsOf_length, bytesOf_len, hML]; rfl) (fun h0 => ⟨rfl, HSRC.out h0⟩) (by rw [cellsOf_length, cellsOf_length, bytesOf_len, hML, zs32_len]; omega) (cellsOf_one _) ?_
  intro wK hrowK hoK
  have HEK := Brow.copied hrowK
  rw [splice_whole zs32 (Sha.bytesOf M) (by rw [zs32_len, bytesOf_len, hML])] at HEK
  have HEK := Lib.hid HEK
  have HDK := Lib.hid (HDJ.out.only hoK (by omega))
  have HWWK := Lib.hid (HWWJ.out.trans (hoK.below (by omega) (by have := HWWJ.out.size; omega)))
  clear hrowK hoK
  refine wpAny_done (by kernel_rfl) ?_ _
  obtain ⟨D, hD⟩ : ∃ z, z = Sha.bytesOf M := ⟨_, rfl⟩
  rw [← hD] at HEK
  have hDl := Lib.hid (show D.length = 32 from by rw [hD, bytesOf_len, hML])
  have HDD' := Lib.hid hD
  clear hD hML
  have HI32 := Lib.hid (show (Tryd.prog.info? 37).map (·.size) = some (cellsOf D).toArray.size from by rw [cellsOf_size, hDl.out]; exact info_dig)
  have hsz32 := Lib.hid (show (cellsOf zs32).toArray.size = (cellsOf D).toArray.size from by rw [cellsOf_size, cellsOf_size, hDl.out, zs32_len])
  have HFIN := Lib.hid (show (wK.setRow w.heap.size (cellsOf D).toArray).heap[w.heap.size]? = some (.cells (cellsOf D).toArray 37 (0, 0)) from setRow_heap _ _ _ _ _ _ HDK.out)
  have HBFIN := Lib.hid (HWWK.out.setRow (Nat.le_refl _) (cellsOf D).toArray)
  go_wp2_with (first | (refine wpList_load_row (by rfl) 37 _ (by rfl) wH.heap.size (by rfl) _ (cellsOf D).toArray (0, 0) _ HEK.out Tryd.underlying37 (by rfl) HI32.out ?_) | (refine wpList_store_row (by rfl) 37 _ _ (by rfl) w.heap.size (cellsOf D).toArray (by rfl) (by rfl) 37 (cellsOf zs32).toArray HDK.out HI32.out hsz32.out (cellsOf_all _) ?_))
  refine bodyPost_ret (results_cell_row (by rfl) _ _ w.heap.size _ (cellsOf D).toArray (0, 0) _ (by rfl) HFIN.out Tryd.underlying37 (by rfl) HI32.out) ?_ ?_
  · rfl
  · refine ⟨?_, HBFIN.out⟩
    rw [HDD'.out, HM.out, HL3.out, HPP.out, HL0.out, ← hTl.out, close_less _ _ _ (by rw [hTl.out]; exact hr)]
set_option maxRecDepth 100000 in
set_option maxHeartbeats 2000000 in
theorem ssum_more (w : World) (g : Nat) (hs bs : List Nat) (n : Nat) (h : St w g hs bs n) (ht : Tab w) (hr : 56 ≤ n % 64) :
    Calls Tryd.prog 23 #[.pointer (some ⟨g, 0, none⟩)] w (DigRet (Sha.close hs (bs.take (n % 64)) n) w) := by
  have HST := Lib.hid h
  have HT := Lib.hid ht
  have hg := h.lt
  have hg0 : 0 < w.heap.size := by omega
  obtain ⟨r, hr'⟩ : ∃ z, z = n % 64 := ⟨_, rfl⟩
  rw [← hr'] at hr ⊢
  have hr64 : r < 64 := by omega
  have HR := Lib.hid hr'
  have h8 := Lib.hid h.w8
  have hbl := Lib.hid h.bl
  have hbb := Lib.hid h.bb
  have hnn := Lib.hid h.nn
  clear h ht hr'
  obtain ⟨T, hT⟩ : ∃ z, z = bs.take r := ⟨_, rfl⟩
  rw [← hT]
  have hTl := Lib.hid (show T.length = r from by rw [hT, List.length_take, hbl.out]; omega)
  have hTb := Lib.hid (show ∀ z ∈ T, z < 256 from by rw [hT]; exact fun z hz => hbb.out z (List.mem_of_mem_take hz))
  have HTT := Lib.hid hT
  clear hT
  have HBA := fun W => run_blockAll W (w.heap.size + 1) 0
  have HBT := fun W => run_blockTo W g 8 r (by omega)
  go_enter Tryd.func23, Tryd.ntmps23
  go_wp2_with fail
  refine gen_code (F := fun W => Brow W w.heap.size 37 zs32 ∧ Brow W (w.heap.size + 1) 88 zs64 ∧ Below w.heap.size w W) ⟨(heap_new2 _ _ _).1, (heap_new2 _ _ _).2, ((Below.refl _ _).alloc (Nat.le_refl _) _).alloc (by simp) _⟩ ?_
  rintro wA ⟨hd, hb, hw⟩
  have HD := Lib.hid hd
  have HB := Lib.hid hb
  have HW := Lib.hid hw
  have HSA := Lib.hid (HST.out.below hw hg)
  clear hd hb hw
  have HWT := Lib.hid (show ∀ W, St W g hs bs n → Calls Tryd.prog 36 #[.pointer (some ⟨g, 0, none⟩)] W (fun e w' => e = .returned (.int .i64 (r : Int)) ∧ w' = W) from fun W hW => (waiting_c W g hs bs n hW).mono fun e w' ⟨h1, h2⟩ => ⟨by rw [h1, HR.out], h2.symm⟩)
  refine wp_region_still_tail 7 (by kernel_rfl) (by kernel_rfl) ?_
  simp only [List.take_succ_cons, List.take_zero, List.drop_succ_cons, List.drop_zero]
  still_step
  still_step
  still_step
  still_step
  still_step
  still_call (HWT.out _ HSA.out.drew)
  still_step
  refine wpStill_nil ?_
  change wpList _ _ _ _ _ wA.drew
  clear HBA HBT HWT
  have hcn := Lib.hid (show (cellsOf T).length = Nat.min r 64 from by rw [cellsOf_length, hTl.out]; exact (Nat.min_eq_left (by omega)).symm)
  have hcp := Lib.hid (show 0 < (cellsOf T).length → (some ⟨w.heap.size + 1, 0, none⟩ : Option Addr) = some ⟨w.heap.size + 1, 0, none⟩ ∧ ∃ ad, (some ⟨g, 8, none⟩ : Option Addr) = some ad ∧ ∀ j v, (cellsOf T)[j]? = some v → wA.drew.cell? (ad.add j) = some v from
    fun h0 => ⟨rfl, by rw [HTT.out] at h0 ⊢; exact HSA.out.drew.rdAll.src r (by omega) h0⟩)
  have hcf := Lib.hid (show 0 + (cellsOf T).length ≤ (cellsOf zs64).length from by rw [cellsOf_length, cellsOf_length, hTl.out, zs64_len]; omega)
  go_wp2_with (refine wpList_copy_only rfl (.tmp 10) (.tmp 16) 33 33 rfl 5 Tryd.underlying33 u8size _ _ _ _ _ _ rfl rfl (w.heap.size + 1) 0 (cellsOf zs64) 88 HB.out (cellsOf T) hcn.out hcp.out hcf.out (cellsOf_one _) ?_)
  intro wB hrowB hoB
  rw [cellsOf_length, hTl.out]
  have HB2 := Lib.hid (Brow.copied hrowB)
  have HD2 := Lib.hid (Brow.only (g' := w.heap.size + 1) HD.out.drew hoB (by omega))
  have HS2 := Lib.hid (HSA.out.drew.only hoB (by omega))
  have HW2 := Lib.hid (HW.out.drew.trans (hoB.below (by omega) (by have := HW.out.size; simpa using this)))
  clear hrowB hoB HD HSA HW HB hcn hcp hcf
  obtain ⟨L0, hL0⟩ : ∃ z, z = splice zs64 0 T := ⟨_, rfl⟩
  have hL0l : L0.length = 64 := by rw [hL0, length_splice _ _ _ (by rw [hTl.out, zs64_len]; omega), zs64_len]
  rw [← hL0] at HB2
  have HL0 := Lib.hid hL0
  have hcell := HB2.out.cell r (by omega)
  have hfz := HB2.out.frozen r
  have HL0l := Lib.hid hL0l
  clear hL0 hL0l
  have q1 : (0 : Int) ≤ (r : Int) := by omega
  have q2 : (r : Int) < 64 := by omega
  have HI8 := Lib.hid (show (Tryd.prog.info? 86).map (·.size) = some (wordsOf hs).length from by rw [wordsOf_length, h8.out.1]; exact info_words)
  have HS3 := fun W (hW : Only (w.heap.size + 1) wB W) => HS2.out.only hW (show g ≠ w.heap.size + 1 by omega)
  have HS3' := Lib.hid (HS3 (wB.setCell ⟨w.heap.size + 1, r, none⟩ (.int .u8 128)) ((Only.refl _ _).setCell _ _)).words
  have HS3 := Lib.hid HS3
  have K1 := Lib.hid (fun (X : Obj) (hX : X = .cells (wordsOf zs8).toArray 86 (0, 0)) => step6 HD2.out HB2.out HS2.out HW2.out hg r X hX)
  have hnew := Lib.hid (fun (X : Obj) => heap_newS wB ⟨w.heap.size + 1, r, none⟩ (.int .u8 128) X)
  have hsz8 := Lib.hid (show (wordsOf zs8).toArray.size = (wordsOf hs).toArray.size from by rw [wordsOf_size, wordsOf_size, h8.out.1]; rfl)
  have HI8' := Lib.hid (show (Tryd.prog.info? 86).map (·.size) = some (wordsOf hs).toArray.size from by rw [wordsOf_size, h8.out.1]; exact info_words)
  have HI64a := Lib.hid (show (Tryd.prog.info? 88).map (·.size) = some (cellsOf (L0.set r 128)).toArray.size from by rw [cellsOf_size, List.length_set, HL0l.out]; exact info_block)
  go_wp2_with (first | (refine wpList_load_row (by rfl) 86 _ (by rfl) wB.heap.size (by rfl) _ (wordsOf hs).toArray (0, 0) _ HWD.out Tryd.underlying86 (by rfl) HI8'.out ?_) | (refine wpList_load_row (by rfl) 88 _ (by rfl) (w.heap.size + 1) (by rfl) _ (cellsOf (L0.set r 128)).toArray (0, 0) _ HBD.out Tryd.underlying88 (by rfl) HI64a.out ?_) | (refine wpList_load_mid (by rfl) 86 _ (by rfl) g 0 (by rfl) (wordsOf hs) _ HS3'.out Tryd.underlying86 rfl HI8.out ?_) | (refine wpList_store_row (by rfl) 86 _ _ (by rfl) wB.heap.size (wordsOf hs).toArray (by rfl) (by rfl) 86 (wordsOf zs8).toArray (by exact hnew.out _) HI8'.out hsz8.out (wordsOf_one _) ?_; refine gen_world (F := fun W => Brow W w.heap.size 37 zs32 ∧ Brow W (w.heap.size + 1) 88 (L0.set r 128) ∧ Wrow W wB.heap.size 86 hs ∧ St W g hs bs n ∧ Below w.heap.size w W) (K1.out _ rfl) ?_; rintro wD ⟨hdD, hbD, hwD, hsD, hwwD⟩; have HDD := Lib.hid hdD; have HBD := Lib.hid hbD; have HWD := Lib.hid hwD; have HSD := Lib.hid hsD; have HWWD := Lib.hid hwwD; clear hdD hbD hwD hsD hwwD))
  have HTD := Lib.hid (HT.out.below HWWD.out hg0)
  have HLBa := Lib.hid (set_mem L0 r 128 (by rw [HL0.out]; exact splice_mem zs64_mem hTb.out) (by omega))
  refine (mix_c hs (L0.set r 128) wD h8.out.1 h8.out.2 (by rw [List.length_set, HL0l.out]) HLBa.out HTD.out).mono ?_
  rintro e5 wP ⟨rfl, hbP⟩
  obtain ⟨M1, hM1⟩ : ∃ z, z = Sha.mix hs (L0.set r 128) := ⟨_, rfl⟩
  rw [← hM1]
  have hM18 := Lib.hid (show Sha.W8 M1 from by rw [hM1]; exact Sha.W8.mix _ _)
  have HM1 := Lib.hid hM1
  have hg5 : w.heap.size + 1 < wB.heap.size := HB2.out.lt
  have K9 := Lib.hid (step9 (wP := wP) M1 (HDD.out.below hbP HDD.out.lt) (HBD.out.below hbP HBD.out.lt) (HWD.out.below hbP HWD.out.lt) (HSD.out.below hbP HSD.out.lt) (HWWD.out.trans (hbP.mono HWWD.out.size)) hg5 hg)
  have HWP := Lib.hid (HWD.out.below hbP HWD.out.lt)
  clear hbP hM1
  have HI81 := Lib.hid (show (Tryd.prog.info? 86).map (·.size) = some (wordsOf M1).toArray.size from by rw [wordsOf_size, hM18.out.1]; exact info_words)
  have hsz1 := Lib.hid (show (wordsOf hs).toArray.size = (wordsOf M1).toArray.size from by rw [wordsOf_size, wordsOf_size, hM18.out.1, h8.out.1])
  have HI640 := Lib.hid (show (Tryd.prog.info? 88).map (·.size) = some (cellsOf zs64).toArray.size from by rw [cellsOf_size, zs64_len]; exact info_block)
  have hsz640 := Lib.hid (show (cellsOf (L0.set r 128)).toArray.size = (cellsOf zs64).toArray.size from by rw [cellsOf_size, cellsOf_size, zs64_len, List.length_set, HL0l.out])
  have HBP := Lib.hid K9.out.1
  have K9' := Lib.hid K9.out.2
  clear HDD HWD HSD HWWD HBD
  go_wp2_with (first | (refine wpList_store_row (by rfl) 86 _ _ (by rfl) wB.heap.size (wordsOf M1).toArray (by rfl) (by rfl) 86 (wordsOf hs).toArray HWP.out HI81.out hsz1.out (wordsOf_one _) ?_) | (refine wpList_store_row (by rfl) 88 _ _ (by rfl) (w.heap.size + 1) (cellsOf zs64).toArray (by rfl) (by rfl) 88 (cellsOf (L0.set r 128)).toArray HBP.out HI640.out hsz640.out (cellsOf_all _) ?_; refine gen_world (F := fun W => Brow W w.heap.size 37 zs32 ∧ Brow W (w.heap.size + 1) 88 zs64 ∧ Wrow W wB.heap.size 86 M1 ∧ St W g hs bs n ∧ Below w.heap.size w W) K9'.out ?_; rintro wX ⟨hdD, hbD, hwD, hsD, hwwD⟩; have HDD := Lib.hid hdD; have HBD := Lib.hid hbD; have HWD := Lib.hid hwD; have HSD := Lib.hid hsD; have HWWD := Lib.hid hwwD; clear hdD hbD hwD hsD hwwD))
  have H56 := fun W => run_b56 W (w.heap.size + 1)
  have HNN := Lib.hid (show 8 * n < 18446744073709551616 from by have := hnn.out; omega)
  have hcz := HSD.out.size
  have hmul : IntKind.u64.wrap (8 * (n : Int)) = ((8 * n : Nat) : Int) := by have := hnn.out; rw [IntKind.wrap_u64]; omega
  have hcv : IntKind.u64.wrap (n : Int) = (n : Int) := by have := hnn.out; rw [IntKind.wrap_u64]; omega
  (try dsimp only [Act.put, List.setIfInBounds_toArray, List.set_cons_zero, List.set_cons_succ])
  refine wp_region_any (by kernel_rfl) ?_
  change wpAny _ _ _ _ _ _ _ wX.drew
  refine any_pure 0 (d := 30) (op := .slice 88 (.tmp 3) (some (.const (.int .i64 56))) none none) (.slice (some ⟨w.heap.size + 1, 56, none⟩) 8 8) (by rfl) (by kernel_rfl) (by kernel_rfl) (by kernel_rfl) (fun _ _ _ h => h) (fun o ho W => by unfold execOp; simp only [ho]; simp [H56 W, Act.eval]) ?_
  simp only [Act.put, List.setIfInBounds_toArray, List.set_cons_zero, List.set_cons_succ]
  refine any_pure 1 (d := 31) (op := .move (.tmp 0)) (.pointer (some ⟨g, 0, none⟩)) (by rfl) (by kernel_rfl) (by kernel_rfl) (by kernel_rfl) (fun _ _ _ h => h) (fun o ho W => by unfold execOp; simp only [ho]; go_simp) ?_
  simp only [Act.put, List.setIfInBounds_toArray, List.set_cons_zero, List.set_cons_succ]
  refine any_pure 2 (d := 32) (op := .nilCheck (.tmp 31)) (.pointer (some ⟨g, 0, none⟩)) (by rfl) (by kernel_rfl) (by kernel_rfl) (by kernel_rfl) (fun _ _ _ h => h) (fun o ho W => by unfold execOp; simp only [ho]; go_simp) ?_
  simp only [Act.put, List.setIfInBounds_toArray, List.set_cons_zero, List.set_cons_succ]
  refine any_pure 3 (d := 33) (op := .fieldAddr 90 (.tmp 32) 2) (.pointer (some ⟨g, 72, none⟩)) (by rfl) (by kernel_rfl) (by kernel_rfl) (by kernel_rfl) (fun _ _ _ h => h) (fun o ho W => by unfold execOp; simp only [ho]; go_simp) ?_
  simp only [Act.put, List.setIfInBounds_toArray, List.set_cons_zero, List.set_cons_succ]
  refine any_load 4 (d := 34) (ty := 3) (x := .tmp 33) (p := .pointer (some ⟨g, 72, none⟩)) (v := .int .i64 (n : Int)) (by kernel_rfl) (by rfl) (by rfl) (by go_simp) ?_
  simp only [Act.put, List.setIfInBounds_toArray, List.set_cons_zero, List.set_cons_succ]
  refine any_pure 5 (d := 35) (op := .convert 3 94 (.tmp 34)) (.int .u64 (n : Int)) (by rfl) (by kernel_rfl) (by kernel_rfl) (by kernel_rfl) (fun _ _ _ h => h) (fun o ho W => by unfold execOp; simp only [ho]; go_simp) ?_
  simp only [Act.put, List.setIfInBounds_toArray, List.set_cons_zero, List.set_cons_succ]
  refine any_pure 6 (d := 36) (op := .binOp .mul 94 (.const (.int .u64 8)) (.tmp 35) 94) (.int .u64 ((8 * n : Nat) : Int)) (by rfl) (by kernel_rfl) (by kernel_rfl) (by kernel_rfl) (fun _ _ _ h => h) (fun o ho W => by unfold execOp; simp only [ho]; go_simp) ?_
  simp only [Act.put, List.setIfInBounds_toArray, List.set_cons_zero, List.set_cons_succ]
  have HH8 := Lib.hid (show Sha.W8 M1 from hM18.out)
  have HLL := Lib.hid (show (zs64).length = 64 from zs64_len)
  have HLB := Lib.hid (show ∀ z ∈ zs64, z < 256 from zs64_mem)
  obtain ⟨PP, hPP⟩ : ∃ z, z = Numm.put (8 * n) 8 := ⟨_, rfl⟩
  have hPl := Lib.hid (show PP.length = 8 from by rw [hPP, Numm.put_len])
  have hPb := Lib.hid (show ∀ z ∈ PP, z < 256 from by rw [hPP]; exact Numm.put_byte _ _)
  have HPUT := (put_in (8 * n) 8 wX.drew HNN.out (by omega)).mono (RetB.form (Numm.put_byte _ _))
  rw [← hPP] at HPUT
  have HPUT := Lib.hid HPUT
  have HPP := Lib.hid hPP
  clear hPP hmul hcv hcz H56
  refine any_call 7 (d := some 37) (f := 38) (xs := #[.tmp 36, .const (.int .i64 8)]) (ts := #[94, 3]) (vs := #[.int .u64 ((8 * n : Nat) : Int), .int .i64 8]) (by kernel_rfl) (by rfl) (by go_simp) (by go_simp) HPUT.out ?_
  rintro e4 wE ⟨a1, L1, c1, rfl, hl1, hlc1, hc1, hn1, hr1, ho1, hb1⟩
  refine ⟨_, rfl, ?_⟩
  simp only [Act.put, List.setIfInBounds_toArray, List.set_cons_zero, List.set_cons_succ]
  obtain rfl : L1 = 8 := by rw [← hl1, hPl.out]
  have hbl1 := HBD.out.lt
  have hdl1 := HDD.out.lt
  have hwl1 := HWD.out.lt
  have HBE := Lib.hid (HBD.out.drew.below hb1 (by simpa using hbl1))
  have HDE := Lib.hid (HDD.out.drew.below hb1 (by simpa using hdl1))
  have HWE := Lib.hid (HWD.out.drew.below hb1 (by simpa using hwl1))
  have HWWE := Lib.hid (HWWD.out.drew.trans (hb1.mono (by have := HWWD.out.size; simpa using this)))
  have hsrc := fun h0 => hr1.src 8 (Nat.le_refl _) h0
  rw [List.take_of_length_le (by rw [hPl.out]; omega)] at hsrc
  have HSRC := Lib.hid hsrc
  clear hsrc ho1 hb1 hl1 hbl1 hdl1
  refine any_copy 8 (dst := some 38) (d := .tmp 30) (s := .tmp 37) (dT := 33) (sT := 33) (by kernel_rfl) (by rfl) 5 Tryd.underlying33 u8size (some ⟨w.heap.size + 1, 56, none⟩) a1 8 8 8 c1 (by rfl) (by rfl) (w.heap.size + 1) 56 (cellsOf (zs64)) 88 HBE.out (cellsOf PP)
    (by rw [cellsOf_length, hPl.out]; rfl) (fun h0 => ⟨rfl, HSRC.out h0⟩) (by rw [cellsOf_length, cellsOf_length, hPl.out, HLL.out]; omega) (cellsOf_one _) ?_
  intro wF hrowF hoF
  have HBF := Brow.copied hrowF
  obtain ⟨L3, hL3⟩ : ∃ z, z = splice (zs64) 56 PP := ⟨_, rfl⟩
  rw [← hL3] at HBF
  have HBF := Lib.hid HBF
  have hL3l := Lib.hid (show L3.length = 64 from by rw [hL3, length_splice _ _ _ (by rw [hPl.out, HLL.out]; omega), HLL.out])
  have hL3b := Lib.hid (show ∀ z ∈ L3, z < 256 from by rw [hL3]; exact splice_mem HLB.out hPb.out)
  have HL3 := Lib.hid hL3
  have HDF := Lib.hid (HDE.out.only hoF (by omega))
  have hg5 : w.heap.size + 1 < wB.heap.size := HB2.out.lt
  have HWF := Lib.hid (HWE.out.only hoF (by omega))
  have HWWF := Lib.hid (HWWE.out.trans (hoF.below (by omega) (by have := HWWE.out.size; omega)))
  clear hrowF hoF hL3
  refine wpAny_done (by kernel_rfl) ?_ _
  have HI8m := Lib.hid (show (Tryd.prog.info? 86).map (·.size) = some (wordsOf M1).toArray.size from by rw [wordsOf_size, HH8.out.1]; exact info_words)
  have HI64 := Lib.hid (show (Tryd.prog.info? 88).map (·.size) = some (cellsOf L3).toArray.size from by rw [cellsOf_size, hL3l.out]; exact info_block)
  go_wp2_with (first | (refine wpList_load_row (by rfl) 86 _ (by rfl) wB.heap.size (by rfl) _ (wordsOf M1).toArray (0, 0) _ HWF.out Tryd.underlying86 (by rfl) HI8m.out ?_) | (refine wpList_load_row (by rfl) 88 _ (by rfl) (w.heap.size + 1) (by rfl) _ (cellsOf L3).toArray (0, 0) _ HBF.out Tryd.underlying88 (by rfl) HI64.out ?_))
  have HTF := Lib.hid (HT.out.below HWWF.out hg0)
  refine (mix_c M1 L3 wF HH8.out.1 HH8.out.2 hL3l.out hL3b.out HTF.out).mono ?_
  rintro e5 wG ⟨rfl, hb5⟩
  obtain ⟨M, hM⟩ : ∃ z, z = Sha.mix (M1) L3 := ⟨_, rfl⟩
  rw [← hM]
  have hM8 := Lib.hid (show Sha.W8 M from by rw [hM]; exact Sha.W8.mix _ _)
  have HM := Lib.hid hM
  have hdlF := HDF.out.lt
  have hwlF := HWF.out.lt
  have HDG := Lib.hid (HDF.out.below hb5 hdlF)
  have HWG := Lib.hid (HWF.out.below hb5 hwlF)
  have HWWG := Lib.hid (HWWF.out.trans (hb5.mono HWWF.out.size))
  have hwlG := HWG.out.lt
  clear hb5 hM hdlF hwlF
  have K7 := Lib.hid (step7 M HDG.out HWG.out HWWG.out hg5)
  have HI8M := Lib.hid (show (Tryd.prog.info? 86).map (·.size) = some (wordsOf M).toArray.size from by rw [wordsOf_size, hM8.out.1]; exact info_words)
  have hszM := Lib.hid (show (wordsOf M1).toArray.size = (wordsOf M).toArray.size from by rw [wordsOf_size, wordsOf_size, hM8.out.1, HH8.out.1])
  go_wp2_with (first | (refine wpList_store_row (by rfl) 86 _ _ (by rfl) wB.heap.size (wordsOf M).toArray (by rfl) (by rfl) 86 (wordsOf M1).toArray HWG.out HI8M.out hszM.out (wordsOf_one _) ?_; refine gen_world (F := fun W => Brow W w.heap.size 37 zs32 ∧ Wrow W wB.heap.size 86 M ∧ Below w.heap.size w W) K7.out ?_; rintro wH ⟨hdH, hwH, hwwH⟩; have HDH := Lib.hid hdH; have HWH := Lib.hid hwH; have HWWH := Lib.hid hwwH; clear hdH hwH hwwH))
  refine gen_code (F := fun W => Brow W w.heap.size 37 zs32 ∧ Brow W wH.heap.size 37 zs32 ∧ Wrow W wB.heap.size 86 M ∧ Below w.heap.size w W) (step8 HDH.out HWH.out HWWH.out _ rfl) ?_
  rintro wI ⟨hdI, heI, hwI, hwwI⟩
  have HDI := Lib.hid hdI
  have HEI := Lib.hid heI
  have HWI := Lib.hid hwI
  have HWWI := Lib.hid hwwI
  have hne : w.heap.size < wH.heap.size := HDH.out.lt
  clear hdI heI hwI hwwI
  have HDA := fun W => run_digAll W wH.heap.size 0
  refine wp_region_any (by kernel_rfl) ?_
  change wpAny _ _ _ _ _ _ _ wI.drew
  refine any_pure 0 (d := 42) (op := .slice 37 (.tmp 6) none none none) (.slice (some ⟨wH.heap.size, 0, none⟩) 32 32) (by rfl) (by kernel_rfl) (by kernel_rfl) (by kernel_rfl) (fun _ _ _ h => h) (fun o ho W => by unfold execOp; simp only [ho]; simp [HDA W, Act.eval]) ?_
  simp only [Act.put, List.setIfInBounds_toArray, List.set_cons_zero, List.set_cons_succ]
  have HRL := Lib.hid (run_loadAt_mid wI.drew wB.heap.size 0 86 (wordsOf M) _ HWI.out.drew.range Tryd.underlying86 rfl (by rw [wordsOf_length, hM8.out.1]; exact info_words))
  refine any_load 1 (d := 43) (ty := 86) (x := .tmp 5) (p := .pointer (some ⟨wB.heap.size, 0, none⟩)) (v := .agg (wordsOf M).toArray) (by kernel_rfl) (by rfl) (by rfl) HRL.out ?_
  simp only [Act.put, List.setIfInBounds_toArray, List.set_cons_zero, List.set_cons_succ]
  have HSP := Lib.hid ((spread_c M wI.drew hM8.out).mono (RetB.form (bytesOf_byte M)))
  refine any_call 2 (d := some 44) (f := 39) (xs := #[.tmp 43]) (ts := #[86]) (vs := #[.agg (wordsOf M).toArray]) (by kernel_rfl) (by rfl) (by go_simp) (by go_simp) HSP.out ?_
  rintro e6 wJ ⟨a2, L2, c2, rfl, hl2, hlc2, hc2, hn2, hr2, ho2, hb2⟩
  refine ⟨_, rfl, ?_⟩
  simp only [Act.put, List.setIfInBounds_toArray, List.set_cons_zero, List.set_cons_succ]
  have hML := hM8.out.1
  obtain rfl : L2 = 32 := by rw [← hl2, bytesOf_len, hML]
  have hdl2 := HDI.out.lt
  have hel2 := HEI.out.lt
  have HDJ := Lib.hid (HDI.out.drew.below hb2 (by simpa using hdl2))
  have HEJ := Lib.hid (HEI.out.drew.below hb2 (by simpa using hel2))
  have HWWJ := Lib.hid (HWWI.out.drew.trans (hb2.mono (by have := HWWI.out.size; simpa using this)))
  have hsrc := fun h0 => hr2.src 32 (Nat.le_refl _) h0
  rw [List.take_of_length_le (by rw [bytesOf_len, hML]; omega)] at hsrc
  have HSRC := Lib.hid hsrc
  clear hsrc ho2 hb2 hl2 hdl2 hel2 HDA
  refine any_copy 3 (dst := some 45) (d := .tmp 42) (s := .tmp 44) (dT := 33) (sT := 33) (by kernel_rfl) (by rfl) 5 Tryd.underlying33 u8size (some ⟨wH.heap.size, 0, none⟩) a2 32 32 32 c2 (by rfl) (by rfl) wH.heap.size 0 (cellsOf zs32) 37 HEJ.out (cellsOf (Sha.bytesOf M))
    (by rw [cellsOf_length, bytesOf_len, hML]; rfl) (fun h0 => ⟨rfl, HSRC.out h0⟩) (by rw [cellsOf_length, cellsOf_length, bytesOf_len, hML, zs32_len]; omega) (cellsOf_one _) ?_
  intro wK hrowK hoK
  have HEK := Brow.copied hrowK
  rw [splice_whole zs32 (Sha.bytesOf M) (by rw [zs32_len, bytesOf_len, hML])] at HEK
  have HEK := Lib.hid HEK
  have HDK := Lib.hid (HDJ.out.only hoK (by omega))
  have HWWK := Lib.hid (HWWJ.out.trans (hoK.below (by omega) (by have := HWWJ.out.size; omega)))
  clear hrowK hoK
  refine wpAny_done (by kernel_rfl) ?_ _
  obtain ⟨D, hD⟩ : ∃ z, z = Sha.bytesOf M := ⟨_, rfl⟩
  rw [← hD] at HEK
  have hDl := Lib.hid (show D.length = 32 from by rw [hD, bytesOf_len, hML])
  have HDD' := Lib.hid hD
  clear hD hML
  have HI32 := Lib.hid (show (Tryd.prog.info? 37).map (·.size) = some (cellsOf D).toArray.size from by rw [cellsOf_size, hDl.out]; exact info_dig)
  have hsz32 := Lib.hid (show (cellsOf zs32).toArray.size = (cellsOf D).toArray.size from by rw [cellsOf_size, cellsOf_size, hDl.out, zs32_len])
  have HFIN := Lib.hid (show (wK.setRow w.heap.size (cellsOf D).toArray).heap[w.heap.size]? = some (.cells (cellsOf D).toArray 37 (0, 0)) from setRow_heap _ _ _ _ _ _ HDK.out)
  have HBFIN := Lib.hid (HWWK.out.setRow (Nat.le_refl _) (cellsOf D).toArray)
  go_wp2_with (first | (refine wpList_load_row (by rfl) 37 _ (by rfl) wH.heap.size (by rfl) _ (cellsOf D).toArray (0, 0) _ HEK.out Tryd.underlying37 (by rfl) HI32.out ?_) | (refine wpList_store_row (by rfl) 37 _ _ (by rfl) w.heap.size (cellsOf D).toArray (by rfl) (by rfl) 37 (cellsOf zs32).toArray HDK.out HI32.out hsz32.out (cellsOf_all _) ?_))
  refine bodyPost_ret (results_cell_row (by rfl) _ _ w.heap.size _ (cellsOf D).toArray (0, 0) _ (by rfl) HFIN.out Tryd.underlying37 (by rfl) HI32.out) ?_ ?_
  · rfl
  · refine ⟨?_, HBFIN.out⟩
    rw [HDD'.out, HM.out, HL3.out, HPP.out, HM1.out, HL0.out, ← hTl.out, close_more _ _ _ (by rw [hTl.out]; exact hr) (by rw [hTl.out]; exact hr64)]

/-- the state's Sum -/
theorem ssum_c (w : World) (g : Nat) (hs tail : List Nat) (n : Nat) (h : StM w g hs tail n) (ht : Tab w) :
    Calls Tryd.prog 23 #[.pointer (some ⟨g, 0, none⟩)] w (DigRet (Sha.close hs tail n) w) := by
  obtain ⟨bs, hst, rfl⟩ := h
  by_cases hr : n % 64 < 56
  · exact ssum_less w g hs bs n hst ht hr
  · exact ssum_more w g hs bs n hst ht (by omega)
end Go.Proofs.YtmomdfmilelilaaDoor
namespace Go.Proofs.YtmomdfmilelilaaDoor
open Go.RowKit
set_option linter.unusedVariables false

theorem gen_calls {P : Program} {f : FuncId} {args : Array Value} {W : World} {R : Ending → World → Prop} {F : World → Prop} (h : F W) (k : ∀ w, F w → Calls P f args w R) : Calls P f args W R := k W h
theorem sum_len (zs : List Nat) : (Sha.sum zs).length = 32 := by
  unfold Sha.sum Sha.close
  rw [bytesOf_len, (Sha.W8.run (Sha.W8.run Sha.W8.H0 _) _).1]
theorem sum_byte (zs : List Nat) : ∀ z ∈ Sha.sum zs, z < 256 := by unfold Sha.sum Sha.close; exact bytesOf_byte _
set_option maxRecDepth 100000 in
set_option maxHeartbeats 1000000 in
theorem dsum_c (a : Option Addr) (len cap : Nat) (zs : List Nat) (w : World) (hr : Rd w a len zs) (hlc : len ≤ cap) (hcm : cap ≤ 9223372036854775807) (hlm : len ≤ 2305843009213693951) (ht : Tab w) :
    Calls Tryd.prog 7 #[.slice a len cap] w (DigRet (Sha.sum zs) w) := by
  have HR := Lib.hid hr
  have HT := Lib.hid ht
  clear hr ht
  go_enter Tryd.func7, Tryd.ntmps7
  go_wp2_with fail
  refine gen_calls (F := fun W => Brow W w.heap.size 37 zs32 ∧ Below w.heap.size w W) ⟨heap_new _ _, (Below.refl _ _).alloc (Nat.le_refl _) _⟩ ?_
  rintro w0 ⟨hd0, hb0⟩
  refine (new_c w0).mono ?_
  rintro e1 w1 ⟨g, rfl, hg, hst, hb1⟩
  have hdl := hd0.lt
  have HD1 := Lib.hid (hd0.below hb1 hdl)
  have HB1 := Lib.hid (hb0.trans (hb1.mono hb0.size))
  have HST1 := Lib.hid (show StM w1 g Sha.H0 [] 0 from ⟨_, hst, rfl⟩)
  have HT1 := Lib.hid (HT.out.below HB1.out HT.out.pos)
  have hsz := hb0.size
  have hp := HT.out.pos
  clear hst hb1 hd0 hb0
  go_wp2_with fail
  refine (write_c w1 g Sha.H0 [] 0 HST1.out a len cap zs (HR.out.below HB1.out) hlc hcm (by omega) (HR.out.blk g (by omega)) HT1.out (by omega)).mono ?_
  rintro e2 w2 ⟨rfl, hst2, ho2⟩
  rw [List.nil_append, Nat.zero_add] at hst2
  have HD2 := Lib.hid (HD1.out.only ho2 (by omega))
  have HB2 := Lib.hid (HB1.out.trans (ho2.below (by omega) (by have := HB1.out.size; omega)))
  have HST2 := Lib.hid hst2
  have HT2 := Lib.hid (HT.out.below HB2.out HT.out.pos)
  clear hst2 ho2
  go_wp2_with fail
  refine (ssum_c w2 g _ _ _ HST2.out HT2.out).mono ?_
  rintro e3 w3 ⟨rfl, hb3⟩
  have hdl2 := HD2.out.lt
  have HD3 := Lib.hid (HD2.out.below hb3 hdl2)
  have HB3 := Lib.hid (HB2.out.trans (hb3.mono HB2.out.size))
  have hsum : Sha.close (Sha.run Sha.H0 zs) (Sha.rest zs) len = Sha.sum zs := by rw [← HR.out.1]; rfl
  rw [hsum]
  obtain ⟨D, hD⟩ : ∃ z, z = Sha.sum zs := ⟨_, rfl⟩
  rw [← hD]
  have hDl := Lib.hid (show D.length = 32 from by rw [hD, sum_len])
  have HI32 := Lib.hid (show (Tryd.prog.info? 37).map (·.size) = some (cellsOf D).toArray.size from by rw [cellsOf_size, hDl.out]; exact info_dig)
  have hsz32 := Lib.hid (show (cellsOf zs32).toArray.size = (cellsOf D).toArray.size from by rw [cellsOf_size, cellsOf_size, hDl.out, zs32_len])
  have HFIN := Lib.hid (show (w3.setRow w.heap.size (cellsOf D).toArray).heap[w.heap.size]? = some (.cells (cellsOf D).toArray 37 (0, 0)) from setRow_heap _ _ _ _ _ _ HD3.out)
  have HBFIN := Lib.hid (HB3.out.setRow (Nat.le_refl _) (cellsOf D).toArray)
  have HDq := Lib.hid hD
  clear hsum hD hb3 hdl2
  go_wp2_with (first | (refine wpList_store_row (by rfl) 37 _ _ (by rfl) w.heap.size (cellsOf D).toArray (by rfl) (by rfl) 37 (cellsOf zs32).toArray HD3.out HI32.out hsz32.out (cellsOf_all _) ?_))
  refine bodyPost_ret (results_cell_row (by rfl) _ _ w.heap.size _ (cellsOf D).toArray (0, 0) _ (by rfl) HFIN.out Tryd.underlying37 (by rfl) HI32.out) ?_ ?_
  · rfl
  · exact ⟨by rw [HDq.out], HBFIN.out⟩

theorem str_hex (d : List Nat) : (⟨#[115, 104, 97, 50, 53, 54, 58]⟩ : ByteArray) ++ str (hex d) = str ([115, 104, 97, 50, 53, 54, 58] ++ hex d) := by
  apply ByteArray.ext
  simp [str]
end Go.Proofs.YtmomdfmilelilaaDoor
namespace Go.Proofs.YtmomdfmilelilaaDoor
open Go.RowKit
set_option linter.unusedVariables false
section
variable {ops : Array Oper} {Q : Exit → Act → World → Prop} {md : Region.Mode} {S : World → Prop}
/-- append(s, p...) as one operation -/
theorem op_cat {i : Nat} {dst : Option Tmp} {s x : Operand} {a : Act} {w : World} {K : Act → World → Prop}
    (hi : (ops[i]?.map fun o => (o.dst, o.op, o.guard)) = some (dst, Op.call { callee := .builtin .append, args := #[s, x], argTypes := #[33, 33] }, none))
    (B : Nat) (v : Value) (zs ys : List Nat) (hs : a.eval s = v) (hown : Own w B v zs) (hB : B ≤ w.heap.size) (ad : Addr) (len cap : Nat) (hx : a.eval x = .slice (some ad) len cap) (hrd : Rd w (some ad) len ys)
    (hlen : zs.length + ys.length ≤ 140737488355328) (h : ∀ v' w', Own w' B v' (zs ++ ys) → Below B w w' → K (a.put dst v') w') : wpOp Tryd.prog ops Q i K a w := by
  obtain ⟨i0, hi0, hz0, hz1, hz2⟩ := info_parts byteInfo
  obtain ⟨hl, hz, hc⟩ := hrd
  cases ho : ops[i]? with
  | none => simp [ho] at hi
  | some o =>
    simp only [ho, Option.map_some, Option.some.injEq, Prod.mk.injEq] at hi
    obtain ⟨g1, g2, g3⟩ := hi
    unfold wpOp
    simp only [ho, wanted_plain g3, if_true]
    refine .inl ?_
    refine wp_append_own w s x 33 g2 B 5 i0 (.int .u8 0) 1 1 Tryd.underlying33 hi0 hz0 hz1 hz2 rfl (by decide) v zs.length (cellsOf zs) hs hown ad len cap (cellsOf ys) hx (by rw [cellsOf_length, hl, Nat.mul_one]) ?_ (cellsOf_one _) (by unfold maxLen; omega) (by omega) hB ?_
    · intro j u hj
      have hjl : j < ys.length := by
        have := (List.getElem?_eq_some_iff.1 hj).1
        rwa [cellsOf_length] at this
      rw [cellsOf_get ys j hjl] at hj
      cases hj
      rcases hc with h0 | ⟨b, off, hb, _, hcell⟩
      · omega
      · cases hb
        rw [Addr.add_mid]
        exact hcell j (by omega)
    · intro v' w' h1 h2 _
      rw [g1]
      refine h v' w' ?_ ?_
      · unfold Own
        rw [List.length_append, cellsOf_append, hl]
        exact h1
      · exact (Below.refl B w).grown h2 hB fun k hk => (hown.lt k hk).1
theorem anyH_cat (i : Nat) {dst : Option Tmp} {s x : Operand} {fuel : Nat} {listed : Array Bool} {a : Act} {w : World}
    (h0 : Region.ready md ops listed = [i])
    (hi : (ops[i]?.map fun o => (o.dst, o.op, o.guard)) = some (dst, Op.call { callee := .builtin .append, args := #[s, x], argTypes := #[33, 33] }, none))
    (B : Nat) (v : Value) (zs ys : List Nat) (hs : a.eval s = v) (hown : Own w B v zs) (hB : B ≤ w.heap.size) (ad : Addr) (len cap : Nat) (hx : a.eval x = .slice (some ad) len cap) (hrd : Rd w (some ad) len ys)
    (hlen : zs.length + ys.length ≤ 140737488355328) (h : ∀ v' w', Own w' B v' (zs ++ ys) → Below B w w' → S w' ∧ (S w' → wpAnyH Tryd.prog md ops Q S fuel (listed.setIfInBounds i true) (a.put dst v') w')) :
    wpAnyH Tryd.prog md ops Q S (fuel + 1) listed a w := by
  refine wpAnyH_all h0 (by simp) ?_
  intro k hk
  simp only [List.mem_cons, List.not_mem_nil, or_false] at hk
  subst hk
  refine op_cat hi B v zs ys hs hown hB ad len cap hx hrd hlen fun v' w' h1 h2 => ?_
  obtain ⟨h3, h4⟩ := h v' w' h1 h2
  exact ⟨h3, h4 h3⟩
end
def SV (w : World) (g : Nat) (hs bs : List Nat) (n : Nat) (W : World) : Prop := St W g hs bs n ∧ Below w.heap.size w W
theorem SV.step {w : World} {g : Nat} {hs bs : List Nat} {n : Nat} {W W' : World} (h : SV w g hs bs n W) {B : Nat} (hb : Below B W W') (hB : w.heap.size ≤ B) (hg : g < w.heap.size) : SV w g hs bs n W' :=
  ⟨h.1.below hb (by omega), h.2.trans (hb.mono hB)⟩
/-- the bytes of a state -/
def saved (hs tail : List Nat) (n : Nat) : List Nat := (Sha.bytesOf hs ++ Numm.put n 8) ++ tail
set_option maxRecDepth 100000 in
theorem write_nil (w : World) (v : Value) : Calls Tryd.prog 22 #[.pointer none, v] w fun e w' => e = .returned (.int .i64 2) ∧ w = w' := by
  go_enter Tryd.func22, Tryd.ntmps22
  go_wp2
  go_ret
  exact ⟨rfl, rfl⟩
set_option maxRecDepth 100000 in
set_option maxHeartbeats 1000000 in
theorem ssum_nil (w : World) : Calls Tryd.prog 23 #[.pointer none] w (DigRet zs32 w) := by
  have HI32 := Lib.hid (show (Tryd.prog.info? 37).map (·.size) = some (cellsOf zs32).toArray.size from by rw [cellsOf_size, zs32_len]; exact info_dig)
  have HN := Lib.hid (show ∀ X : Obj, (w.alloc X).heap[w.heap.size]? = some X from fun X => heap_new w X)
  go_enter Tryd.func23, Tryd.ntmps23
  go_wp2_with (first | (refine wpList_store_row (by rfl) 37 _ _ (by rfl) w.heap.size (cellsOf zs32).toArray (by rfl) (by rfl) 37 (cellsOf zs32).toArray (by exact HN.out _) HI32.out rfl (cellsOf_all _) ?_))
  refine bodyPost_ret (results_cell_row (by rfl) _ _ w.heap.size _ (cellsOf zs32).toArray (0, 0) _ (by rfl) (setRow_heap _ _ _ _ _ _ (HN.out _)) Tryd.underlying37 (by rfl) HI32.out) ?_ ?_
  · rfl
  · exact ⟨rfl, ((Below.refl _ _).alloc (Nat.le_refl _) _).setRow (Nat.le_refl _) _⟩
end Go.Proofs.YtmomdfmilelilaaDoor
namespace Go.Proofs.YtmomdfmilelilaaDoor
open Go.RowKit
set_option linter.unusedVariables false

/-- the order of two lists of bytes -/
def lexc : List Nat → List Nat → Int
  | [], [] => 0
  | [], _ :: _ => -1
  | _ :: _, [] => 1
  | a :: l, b :: m => if a < b then -1 else if b < a then 1 else lexc l m
theorem u8_lt (a b : Nat) (ha : a < 256) (hb : b < 256) : (UInt8.ofNat a < UInt8.ofNat b) ↔ a < b := by
  rw [UInt8.lt_iff_toNat_lt]
  simp [Nat.mod_eq_of_lt ha, Nat.mod_eq_of_lt hb]
theorem lexc_u8 : ∀ (a b : List Nat), (∀ z ∈ a, z < 256) → (∀ z ∈ b, z < 256) → Lib.compareBytes (a.map UInt8.ofNat) (b.map UInt8.ofNat) = lexc a b
  | [], [], _, _ => rfl
  | [], _ :: _, _, _ => rfl
  | _ :: _, [], _, _ => rfl
  | x :: a, y :: b, ha, hb => by
    simp only [List.map_cons, Lib.compareBytes, lexc]
    rw [lexc_u8 a b (fun z hz => ha z (List.mem_cons_of_mem _ hz)) (fun z hz => hb z (List.mem_cons_of_mem _ hz))]
    have h1 := u8_lt x y (ha x List.mem_cons_self) (hb y List.mem_cons_self)
    have h2 := u8_lt y x (hb y List.mem_cons_self) (ha x List.mem_cons_self)
    simp only [h1, h2]
theorem lexc_self : ∀ a : List Nat, lexc a a = 0
  | [] => rfl
  | x :: a => by simp [lexc, lexc_self a]
theorem lexc_anti : ∀ a b : List Nat, lexc b a = - lexc a b
  | [], [] => rfl
  | [], _ :: _ => rfl
  | _ :: _, [] => rfl
  | x :: a, y :: b => by
    simp only [lexc]
    rw [lexc_anti a b]
    split <;> split <;> omega
theorem lexc_val : ∀ a b : List Nat, lexc a b = -1 ∨ lexc a b = 0 ∨ lexc a b = 1
  | [], [] => by simp [lexc]
  | [], _ :: _ => by simp [lexc]
  | _ :: _, [] => by simp [lexc]
  | x :: a, y :: b => by
    have := lexc_val a b
    simp only [lexc]
    split
    · simp
    · split
      · simp
      · exact this
theorem lexc_zero : ∀ a b : List Nat, lexc a b = 0 ↔ a = b
  | [], [] => by simp [lexc]
  | [], _ :: _ => by simp [lexc]
  | _ :: _, [] => by simp [lexc]
  | x :: a, y :: b => by
    have ih := lexc_zero a b
    simp only [lexc, List.cons.injEq]
    split
    · simp; omega
    · split
      · simp; omega
      · rw [ih]; constructor
        · intro h; exact ⟨by omega, h⟩
        · exact fun h => h.2
theorem lexc_trans : ∀ a b c : List Nat, lexc a b ≤ 0 → lexc b c ≤ 0 → lexc a c ≤ 0
  | [], [], c, h1, h2 => h2
  | [], _ :: _, [], _, _ => by simp [lexc]
  | [], _ :: _, _ :: _, _, _ => by simp [lexc]
  | _ :: _, [], _, h1, _ => by simp [lexc] at h1
  | _ :: _, _ :: _, [], _, h2 => by simp [lexc] at h2
  | x :: a, y :: b, z :: c, h1, h2 => by
    have ih := lexc_trans a b c
    simp only [lexc] at h1 h2 ⊢
    by_cases hxy : x < y
    · by_cases hyz : y < z
      · rw [if_pos (by omega)]; omega
      · rw [if_neg hyz] at h2
        by_cases hzy : z < y
        · rw [if_pos hzy] at h2; omega
        · rw [if_pos (by omega)]; omega
    · rw [if_neg hxy] at h1
      by_cases hyx : y < x
      · rw [if_pos hyx] at h1; omega
      · rw [if_neg hyx] at h1
        obtain rfl : x = y := by omega
        by_cases hyz : x < z
        · rw [if_pos hyz]; omega
        · rw [if_neg hyz] at h2 ⊢
          by_cases hzy : z < x
          · rw [if_pos hzy] at h2; omega
          · rw [if_neg hzy] at h2 ⊢
            exact ih h1 h2
theorem lexc_at : ∀ (a b : List Nat) (k : Nat), k < a.length → k < b.length → a.take k = b.take k → lexc a b = if a.getD k 0 < b.getD k 0 then -1 else if b.getD k 0 < a.getD k 0 then 1 else lexc (a.drop (k + 1)) (b.drop (k + 1))
  | [], _, _, h, _, _ => by simp at h
  | _ :: _, [], _, _, h, _ => by simp at h
  | x :: a, y :: b, 0, _, _, _ => by simp [lexc]
  | x :: a, y :: b, k + 1, h1, h2, h => by
    simp only [List.take_succ_cons, List.cons.injEq] at h
    obtain ⟨rfl, h⟩ := h
    have ih := lexc_at a b k (by simpa using h1) (by simpa using h2) h
    simp only [lexc, Nat.lt_irrefl, if_false, List.getD_cons_succ, List.drop_succ_cons]
    exact ih

theorem load_bytes {w : World} {a : Option Addr} {len cap : Nat} {zs : List Nat} (h : Rd w a len zs) : (Extern.Bytes.bytesOf (.slice a len cap)).run Tryd.prog w = .ok (str zs) w := by
  obtain ⟨hl, hz, hc⟩ := h
  cases a with
  | none =>
    have h0 : len = 0 := by
      rcases hc with h0 | ⟨b, off, hb, _⟩
      · exact h0
      · cases hb
    subst h0
    obtain rfl : zs = [] := List.eq_nil_of_length_eq_zero hl
    rfl
  | some ad =>
    have hx := Lib.run_loadBytesX (P := Tryd.prog) w (zs.map fun z : Nat => (z : Int)) ad .empty (fun j x hj => by
      have hjl : j < zs.length := by
        have := (List.getElem?_eq_some_iff.1 hj).1
        simpa using this
      rcases hc with h0 | ⟨b, off, hb, _, hcell⟩
      · omega
      · cases hb
        have hcj := hcell j (by omega)
        rw [Addr.add_mid, hcj]
        simp [hjl] at hj
        rw [← hj, getD_at zs j hjl])
    rw [List.length_map, hl] at hx
    show (Extern.Bytes.loadBytes ad len .empty).run Tryd.prog w = _
    rw [hx]
    congr 1
    apply ByteArray.ext
    simp [str, Lib.bytesOf, ByteArray.empty, ByteArray.emptyWithCapacity, - ByteArray.emptyWithCapacity_eq_empty]
    show [] ++ List.map _ zs = _
    rw [List.nil_append]
    apply List.map_congr_left
    intro z _
    simp
theorem run_cmp {w : World} {a b : Option Addr} {la ca lb cb : Nat} {xs ys : List Nat} (ha : Rd w a la xs) (hb : Rd w b lb ys) :
    (Extern.BytealgCompare.compare #[.slice a la ca, .slice b lb cb]).run Tryd.prog w = .ok (.int .i64 (lexc xs ys)) w := by
  change Sem.run Tryd.prog (do pure (goInt (Extern.BytealgCompare.cmp (← Extern.Bytes.bytesOf (.slice a la ca)) (← Extern.Bytes.bytesOf (.slice b lb cb))))) w = _
  simp only [Sem.run_bind, load_bytes ha, load_bytes hb, Sem.run_pure, Result.andThen]
  rw [Lib.cmp_eq]
  have : Lib.compareBytes (str xs).data.toList (str ys).data.toList = lexc xs ys := lexc_u8 xs ys ha.2.1 hb.2.1
  rw [this]
  rfl
theorem eq_cells (zs : List Nat) (h : ∀ z ∈ zs, z < 256) : cellsOf zs = (zs.map UInt8.ofNat).map Extern.Stop.cell := by
  simp only [cellsOf, List.map_map]
  apply List.map_congr_left
  intro z hz
  have := h z hz
  simp [Extern.Stop.cell, Nat.mod_eq_of_lt this]
theorem map_u8_inj {a b : List Nat} (ha : ∀ z ∈ a, z < 256) (hb : ∀ z ∈ b, z < 256) : (a.map UInt8.ofNat == b.map UInt8.ofNat) = decide (a = b) := by
  rw [Bool.eq_iff_iff]
  simp only [beq_iff_eq, decide_eq_true_eq]
  constructor
  · intro h
    have := congrArg (List.map UInt8.toNat) h
    simp only [List.map_map] at this
    rw [List.map_congr_left (g := id) (fun z hz => by simp [Nat.mod_eq_of_lt (ha z hz)]), List.map_congr_left (l := b) (g := id) (fun z hz => by simp [Nat.mod_eq_of_lt (hb z hz)])] at this
    simpa using this
  · rintro rfl; rfl
theorem eq_dig (t n : Nat) (hu : Tryd.prog.underlying t = some (.array n 5)) (W : World) (a b : List Nat) (la : a.length = n) (lb : b.length = n) (ha : ∀ z ∈ a, z < 256) (hb : ∀ z ∈ b, z < 256) :
    (Op.equalIn 10000 t (.agg (cellsOf a).toArray) (.agg (cellsOf b).toArray)).run Tryd.prog W = .ok (decide (a = b)) W := by
  rw [eq_cells a ha, eq_cells b hb, ← map_u8_inj ha hb]
  exact run_equalIn_bytes W 9998 t 5 n hu Tryd.underlying5 (fun w => sizeOf_u8 w) _ _ (by simp [la]) (by simp [lb])
end Go.Proofs.YtmomdfmilelilaaDoor
namespace Go.Proofs.YtmomdfmilelilaaDoor
open Go.RowKit
set_option linter.unusedVariables false

theorem sum_abc : (Sha.sum [97, 98, 99]).getD 0 0 = 186 ∧ (Sha.sum [97, 98, 99]).getD 31 0 = 173 := by decide +kernel
theorem text_nil : str ([115, 104, 97, 50, 53, 54, 58] ++ hex (Sha.sum [])) = ⟨#[115, 104, 97, 50, 53, 54, 58, 101, 51, 98, 48, 99, 52, 52, 50, 57, 56, 102, 99, 49, 99, 49, 52, 57, 97, 102, 98, 102, 52, 99, 56, 57, 57, 54, 102, 98, 57, 50, 52, 50, 55, 97, 101, 52, 49, 101, 52, 54, 52, 57, 98, 57, 51, 52, 99, 97, 52, 57, 53, 57, 57, 49, 98, 55, 56, 53, 50, 98, 56, 53, 53]⟩ := by decide +kernel
theorem convA (w : World) (C : Array Value) (n c : Nat) : (convert 33 33 (.slice (some ⟨w.heap.size, 0, none⟩) n c)).run Tryd.prog (w.alloc (.cells C 5)) = .ok (.slice (some ⟨w.heap.size, 0, none⟩) n c) (w.alloc (.cells C 5 (C.size, C.size + 1))) :=
  Lib.run_convert_bytes_const (P := Tryd.prog) w 33 5 C n c Tryd.underlying33 Tryd.underlying5
end Go.Proofs.YtmomdfmilelilaaDoor
namespace Go.Proofs.YtmomdfmilelilaaDoor
open Go.RowKit
set_option linter.unusedVariables false

def D32 (a : List Nat) : Prop := a.length = 32 ∧ ∀ z ∈ a, z < 256
def S3 (w : World) (t : TypeId) (a b c : List Nat) (W : World) : Prop :=
  Brow W w.heap.size t a ∧ Brow W (w.heap.size + 1) t b ∧ Brow W (w.heap.size + 1 + 1) t c ∧ Below w.heap.size w W
def S3f (w : World) (t : TypeId) (a b c : List Nat) (W : World) : Prop :=
  W.rangeAt w.heap.size 0 (cellsOf a) ∧ W.rangeAt (w.heap.size + 1) 0 (cellsOf b) ∧ W.rangeAt (w.heap.size + 1 + 1) 0 (cellsOf c) ∧ S3 w t a b c W
theorem Brow.range {w : World} {g : Nat} {t : TypeId} {zs : List Nat} (h : Brow w g t zs) : w.rangeAt g 0 (cellsOf zs) := fun j v hv => by
  rw [Nat.zero_add, cell_of_row w g j _ t _ h]
  simpa using hv
theorem S3.full {w : World} {t : TypeId} {a b c : List Nat} {W : World} (h : S3 w t a b c W) : S3f w t a b c W := ⟨h.1.range, h.2.1.range, h.2.2.1.range, h⟩
theorem S3.step {w : World} {t : TypeId} {a b c : List Nat} {W W' : World} (hb : Below W.heap.size W W') (h : S3 w t a b c W) : S3 w t a b c W' :=
  ⟨h.1.below hb h.1.lt, h.2.1.below hb h.2.1.lt, h.2.2.1.below hb h.2.2.1.lt, h.2.2.2.trans (hb.mono h.2.2.2.size)⟩
theorem S3.drew {w : World} {t : TypeId} {a b c : List Nat} {W : World} (h : S3 w t a b c W) : S3 w t a b c W.drew := ⟨h.1, h.2.1, h.2.2.1, h.2.2.2.drew⟩
theorem und_a32 : Tryd.prog.underlying 36 = some (.array 32 5) := Tryd.underlying36
theorem info_a32 : (Tryd.prog.info? 36).map (·.size) = some 32 := by kernel_rfl
end Go.Proofs.YtmomdfmilelilaaDoor
namespace Go.Proofs.YtmomdfmilelilaaDoor
open Go.RowKit
set_option linter.unusedVariables false

theorem Only.rdo {g : Nat} {w w0 w' : World} (h : Only g w w') {a : Option Addr} {len : Nat} {zs : List Nat} (h0 : Rd w0 a len zs) (hr : Rd w a len zs) (hg : w0.heap.size ≤ g) : Rd w' a len zs := h.rd' hr (h0.blk g hg)
theorem StM.bytes {w : World} {g : Nat} {hs tail : List Nat} {n : Nat} (h : StM w g hs tail n) : ∀ x ∈ tail, x < 256 := by
  obtain ⟨bs, hst, rfl⟩ := h
  exact fun x hx => hst.bb x (List.mem_of_mem_take hx)
theorem saved_byte (hs tail : List Nat) (n : Nat) (ht : ∀ x ∈ tail, x < 256) : ∀ x ∈ saved hs tail n, x < 256 := by
  intro x hx
  simp only [saved, List.mem_append] at hx
  rcases hx with (h | h) | h
  · exact bytesOf_byte _ x h
  · exact Numm.put_byte _ _ x h
  · exact ht x h
theorem Own.row {w : World} {B gb L cap : Nat} {Y : List Nat} (h : Own w B (.slice (some ⟨gb, 0, none⟩) L cap) Y) (hl : Y.length = L) : w.ownsRow B 5 1 (.slice (some ⟨gb, 0, none⟩) L cap) L (cellsOf Y) := by
  subst hl; exact h
theorem Own.cellq {w : World} {B gb L cap : Nat} {Y : List Nat} (h : Own w B (.slice (some ⟨gb, 0, none⟩) L cap) Y) (hl : Y.length = L) (k : Nat) (hk : k < L) : w.cell? ⟨gb, k, none⟩ = some (.int .u8 ((Y.getD k 0 : Nat) : Int)) := by
  rw [(h.row hl).cellAt k (by omega)]
  exact cellsOf_get Y k (by omega)
theorem Own.setq {w : World} {B gb L cap : Nat} {Y : List Nat} (h : Own w B (.slice (some ⟨gb, 0, none⟩) L cap) Y) (hl : Y.length = L) (k x : Nat) : Own (w.setCell ⟨gb, k, none⟩ (.int .u8 (x : Int))) B (.slice (some ⟨gb, 0, none⟩) L cap) (Y.set k x) := by
  have := ((h.row hl).stored k (.int .u8 (x : Int))).1
  unfold Own
  rw [List.length_set, hl, show cellsOf (Y.set k x) = (cellsOf Y).set k (.int .u8 (x : Int)) by simp [cellsOf, List.map_set]]
  exact this
theorem StM.below {B : Nat} {w w' : World} {g : Nat} {hs tail : List Nat} {n : Nat} (h : StM w g hs tail n) (hb : Below B w w') (hg : g < B) : StM w' g hs tail n := by
  obtain ⟨bs, hst, ht⟩ := h
  exact ⟨bs, hst.below hb hg, ht⟩
theorem u8_xor255 (y : Nat) (hy : y < 256) : bits .xor .u8 (y : Int) 255 = ((y ^^^ 255 : Nat) : Int) := u8_xor_nat y 255 hy (by omega)
theorem set_byte (L : List Nat) (k x : Nat) (h : ∀ z ∈ L, z < 256) (hx : x < 256) : ∀ z ∈ L.set k x, z < 256 := set_mem L k x h hx
end Go.Proofs.YtmomdfmilelilaaDoor
namespace Go.Proofs.YtmomdfmilelilaaDoor
open Go.ChangeShapes Go.WideShapes Go.ChangeAt Go.RowKit
set_option linter.unusedVariables false

def natOf : Value → Nat
  | .int _ n => n.toNat
  | _ => 0
/-- the datum of a sum -/
def digD {H : Type} (zs : List Nat) : DataW H := .agg (zs.map fun z : Nat => .lit (.int .u8 (z : Int)))
theorem cells_u8 : Tryd.prog.cellsOf 5 = 1 := by kernel_rfl
set_option maxRecDepth 100000 in
theorem open_dig {H : Type} {enc : TypeId × Value → H} {W : World} {base b0 : Nat} {sp : Nat → Bool} {held : Bool} {t : TypeId} {v : Value} {d : DataW H} {p : List MemPlace} (hu : Tryd.prog.underlying t = some (.array 32 5)) (hc : Tryd.prog.cellsOf t = 32)
    (hv : Value.okWide Tryd.prog W .any b0 t v) (h : DataW.Trod enc Tryd.prog W base sp held t v d p) : ∃ zs : List Nat, v = .agg (cellsOf zs).toArray ∧ D32 zs ∧ d = digD zs ∧ p = [] := by
  unfold Value.okWide at hv
  rw [hu] at hv
  obtain ⟨cs, rfl, _, _⟩ := hv
  obtain ⟨fuel, hf⟩ := h
  obtain ⟨xs, m, _, hx, hl, hn, hel⟩ := DataW.trod_array hu hf
  obtain ⟨L⟩ := cs
  simp only [Value.cells] at hl hel
  rw [hc] at hl
  have hat : ∀ i, i < 32 → ∃ n : Nat, n < 256 ∧ L[i]? = some (.int .u8 (n : Int)) ∧ xs[i]? = some (.lit (.int .u8 (n : Int)), []) := by
    intro i hi
    have h1 := hel i hi
    rw [cells_u8, Nat.mul_one] at h1
    have hxi : xs[i]? = some (xs[i]'(by omega)) := List.getElem?_eq_getElem _
    rw [hxi] at h1
    obtain ⟨k, e1, e2, hw⟩ := DataW.trod_int Tryd.underlying5 h1
    have hb : 0 ≤ k ∧ k ≤ 255 := by simpa [Lit.wf, IntKind.min, IntKind.max, IntKind.signed, IntKind.bits] using hw
    have hi2 : i < L.length := by omega
    refine ⟨k.toNat, by omega, ?_, ?_⟩
    · rw [List.getElem?_eq_getElem hi2]
      rw [List.drop_eq_getElem_cons hi2, List.take_succ_cons] at e1
      have e3 := (List.cons.inj e1).1
      rw [e3, Int.toNat_of_nonneg hb.1]
    · rw [hxi, e2, Int.toNat_of_nonneg hb.1]
  have hL : L.length = 32 := hl
  refine ⟨L.map natOf, ?_, ⟨by simp [hL], ?_⟩, ?_, ?_⟩
  · refine congrArg (fun l : List Value => Value.agg l.toArray) ?_
    apply List.ext_getElem?
    intro i
    by_cases hi : i < 32
    · obtain ⟨n, _, h1, _⟩ := hat i hi
      simp only [cellsOf, List.getElem?_map, h1, Option.map_some, natOf, Int.toNat_natCast]
    · rw [List.getElem?_eq_none (by omega), List.getElem?_eq_none (by rw [cellsOf_length, List.length_map]; omega)]
  · intro z hz
    simp only [List.mem_map] at hz
    obtain ⟨v, hv, rfl⟩ := hz
    obtain ⟨i, hi, rfl⟩ := List.getElem_of_mem hv
    obtain ⟨n, hn, h1, _⟩ := hat i (by omega)
    rw [List.getElem?_eq_getElem hi] at h1
    rw [Option.some.inj h1]
    simpa [natOf] using hn
  · have e : (xs.map (·.1)) = (L.map natOf).map fun z : Nat => (.lit (.int .u8 (z : Int)) : DataW H) := by
      apply List.ext_getElem?
      intro i
      by_cases hi : i < 32
      · obtain ⟨n, _, h1, h2⟩ := hat i hi
        simp only [List.getElem?_map, h1, h2, Option.map_some, natOf, Int.toNat_natCast]
      · rw [List.getElem?_eq_none (by simp; omega), List.getElem?_eq_none (by simp; omega)]
    rw [(Prod.mk.inj hx).1, e]
    rfl
  · rw [(Prod.mk.inj hx).2]
    apply List.eq_nil_iff_forall_not_mem.2
    intro q hq
    simp only [List.mem_flatMap] at hq
    obtain ⟨y, hy, hq⟩ := hq
    obtain ⟨i, hi, rfl⟩ := List.getElem_of_mem hy
    obtain ⟨n, _, _, h2⟩ := hat i (by omega)
    rw [List.getElem?_eq_getElem hi] at h2
    rw [Option.some.inj h2] at hq
    simp at hq

theorem gTab : Tryd.prog.globalNamed "hallmark/digest.fractions" = some 0 := by kernel_rfl
theorem gTabType : (Tryd.prog.globals[0]?).map (·.type) = some 110 := by kernel_rfl
theorem cells_t64 : Tryd.prog.cellsOf 110 = 64 := by kernel_rfl
theorem cells_u32 : Tryd.prog.cellsOf 84 = 1 := by kernel_rfl
theorem cells_a32 : Tryd.prog.cellsOf 36 = 32 := by kernel_rfl
def kInts : List Int := Sha.K.map fun z : Nat => (z : Int)
theorem kInts_get : ∀ i, i < 64 → kInts.getD i 0 = ((Sha.K.getD i 0 : Nat) : Int) := by decide
/-- what the row's list gives -/
theorem tab_of {W : World} (h : laidMetH Tryd.prog [("hallmark/digest.fractions", Rows.laid_hallmark_digest_fractions)] W) : Tab W := fun i hi => by
  have ht : Lib.TabIs Tryd.prog W "hallmark/digest.fractions" .u32 kInts := Lib.tabIs_of_head (rest := []) gTab gTabType Tryd.underlying110 Tryd.underlying84 cells_u32 cells_t64 h
  rw [← kInts_get i hi]
  exact ht.cell gTab i (by rw [kInts, List.length_map]; exact hi)
/-- a world for the witness: the table holds what its initialiser lays -/
noncomputable def laidWorld (os : Os) : World :=
  { World.holding Tryd.prog os ⟨#[], #[], []⟩ with heap := (World.holding Tryd.prog os ⟨#[], #[], []⟩).heap.modify 0 fun
      | .cells _ t frozen => .cells (kInts.map fun z => Value.int .u32 z).toArray t frozen
      | o => o }
theorem laid_met (os : Os) (args : Array Value) : laidMet Tryd.prog [("hallmark/digest.fractions", Rows.laid_hallmark_digest_fractions)] ((laidWorld os).forCall (fun _ _ => 0) ⟨#[], args, []⟩).memory :=
  laidMet_of_run' 8 (by kernel_rfl) (by kernel_rfl)
end Go.Proofs.YtmomdfmilelilaaDoor
