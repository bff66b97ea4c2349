/-
  The walk over digest.mix.
-/
import Derived.Test.YthnfbdmkdpokcaaDoorSch
import Derived.Deep.CutRange
namespace Go.Proofs.YthnfbdmkdpokcaaDoor
open Go.RowKit

/-- the table of the rounds' constants, as the program's text lays it -/
def Tab (w : World) : Prop := ∀ i, i < 64 → w.cell? ⟨0, i, none⟩ = some (.int .u32 ((Sha.K.getD i 0 : Nat) : Int))
theorem Tab.pos {w : World} (h : Tab w) : 0 < w.heap.size := by
  have := h 0 (by omega)
  cases hs : w.heap[0]? with
  | none => simp [World.cell?, hs] at this
  | some o => exact (Array.getElem?_eq_some_iff.1 hs).1
theorem Tab.below {B : Nat} {w w' : World} (h : Tab w) (hb : Below B w w') (hB : 0 < B) : Tab w' := fun i hi => (hb.cell (p := ⟨0, i, none⟩) hB).trans (h i hi)
theorem Tab.drewN {w : World} (h : Tab w) (n : Nat) : Tab (w.drewN n) := h
theorem rotq (x n : Nat) (hn : n < 32) (w : World) (hx : x < 4294967296) :
    Calls Tryd.prog 72 #[.int .u32 (x : Int), .int .i64 (n : Int)] w fun e w' => e = .returned (.int .u32 ((Rotm.rot x n : Nat) : Int)) ∧ w' = w :=
  (rotn x n hn w hx).mono fun _ _ ⟨h1, h2⟩ => ⟨h1, h2.symm⟩
theorem Wrow.below {B g : Nat} {w w' : World} {t : TypeId} {ws : List Nat} (h : Wrow w g t ws) (hb : Below B w w') (hg : g < B) : Wrow w' g t ws := (hb.block g hg).trans h
theorem Brow.below {B g : Nat} {w w' : World} {t : TypeId} {ws : List Nat} (h : Brow w g t ws) (hb : Below B w w') (hg : g < B) : Brow w' g t ws := (hb.block g hg).trans h
theorem cellsOf_size (zs : List Nat) : (cellsOf zs).toArray.size = zs.length := by simp [cellsOf]
theorem gen_world {P : Program} {ops : Array Oper} {Q : Exit → Act → World → Prop} {rest : List Oper} {a : Act} {W : World} {F : World → Prop} (h : F W) (k : ∀ w, F w → wpList P ops Q rest a w) : wpList P ops Q rest a W := k W h
theorem and_lt32 {a b : Nat} (hb : b < 4294967296) : a &&& b < 4294967296 := Nat.and_lt_two_pow (n := 32) a hb
theorem s1_int (e : Nat) : bits .xor .u32 (bits .xor .u32 ((Rotm.rot e 6 : Nat) : Int) ((Rotm.rot e 11 : Nat) : Int)) ((Rotm.rot e 25 : Nat) : Int) = ((Sha.S1 e : Nat) : Int) := sig_nat _ _ _ (Rotm.rot_lt _ _) (Rotm.rot_lt _ _) (Rotm.rot_lt _ _)
theorem s0_int (a : Nat) : bits .xor .u32 (bits .xor .u32 ((Rotm.rot a 2 : Nat) : Int) ((Rotm.rot a 13 : Nat) : Int)) ((Rotm.rot a 22 : Nat) : Int) = ((Sha.S0 a : Nat) : Int) := sig_nat _ _ _ (Rotm.rot_lt _ _) (Rotm.rot_lt _ _) (Rotm.rot_lt _ _)
theorem not_nat (e : Nat) (he : e < 4294967296) : bits .xor .u32 (if IntKind.u32.signed = true then -1 else IntKind.u32.max) (e : Int) = ((4294967295 - e : Nat) : Int) := by
  rw [show (if IntKind.u32.signed = true then (-1 : Int) else IntKind.u32.max) = ((4294967295 : Nat) : Int) by decide, u32_xor_nat _ _ (by omega) he]
  congr 1
  apply Nat.eq_of_testBit_eq
  intro i
  rw [Nat.testBit_xor, show 4294967295 - e = 2 ^ 32 - (e + 1) by omega, Nat.testBit_two_pow_sub_succ (n := 32) (x := e) (by omega), show (4294967295 : Nat) = 2 ^ 32 - 1 by rfl, Nat.testBit_two_pow_sub_one]
  by_cases hi : i < 32
  · simp [hi]
  · have h32 : 2 ^ 32 ≤ 2 ^ i := Nat.pow_le_pow_right (by omega) (by omega)
    have : e.testBit i = false := Nat.testBit_lt_two_pow (Nat.lt_of_lt_of_le he h32)
    simp [hi, this]
theorem ch_int (e f g : Nat) (he : e < 4294967296) (hf : f < 4294967296) (hg : g < 4294967296) :
    bits .xor .u32 (bits .and .u32 (e : Int) (f : Int)) (bits .and .u32 (bits .xor .u32 (if IntKind.u32.signed = true then -1 else IntKind.u32.max) (e : Int)) (g : Int)) = ((Sha.ch e f g : Nat) : Int) := by
  rw [not_nat e he, u32_and_nat _ _ he hf, u32_and_nat _ _ (by omega) hg, u32_xor_nat _ _ (and_lt32 hf) (and_lt32 hg)]
  rfl
theorem mj_int (a b c : Nat) (ha : a < 4294967296) (hb : b < 4294967296) (hc : c < 4294967296) :
    bits .xor .u32 (bits .xor .u32 (bits .and .u32 (a : Int) (b : Int)) (bits .and .u32 (a : Int) (c : Int))) (bits .and .u32 (b : Int) (c : Int)) = ((Sha.mj a b c : Nat) : Int) := by
  rw [u32_and_nat _ _ ha hb, u32_and_nat _ _ ha hc, u32_and_nat _ _ hb hc, u32_xor_nat _ _ (and_lt32 hb) (and_lt32 hc), u32_xor_nat _ _ (xor_lt32 (and_lt32 hb) (and_lt32 hc)) (and_lt32 hc)]
  rfl
theorem u32_eq {x y : Int} (h : x = y) : Value.int .u32 x = .int .u32 y := by rw [h]
theorem tx_val (a b c d e f g h kk wk : Nat) :
    Value.int .u32 ((((h : Int) + ((Sha.S1 e : Nat) : Int) + ((Sha.ch e f g : Nat) : Int) + (kk : Int)) % 4294967296 + (wk : Int)) % 4294967296) = .int .u32 ((Sha.tx ⟨a, b, c, d, e, f, g, h⟩ kk wk : Nat) : Int) := by
  refine u32_eq ?_
  unfold Sha.tx Sha.add
  generalize Sha.S1 e = s
  generalize Sha.ch e f g = t
  dsimp only
  omega
theorem ty_val (a b c d e f g h : Nat) :
    Value.int .u32 ((((Sha.S0 a : Nat) : Int) + ((Sha.mj a b c : Nat) : Int)) % 4294967296) = .int .u32 ((Sha.ty ⟨a, b, c, d, e, f, g, h⟩ : Nat) : Int) := by
  refine u32_eq ?_
  unfold Sha.ty Sha.add
  dsimp only
  omega
theorem add_val (a b : Nat) : Value.int .u32 (((a : Int) + (b : Int)) % 4294967296) = .int .u32 ((Sha.add a b : Nat) : Int) := by
  refine u32_eq ?_
  unfold Sha.add
  omega
theorem ty_facts (a b c d e f g h : Nat) (ha : a < 4294967296) (hb : b < 4294967296) (hc : c < 4294967296) : ∃ y1 y3 y4 y5 y6 s0 m t : Nat,
    bits .xor .u32 ((Rotm.rot a 2 : Nat) : Int) ((Rotm.rot a 13 : Nat) : Int) = (y1 : Int) ∧ bits .xor .u32 (y1 : Int) ((Rotm.rot a 22 : Nat) : Int) = (s0 : Int) ∧
    bits .and .u32 (a : Int) (b : Int) = (y3 : Int) ∧ bits .and .u32 (a : Int) (c : Int) = (y4 : Int) ∧ bits .xor .u32 (y3 : Int) (y4 : Int) = (y5 : Int) ∧
    bits .and .u32 (b : Int) (c : Int) = (y6 : Int) ∧ bits .xor .u32 (y5 : Int) (y6 : Int) = (m : Int) ∧ ((s0 : Int) + (m : Int)) % 4294967296 = (t : Int) ∧ t = Sha.ty ⟨a, b, c, d, e, f, g, h⟩ := by
  refine ⟨_, _, _, _, _, _, _, _, u32_xor_nat _ _ (Rotm.rot_lt _ _) (Rotm.rot_lt _ _), u32_xor_nat _ _ (xor_lt32 (Rotm.rot_lt _ _) (Rotm.rot_lt _ _)) (Rotm.rot_lt _ _), u32_and_nat _ _ ha hb, u32_and_nat _ _ ha hc,
    u32_xor_nat _ _ (and_lt32 hb) (and_lt32 hc), u32_and_nat _ _ hb hc, u32_xor_nat _ _ (xor_lt32 (and_lt32 hb) (and_lt32 hc)) (and_lt32 hc), ?_, rfl⟩
  unfold Sha.ty Sha.add
  dsimp only [Sha.S0, Sha.mj]
  omega
theorem mix_cells (x0 x1 x2 x3 x4 x5 x6 x7 : Nat) (bs ws : List Nat) (r : Sha.R8) (hws : ws = Sha.sch bs 64) (hr : r = Sha.rnds (Sha.r8 [x0, x1, x2, x3, x4, x5, x6, x7]) ws 64) :
    wordsOf (Sha.mix [x0, x1, x2, x3, x4, x5, x6, x7] bs) = [.int .u32 ((Sha.add x0 r.a : Nat) : Int), .int .u32 ((Sha.add x1 r.b : Nat) : Int), .int .u32 ((Sha.add x2 r.c : Nat) : Int), .int .u32 ((Sha.add x3 r.d : Nat) : Int),
      .int .u32 ((Sha.add x4 r.e : Nat) : Int), .int .u32 ((Sha.add x5 r.f : Nat) : Int), .int .u32 ((Sha.add x6 r.g : Nat) : Int), .int .u32 ((Sha.add x7 r.h : Nat) : Int)] := by
  unfold Sha.mix
  rw [← hws, ← hr]
  rfl
theorem info_words : (Tryd.prog.info? 96).map (·.size) = some 8 := by kernel_rfl
theorem info_block : (Tryd.prog.info? 98).map (·.size) = some 64 := by kernel_rfl
theorem info_w64 : (Tryd.prog.info? 110).map (·.size) = some 64 := by kernel_rfl

set_option maxRecDepth 100000 in
set_option maxHeartbeats 3200000 in
theorem mix_c (hs bs : List Nat) (w : World) (hh : hs.length = 8) (hhs : ∀ z ∈ hs, z < 4294967296) (hl : bs.length = 64) (hb : ∀ z ∈ bs, z < 256) (ht : Tab w) :
    Calls Tryd.prog 63 #[.agg (wordsOf hs).toArray, .agg (cellsOf bs).toArray] w fun e w' => e = .returned (.agg (wordsOf (Sha.mix hs bs)).toArray) ∧ Below w.heap.size w w' := by
  go_enter Tryd.func63, Tryd.ntmps63
  have hpos := ht.pos
  have hib : (Tryd.prog.info? 98).map (·.size) = some (cellsOf bs).toArray.size := by rw [cellsOf_size, hl]; exact info_block
  go_wp2_with (first | (refine wpList_load_row (by rfl) 98 _ (by rfl) (w.heap.size + 1) (by rfl) _ (cellsOf bs).toArray (0, 0) _ (by exact (heap_new3 _ _ _ _).2.1) Tryd.underlying98 (by rfl) hib ?_))
  refine (schedule_c bs _ hl hb).mono ?_
  rintro en w1 ⟨rfl, hb1⟩
  have hv1 : Wrow w1 w.heap.size 96 hs := (hb1.block _ (by simp <;> omega)).trans (heap_new3 _ _ _ _).1
  have hr1 : Wrow w1 (w.heap.size + 1 + 1) 96 (List.replicate 8 0) := (hb1.block _ (by simp <;> omega)).trans (heap_new3 _ _ _ _).2.2
  have hB1 : Below w.heap.size w w1 := Below.trans ((((Below.refl _ _).alloc (by omega) _).alloc (by simp) _).alloc (by simp; omega) _) (hb1.mono (by simp; omega))
  have hs1 : w.heap.size + 3 ≤ w1.heap.size := by have := hb1.size; simp at this; omega
  have ht1 : Tab w1 := ht.below hB1 hpos
  clear hb1 hib
  have hl64 := Sha.sch_len bs 64
  have hi64 : (Tryd.prog.info? 110).map (·.size) = some (wordsOf (Sha.sch bs 64)).toArray.size := by rw [wordsOf_size, hl64]; exact info_w64
  obtain ⟨A, hA⟩ : ∃ A, A = (wordsOf (Sha.sch bs 64)).toArray := ⟨_, rfl⟩
  have hone : A.all (·.oneCell') = true := by rw [hA]; exact wordsOf_one _
  rw [← hA] at hi64
  rw [← hA]
  have ho : (wordsOf (List.replicate 64 0)).toArray.size = A.size := by rw [hA, wordsOf_size, wordsOf_size, hl64]; rfl
  obtain ⟨x0, x1, x2, x3, x4, x5, x6, x7, rfl⟩ : ∃ x0 x1 x2 x3 x4 x5 x6 x7, hs = [x0, x1, x2, x3, x4, x5, x6, x7] := by
    match hs, hh with
    | [x0, x1, x2, x3, x4, x5, x6, x7], _ => exact ⟨_, _, _, _, _, _, _, _, rfl⟩
  have K1 := Lib.hid (fun (X : Obj) (hX : X = .cells (wordsOf (List.replicate 64 0)).toArray 110 (0, 0)) => show
      (Wrow ((w1.alloc X).setRow w1.heap.size A) w.heap.size 96 [x0, x1, x2, x3, x4, x5, x6, x7] ∧ Wrow ((w1.alloc X).setRow w1.heap.size A) (w.heap.size + 1 + 1) 96 (List.replicate 8 0) ∧
       ((w1.alloc X).setRow w1.heap.size A).heap[w1.heap.size]? = some (.cells A 110 (0, 0)) ∧ Below w.heap.size w ((w1.alloc X).setRow w1.heap.size A) ∧ Tab ((w1.alloc X).setRow w1.heap.size A)) from by
    have hb2 : Below w1.heap.size w1 ((w1.alloc X).setRow w1.heap.size A) := ((Below.refl _ _).alloc (Nat.le_refl _) _).setRow (Nat.le_refl _) _
    refine ⟨hv1.below hb2 (by omega), hr1.below hb2 (by omega), setRow_heap _ _ _ _ _ _ (by rw [hX]; exact heap_new _ _), hB1.trans (hb2.mono (by omega)), ht1.below hb2 (by omega)⟩)
  have hg1 : w.heap.size + 3 ≤ w1.heap.size := hs1
  have h32 : ∀ z ∈ [x0, x1, x2, x3, x4, x5, x6, x7], z < 4294967296 := hhs
  have H32 := Lib.hid h32
  clear hv1 hr1 hB1 ht1 hs1 hhs hh hl hb h32
  have hhid := Lib.hid hi64
  have hohid := Lib.hid ho
  have honeh := Lib.hid hone
  have HA := Lib.hid hA
  have HL64 := Lib.hid hl64
  clear hi64 ho hone hA hl64
  go_wp2_with (first | (refine wpList_store_row (by rfl) 110 _ _ (by rfl) w1.heap.size A (by rfl) (by rfl) 110 (wordsOf (List.replicate 64 0)).toArray (by exact heap_new _ _) hhid.out hohid.out honeh.out ?_; refine gen_world (F := fun W => Wrow W w.heap.size 96 [x0, x1, x2, x3, x4, x5, x6, x7] ∧ Wrow W (w.heap.size + 1 + 1) 96 (List.replicate 8 0) ∧ W.heap[w1.heap.size]? = some (.cells A 110 (0, 0)) ∧ Below w.heap.size w W ∧ Tab W) (K1.out _ rfl) ?_; rintro w2 ⟨hv2, hr2, ha2, hB2, ht2⟩; clear K1 hhid hohid honeh; have hV := Lib.hid hv2; have hR := Lib.hid hr2; have hAA := Lib.hid ha2; have hBB := Lib.hid hB2; have hTT := Lib.hid ht2; clear hv2 hr2 ha2 hB2 ht2))
  have e0 : w2.cell? ⟨w.heap.size, 0, none⟩ = some (.int .u32 (x0 : Int)) := hV.out.cell 0 (by simp)
  have e0' : ∀ q, (w2.drewN q).cell? ⟨w.heap.size, 0, none⟩ = some (.int .u32 (x0 : Int)) := fun q => e0
  have e1 : w2.cell? ⟨w.heap.size, 1, none⟩ = some (.int .u32 (x1 : Int)) := hV.out.cell 1 (by simp)
  have e1' : ∀ q, (w2.drewN q).cell? ⟨w.heap.size, 1, none⟩ = some (.int .u32 (x1 : Int)) := fun q => e1
  have e2 : w2.cell? ⟨w.heap.size, 2, none⟩ = some (.int .u32 (x2 : Int)) := hV.out.cell 2 (by simp)
  have e2' : ∀ q, (w2.drewN q).cell? ⟨w.heap.size, 2, none⟩ = some (.int .u32 (x2 : Int)) := fun q => e2
  have e3 : w2.cell? ⟨w.heap.size, 3, none⟩ = some (.int .u32 (x3 : Int)) := hV.out.cell 3 (by simp)
  have e3' : ∀ q, (w2.drewN q).cell? ⟨w.heap.size, 3, none⟩ = some (.int .u32 (x3 : Int)) := fun q => e3
  have e4 : w2.cell? ⟨w.heap.size, 4, none⟩ = some (.int .u32 (x4 : Int)) := hV.out.cell 4 (by simp)
  have e4' : ∀ q, (w2.drewN q).cell? ⟨w.heap.size, 4, none⟩ = some (.int .u32 (x4 : Int)) := fun q => e4
  have e5 : w2.cell? ⟨w.heap.size, 5, none⟩ = some (.int .u32 (x5 : Int)) := hV.out.cell 5 (by simp)
  have e5' : ∀ q, (w2.drewN q).cell? ⟨w.heap.size, 5, none⟩ = some (.int .u32 (x5 : Int)) := fun q => e5
  have e6 : w2.cell? ⟨w.heap.size, 6, none⟩ = some (.int .u32 (x6 : Int)) := hV.out.cell 6 (by simp)
  have e6' : ∀ q, (w2.drewN q).cell? ⟨w.heap.size, 6, none⟩ = some (.int .u32 (x6 : Int)) := fun q => e6
  have e7 : w2.cell? ⟨w.heap.size, 7, none⟩ = some (.int .u32 (x7 : Int)) := hV.out.cell 7 (by simp)
  have e7' : ∀ q, (w2.drewN q).cell? ⟨w.heap.size, 7, none⟩ = some (.int .u32 (x7 : Int)) := fun q => e7
  go_wp2
  go_quiet (fail)
  clear e0 e0' e1 e1' e2 e2' e3 e3' e4 e4' e5 e5' e6 e6' e7 e7'
  go_wp2_with fail
  obtain ⟨ws, hws⟩ : ∃ ws, ws = Sha.sch bs 64 := ⟨_, rfl⟩
  have HWS := Lib.hid hws
  have hwl : ws.length = 64 := by rw [hws]; exact HL64.out
  have hrow : w2.heap[w1.heap.size]? = some (.cells (wordsOf ws).toArray 110 (0, 0)) := by rw [hws, ← HA.out]; exact hAA.out
  have HROW := Lib.hid hrow
  have HWL := Lib.hid hwl
  clear hws hrow hwl
  have h32 := H32.out
  have hok0 : (Sha.r8 [x0, x1, x2, x3, x4, x5, x6, x7]).ok := ⟨h32 x0 (by simp), h32 x1 (by simp), h32 x2 (by simp), h32 x3 (by simp), h32 x4 (by simp), h32 x5 (by simp), h32 x6 (by simp), h32 x7 (by simp)⟩
  have HOK := Lib.hid hok0
  clear hok0 h32
  go_loopw [6, 7, 8, 9, 10, 11, 12, 13, 35] (fun va vb vc vd ve vf vg vh i wr => ∃ (k : Nat) (r : Sha.R8), k ≤ 64 ∧ i = .int .i64 k ∧ va = .int .u32 (r.a : Int) ∧ vb = .int .u32 (r.b : Int) ∧ vc = .int .u32 (r.c : Int) ∧ vd = .int .u32 (r.d : Int) ∧ ve = .int .u32 (r.e : Int) ∧ vf = .int .u32 (r.f : Int) ∧ vg = .int .u32 (r.g : Int) ∧ vh = .int .u32 (r.h : Int) ∧ r = Sha.rnds (Sha.r8 [x0, x1, x2, x3, x4, x5, x6, x7]) ws k ∧ Hid (∃ q, wr = w2.drewN q)) (fun _ _ _ _ _ _ _ _ i _ => 64 - (intOf i).toNat)
  case atStart => exact ⟨0, _, by omega, rfl, rfl, rfl, rfl, rfl, rfl, rfl, rfl, rfl, rfl, Lib.hid ⟨nq, rfl⟩⟩
  case round =>
    obtain ⟨k, r, hk, rfl, rfl, rfl, rfl, rfl, rfl, rfl, rfl, rfl, hr, HQ⟩ := hrel
    have hok := Sha.rnds_ok HOK.out ws k
    rw [← hr] at hok
    obtain ⟨a, b, c, d, e, f, g, h⟩ := r
    obtain ⟨oa, ob, oc, od, oe, of, og, oh⟩ := hok
    dsimp only at oa ob oc od oe of og oh
    have HR := Lib.hid hr
    have R6 := Lib.hid (show ∀ W : World, Calls Tryd.prog 72 #[.int .u32 (e : Int), .int .i64 6] W (fun e' w' => e' = .returned (.int .u32 ((Rotm.rot e 6 : Nat) : Int)) ∧ w' = W) from fun W => rotq e 6 (by decide) W oe)
    have R11 := Lib.hid (show ∀ W : World, Calls Tryd.prog 72 #[.int .u32 (e : Int), .int .i64 11] W (fun e' w' => e' = .returned (.int .u32 ((Rotm.rot e 11 : Nat) : Int)) ∧ w' = W) from fun W => rotq e 11 (by decide) W oe)
    have R25 := Lib.hid (show ∀ W : World, Calls Tryd.prog 72 #[.int .u32 (e : Int), .int .i64 25] W (fun e' w' => e' = .returned (.int .u32 ((Rotm.rot e 25 : Nat) : Int)) ∧ w' = W) from fun W => rotq e 25 (by decide) W oe)
    have T2 := Lib.hid (show ∀ W : World, Calls Tryd.prog 72 #[.int .u32 (a : Int), .int .i64 2] W (fun e' w' => e' = .returned (.int .u32 ((Rotm.rot a 2 : Nat) : Int)) ∧ W = w') from fun W => rotn a 2 (by decide) W oa)
    have T13 := Lib.hid (show ∀ W : World, Calls Tryd.prog 72 #[.int .u32 (a : Int), .int .i64 13] W (fun e' w' => e' = .returned (.int .u32 ((Rotm.rot a 13 : Nat) : Int)) ∧ W = w') from fun W => rotn a 13 (by decide) W oa)
    have T22 := Lib.hid (show ∀ W : World, Calls Tryd.prog 72 #[.int .u32 (a : Int), .int .i64 22] W (fun e' w' => e' = .returned (.int .u32 ((Rotm.rot a 22 : Nat) : Int)) ∧ W = w') from fun W => rotn a 22 (by decide) W oa)
    have OA := Lib.hid oa
    have OB := Lib.hid ob
    have OC := Lib.hid oc
    have OD := Lib.hid od
    have OE := Lib.hid oe
    have OF := Lib.hid of
    have OG := Lib.hid og
    have OH := Lib.hid oh
    clear hr oa ob oc od oe of og oh
    by_cases hk64 : k < 64
    · have ck0 : wr.cell? ⟨0, k, none⟩ = some (.int .u32 ((Sha.K.getD k 0 : Nat) : Int)) := by obtain ⟨q, rfl⟩ := HQ.out; exact hTT.out k hk64
      have cw0 : wr.cell? ⟨w1.heap.size, k, none⟩ = some (.int .u32 ((ws.getD k 0 : Nat) : Int)) := by obtain ⟨q, rfl⟩ := HQ.out; exact Wrow.cell (t := 110) HROW.out k (by rw [HWL.out]; exact hk64)
      obtain ⟨kk, hkk⟩ : ∃ z, z = Sha.K.getD k 0 := ⟨_, rfl⟩
      obtain ⟨wk, hwk⟩ : ∃ z, z = ws.getD k 0 := ⟨_, rfl⟩
      rw [← hkk] at ck0
      rw [← hwk] at cw0
      have ck : ∀ q, (wr.drewN q).cell? ⟨0, k, none⟩ = some (.int .u32 (kk : Int)) := fun q => ck0
      have cw : ∀ q, (wr.drewN q).cell? ⟨w1.heap.size, k, none⟩ = some (.int .u32 (wk : Int)) := fun q => cw0
      have HKK := Lib.hid hkk
      have HWK := Lib.hid hwk
      clear hkk hwk
      have q1 : (0 : Int) ≤ (k : Int) := by omega
      have q2 : (k : Int) < 64 := by omega
      go_upto_region 6 with fail
      go_cut [15, 35] from 35 to 97 (fun s15 s35 wx => s15 = .int .u32 ((Sha.tx ⟨a, b, c, d, e, f, g, h⟩ kk wk : Nat) : Int) ∧ s35 = .int .i64 (k : Int) ∧ ∃ n, wx = wr.drewN n)
      case first =>
        go_quiet ((go_at_call 72; first | with_reducible exact Calls.quiet_of_same (R6.out _) | with_reducible exact Calls.quiet_of_same (R11.out _) | with_reducible exact Calls.quiet_of_same (R25.out _)))
        clear ck cw ck0 cw0
        with_reducible rw [s1_int e, ch_int e f g OE.out OF.out OG.out]
        with_reducible generalize hx : Value.int IntKind.u32 ((_ % 4294967296 + (wk : Int)) % 4294967296) = x64
        with_reducible generalize Value.int IntKind.u32 (_ % 4294967296) = zm0
        with_reducible generalize Value.int IntKind.u32 (_ % 4294967296) = zm1
        with_reducible generalize Value.int IntKind.u32 (_ % 4294967296) = zm2
        with_reducible generalize Value.int IntKind.u32 (bits _ _ _ _) = zb0
        with_reducible generalize Value.int IntKind.u32 (bits _ _ _ _) = zb1
        with_reducible generalize Value.int IntKind.u32 (bits _ _ _ _) = zb2
        with_reducible generalize Value.int IntKind.u32 (bits _ _ _ _) = zb3
        have HX := Lib.hid hx
        clear hx
        go_wp2
        go_meet
        refine ⟨?_, rfl, nq, rfl⟩
        exact HX.out.symm.trans (tx_val a b c d e f g h kk wk)
      case rest =>
        obtain ⟨rfl, rfl, hq2⟩ := hcut
        have HQ1 : Hid (∃ q, wc = w2.drewN q) := by
          obtain ⟨q, rfl⟩ := HQ.out
          obtain ⟨n, rfl⟩ := hq2
          exact Lib.hid ⟨q + n, drewN_add _ _ _⟩
        clear hq2 HQ ck cw ck0 cw0
        go_upto_region 7 with fail
        go_cut [16, 35] from 35 to 97 (fun s16 s35 wx => s16 = .int .u32 ((Sha.ty ⟨a, b, c, d, e, f, g, h⟩ : Nat) : Int) ∧ s35 = .int .i64 (k : Int) ∧ wx = wc)
        case first =>
          obtain ⟨y1, y3, y4, y5, y6, s0, m, t, f1, f2, f3, f4, f5, f6, f7, f8, f9⟩ := ty_facts a b c d e f g h OA.out OB.out OC.out
          obtain ⟨r2, hr2⟩ : ∃ z, z = Rotm.rot a 2 := ⟨_, rfl⟩
          obtain ⟨r13, hr13⟩ : ∃ z, z = Rotm.rot a 13 := ⟨_, rfl⟩
          obtain ⟨r22, hr22⟩ : ∃ z, z = Rotm.rot a 22 := ⟨_, rfl⟩
          rw [← hr2] at T2 f1
          rw [← hr13] at T13 f1
          rw [← hr22] at T22 f2
          have F9 := Lib.hid f9
          have F8 := Lib.hid f8
          clear f8 f9 hr2 hr13 hr22
          go_wp2_with fail
          with_reducible refine (T2.out _).mono ?_
          rintro en wx ⟨rfl, rfl⟩
          go_wp2_with fail
          with_reducible refine (T13.out _).mono ?_
          rintro en wx ⟨rfl, rfl⟩
          go_wp2_with fail
          with_reducible refine (T22.out _).mono ?_
          rintro en wx ⟨rfl, rfl⟩
          go_wp2_with fail
          go_meet
          exact ⟨u32_eq (F8.out.trans (by rw [F9.out])), rfl, rfl⟩
        case rest =>
          obtain ⟨rfl, rfl, rfl⟩ := hcut
          obtain ⟨tx, htx⟩ : ∃ z, z = Sha.tx ⟨a, b, c, d, e, f, g, h⟩ kk wk := ⟨_, rfl⟩
          obtain ⟨ty, hty⟩ : ∃ z, z = Sha.ty ⟨a, b, c, d, e, f, g, h⟩ := ⟨_, rfl⟩
          rw [← htx, ← hty]
          obtain ⟨t1, ht1, hT1⟩ : ∃ z : Nat, ((tx : Int) + (ty : Int)) % 4294967296 = (z : Int) ∧ z = Sha.add tx ty := ⟨_, by unfold Sha.add; omega, rfl⟩
          obtain ⟨t2, ht2, hT2⟩ : ∃ z : Nat, ((d : Int) + (tx : Int)) % 4294967296 = (z : Int) ∧ z = Sha.add d tx := ⟨_, by unfold Sha.add; omega, rfl⟩
          have HTX := Lib.hid htx
          have HTY := Lib.hid hty
          have HT1 := Lib.hid hT1
          have HT2 := Lib.hid hT2
          clear htx hty hT1 hT2
          have HE1 := Lib.hid ht1
          have HE2 := Lib.hid ht2
          clear ht1 ht2
          go_wp2_with fail
          clear q1 q2
          refine ⟨?rel, ?measure⟩
          case rel =>
            refine ⟨k + 1, ⟨t1, a, b, c, t2, e, f, g⟩, by omega, by go_num, u32_eq HE1.out, rfl, rfl, rfl, u32_eq HE2.out, rfl, rfl, rfl, ?_, HQ1⟩
            rw [HT1.out, HT2.out, HTX.out, HTY.out, HKK.out, HWK.out, Sha.rnds, ← HR.out]
            rfl
          case measure => simp [intOf]; omega
    · obtain rfl : k = 64 := by omega
      have hres : wr.heap[w.heap.size + 1 + 1]? = some (.cells (wordsOf (List.replicate 8 0)).toArray 96 (0, 0)) := by obtain ⟨q, rfl⟩ := HQ.out; exact hR.out
      have hbel : Below w.heap.size w wr := by obtain ⟨q, rfl⟩ := HQ.out; exact hBB.out.trans (below_drewN' _ _ _)
      have e0 : wr.cell? ⟨w.heap.size, 0, none⟩ = some (.int .u32 (x0 : Int)) := by obtain ⟨q, rfl⟩ := HQ.out; exact hV.out.cell 0 (by simp)
      have e1 : wr.cell? ⟨w.heap.size, 1, none⟩ = some (.int .u32 (x1 : Int)) := by obtain ⟨q, rfl⟩ := HQ.out; exact hV.out.cell 1 (by simp)
      have e2 : wr.cell? ⟨w.heap.size, 2, none⟩ = some (.int .u32 (x2 : Int)) := by obtain ⟨q, rfl⟩ := HQ.out; exact hV.out.cell 2 (by simp)
      have e3 : wr.cell? ⟨w.heap.size, 3, none⟩ = some (.int .u32 (x3 : Int)) := by obtain ⟨q, rfl⟩ := HQ.out; exact hV.out.cell 3 (by simp)
      have e4 : wr.cell? ⟨w.heap.size, 4, none⟩ = some (.int .u32 (x4 : Int)) := by obtain ⟨q, rfl⟩ := HQ.out; exact hV.out.cell 4 (by simp)
      have e5 : wr.cell? ⟨w.heap.size, 5, none⟩ = some (.int .u32 (x5 : Int)) := by obtain ⟨q, rfl⟩ := HQ.out; exact hV.out.cell 5 (by simp)
      have e6 : wr.cell? ⟨w.heap.size, 6, none⟩ = some (.int .u32 (x6 : Int)) := by obtain ⟨q, rfl⟩ := HQ.out; exact hV.out.cell 6 (by simp)
      have e7 : wr.cell? ⟨w.heap.size, 7, none⟩ = some (.int .u32 (x7 : Int)) := by obtain ⟨q, rfl⟩ := HQ.out; exact hV.out.cell 7 (by simp)
      have HRES := Lib.hid hres
      have HBEL := Lib.hid hbel
      have HMIX := Lib.hid (mix_cells x0 x1 x2 x3 x4 x5 x6 x7 bs ws _ HWS.out HR.out)
      obtain ⟨C, hC⟩ : ∃ C : Array Value, C = #[.int .u32 (((x0 : Int) + (a : Int)) % 4294967296), .int .u32 (((x1 : Int) + (b : Int)) % 4294967296), .int .u32 (((x2 : Int) + (c : Int)) % 4294967296), .int .u32 (((x3 : Int) + (d : Int)) % 4294967296), .int .u32 (((x4 : Int) + (e : Int)) % 4294967296), .int .u32 (((x5 : Int) + (f : Int)) % 4294967296), .int .u32 (((x6 : Int) + (g : Int)) % 4294967296), .int .u32 (((x7 : Int) + (h : Int)) % 4294967296)] := ⟨_, rfl⟩
      have hwi : (Tryd.prog.info? 96).map (·.size) = some C.size := by rw [hC]; exact info_words
      have hCs : (wordsOf (List.replicate 8 0)).toArray.size = C.size := by rw [hC]; rfl
      have hC1 : C.all (·.oneCell') = true := by
        rw [hC]
        refine Array.all_eq_true_iff_forall_mem.2 fun v hv => ?_
        simp only [List.mem_toArray, List.mem_cons, List.not_mem_nil, or_false] at hv
        rcases hv with rfl | rfl | rfl | rfl | rfl | rfl | rfl | rfl <;> rfl
      have hin := Lib.hid (setRow_heap wr (w.heap.size + 1 + 1) _ C _ _ HRES.out)
      have HC := Lib.hid hC
      have HWI := Lib.hid hwi
      have HCS := Lib.hid hCs
      have HC1 := Lib.hid hC1
      clear hres hbel hwi hk hk64 hC hCs hC1
      go_wp2_with (first | (refine wpList_store_row (by rfl) 96 _ _ (by rfl) (w.heap.size + 1 + 1) C (by rfl) (by rw [HC.out]; rfl) 96 (wordsOf (List.replicate 8 0)).toArray HRES.out HWI.out HCS.out HC1.out ?_))
      refine bodyPost_ret (results_cell_row (by rfl) _ _ (w.heap.size + 1 + 1) _ C (0, 0) _ (by rfl) hin.out Tryd.underlying96 (by rfl) HWI.out) ?_ ?_
      · rfl
      · refine ⟨?_, HBEL.out.setRow (by omega) _⟩
        rw [HMIX.out, HC.out]
        rw [add_val, add_val, add_val, add_val, add_val, add_val, add_val, add_val]
end Go.Proofs.YthnfbdmkdpokcaaDoor
