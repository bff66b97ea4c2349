/-
  The marker looks at the first gray sum.
-/
import Derived.Test.YtpppffgchgcghaaGrd
import Derived.Deep.MidRow
namespace Go.Proofs.Ytpppffgchgcghaa
open Go.RowKit Go.Maps
set_option linter.unusedVariables false
theorem infoG {d : List Nat} (h : D32 d) : (Try.prog.info? 42).map (·.size) = some (cellsOf d).toArray.size := by rw [cellsOf_size, h.1]; exact info_dig
theorem zsizeG {d : List Nat} (h : D32 d) : (cellsOf zs32).toArray.size = (cellsOf d).toArray.size := by rw [cellsOf_size, cellsOf_size, h.1, zs32_len]
theorem run_cell_gp (W : World) (p : Addr) (m : Option Addr) (hc : W.cell? p = some (.pointer m)) : (Instr.loadAt 23 (.pointer (some p))).run Try.prog W = .ok (.pointer m) W := by go_simp
def bk (b : List Nat → Bool) (d : List Nat) : List Nat → Bool := fun t => if t = d then true else b t
/-- one look -/
def lookP (f : List Nat → Option Ds) (gray : Ds) (b : List Nat → Bool) : Ds × (List Nat → Bool) :=
  match gray with
  | [] => ([], b)
  | d :: r => match f d with
    | none => (r, b)
    | some ts => if b d then (r, b) else (r ++ ts.filter (fun x => !(bk b d) x), bk b d)
/-- the head is cut off in memory -/
theorem mr_cut {B N k g : Nat} {O : Nat → Prop} {W : World} {d : List Nat} {r : Ds} {b : List Nat → Bool} {a : Option Addr} {n cap : Nat} (h : MR B N O W k g (d :: r) b) (hc : W.cell? ⟨k, 1, none⟩ = some (.slice a n cap)) : MR B N O (W.setCell ⟨k, 1, none⟩ (.slice (sld a cap 1) (n - 1) (cap - 1))) k g r b ∧ Fr O W (W.setCell ⟨k, 1, none⟩ (.slice (sld a cap 1) (n - 1) (cap - 1))) := by
  obtain ⟨gv, bm, h1, h2, h3, h4⟩ := h.ex
  have c1 : W.cell? ⟨k, 1, none⟩ = some gv := (cell_of_row W k 1 _ _ _ h1).trans rfl
  rw [hc] at c1
  cases c1
  have hset : ∀ j, j ≠ k → (W.setCell ⟨k, 1, none⟩ (.slice (sld a cap 1) (n - 1) (cap - 1))).heap[j]? = W.heap[j]? := fun j hj => Below.heap_setCell W ⟨k, 1, none⟩ _ j hj
  have hk8 : (W.setCell ⟨k, 1, none⟩ (.slice (sld a cap 1) (n - 1) (cap - 1))).heap[k]? = some (.cells #[.pointer (some ⟨g, 0, none⟩), .slice (sld a cap 1) (n - 1) (cap - 1), .map bm] 76 (0, 0)) := row_set (o := 1) h1 _ (by show 1 < 3; omega)
  have hsz : (W.setCell ⟨k, 1, none⟩ (.slice (sld a cap 1) (n - 1) (cap - 1))).heap.size = W.heap.size := by simp only [World.setCell, Array.size_modify]
  have hob : ∀ j, (Value.slice (sld a cap 1) (n - 1) (cap - 1)).ownBlock = some j → (Value.slice a n cap).ownBlock = some j := fun j e => by
    unfold sld at e
    cases a with
    | none => split at e <;> cases e
    | some ad =>
      split at e
      · exact e
      · simp only [Option.map_some, Value.ownBlock, Option.some.injEq] at e ⊢
        rw [← e]
        unfold Addr.add
        split <;> rfl
  refine ⟨⟨h.own, fun j hj => by rw [hsz]; exact h.ob j hj, _, bm, hk8, h2.cut.keep fun j e => hset j fun e2 => ?_, fun j e => h3 j (hob j e), h4.imp id fun ⟨m, n, D, e1, e2, e3, e4⟩ => ⟨m, n, D, e1, e2, e3, e4.keep (hset m fun e => ?_)⟩⟩, rfl, rfl, rfl, by rw [hsz]; exact Nat.le_refl _, fun j hj hn => hset j fun e => hn (by rw [e]; exact h.own)⟩
  · obtain ⟨_, _, cur, hc2⟩ := h2.block j (hob j e)
    rw [e2, h1] at hc2
    simp only [Option.some.injEq, Obj.cells.injEq] at hc2
    exact absurd hc2.2.1 (by decide)
  · obtain ⟨es, cl, hmm⟩ := gmap_block e4.mp
    rw [e, h1] at hmm
    cases hmm
/-- in the middle of a look -/
def LkI (B N k g : Nat) (O : Nat → Prop) (w : World) (r : Ds) (bb : List Nat → Bool) (ts : Ds) (j : Nat) (wr : World) : Prop := MR B N (ext O w wr) wr k g (r ++ (ts.take j).filter (fun x => !bb x)) bb ∧ Fr O w wr
theorem take_filter_snoc {ts : Ds} {j : Nat} {x : List Nat} (hj : j < ts.length) (hx : x = ts.getD j []) (p : List Nat → Bool) : (ts.take (j + 1)).filter p = (ts.take j).filter p ++ (if p x then [x] else []) := by
  have e : x = ts[j] := by rw [hx, List.getD_eq_getElem?_getD, List.getElem?_eq_getElem hj]; rfl
  rw [List.take_succ_eq_append_getElem hj, List.filter_append, ← e]
  cases h : p x <;> simp [h]
theorem LkI.skip {B N k g j : Nat} {O : Nat → Prop} {w wr w5 : World} {r ts : Ds} {bb : List Nat → Bool} {x : List Nat} (hm : MR B N (ext O w wr) w5 k g (r ++ (ts.take j).filter (fun x => !bb x)) bb) (hf : Fr O w w5) (hb : Below wr.heap.size wr w5) (hob : ∀ j, O j → B ≤ j ∧ j < w.heap.size) (hB : B ≤ w.heap.size) (hj : j < ts.length) (hx : x = ts.getD j []) (hbx : bb x = true) : LkI B N k g O w r bb ts (j + 1) w5 := by
  refine ⟨?_, hf⟩
  rw [take_filter_snoc hj hx]
  simp only [hbx, Bool.not_true, Bool.false_eq_true, if_false, List.append_nil]
  exact hm.more (fun i hi => hi.imp id fun e => ⟨e.1, Nat.lt_of_lt_of_le e.2 hb.size⟩) (ext_ob hob hB hf.size) (Nat.le_refl _)
theorem LkI.push {B N k g j : Nat} {O : Nat → Prop} {w wr w5 W0 w8 : World} {r ts : Ds} {bb : List Nat → Bool} {x : List Nat} (hb : Below wr.heap.size wr w5) (hs : w.heap.size ≤ wr.heap.size) (hf : Fr O w w5) (h8 : MR B N (ext (ext O w wr) W0 w8) w8 k g ((r ++ (ts.take j).filter (fun x => !bb x)) ++ [x]) bb) (hf8 : Fr (ext O w wr) W0 w8) (h0 : W0.os = w5.os ∧ W0.tape = w5.tape ∧ W0.output = w5.output ∧ W0.heap = w5.heap) (hob : ∀ j, O j → B ≤ j ∧ j < w.heap.size) (hB : B ≤ w.heap.size) (hj : j < ts.length) (hx : x = ts.getD j []) (hbx : bb x = false) : LkI B N k g O w r bb ts (j + 1) w8 := by
  have hs1 := hf.size
  have hs8 := hf8.size
  have hs5 := hb.size
  have hs0 : W0.heap.size = w5.heap.size := by rw [h0.2.2.2]
  refine ⟨?_, ⟨(hf8.os.trans h0.1).trans hf.os, (hf8.tape.trans h0.2.1).trans hf.tape, (hf8.output.trans h0.2.2.1).trans hf.output, by omega, fun i hi hn => ?_⟩⟩
  · rw [take_filter_snoc hj hx]
    simp only [hbx, Bool.not_false, if_true]
    rw [← List.append_assoc]
    refine h8.more (fun i hi => ?_) (ext_ob hob hB (by omega)) (Nat.le_refl _)
    rcases hi with (hi | hi) | hi
    · exact .inl hi
    · exact .inr ⟨hi.1, by omega⟩
    · exact .inr ⟨by omega, hi.2⟩
  · refine (hf8.block i (by omega) fun e => hn (ext_old i hi e)).trans ?_
    rw [h0.2.2.2]
    exact hf.block i hi hn
theorem fr_of_eq {O : Nat → Prop} {w w1 : World} {W0 : World} (h : Fr O w w1) (h0 : W0 = World.drew w1) : Fr O w W0 := by rw [h0]; exact ⟨h.os, h.tape, h.output, h.size, h.block⟩
set_option maxRecDepth 100000 in
set_option maxHeartbeats 16000000 in
theorem look_c {B B2 N N2 k g : Nat} {O V : Nat → Prop} {w : World} {f : List Nat → Option Ds} {d : List Nat} {r : Ds} {b : List Nat → Bool} (h : MR B N O w k g (d :: r) b) (hG : GR B2 N2 V w g f) (hVO : ∀ j, V j → ¬ O j) (hB : B ≤ w.heap.size) (hN : N ≤ 1000000000) (hgl : r.length ≤ 100000000) (hfl : ∀ s ts, f s = some ts → ts.length ≤ 1000000) :
    Calls Try.prog 42 #[.pointer (some ⟨k, 0, none⟩)] w fun e w' => e = .returned (.tuple #[]) ∧ MR B (N + 1) (ext O w w') w' k g (lookP f (d :: r) b).1 (lookP f (d :: r) b).2 ∧ Fr O w w' := by
  obtain ⟨gv, bm, h1, h2, h3, h4⟩ := h.ex
  have hkl := (h.ob k h.own).2
  obtain ⟨a, cap, rfl, hlc, hcm, hac, hdr⟩ := h2.dr
  obtain ⟨n, hn⟩ : ∃ n, (d :: r).length = n := ⟨_, rfl⟩
  rw [hn] at hdr hlc h1 h2 h3
  have hn1 : 1 ≤ n := by rw [← hn]; simp
  have hD := h2.1 d (List.mem_cons_self ..)
  obtain ⟨ba, oa, rfl, hba, hra⟩ := hdr.at 0 (by omega)
  have hix : ∀ W : World, (Instr.indexAt 38 (.slice (some ⟨ba, oa, none⟩) n cap) (.int .i64 0)).run Try.prog W = .ok (.pointer (some ⟨ba, oa, none⟩)) W := fun W => by
    have := run_dindex dtA W ba oa n cap 0 (by omega)
    simpa using this
  have HLD := Lib.hid (show (Instr.loadAt 42 (.pointer (some ⟨ba, oa, none⟩))).run Try.prog w = .ok (.agg (cellsOf d).toArray) w from run_dload dtA w ba oa d hD (by simpa using hra))
  have hcut : ∀ W : World, (Instr.sliceAt 38 (.slice (some ⟨ba, oa, none⟩) n cap) (some (.int .i64 1)) none none).run Try.prog W = .ok (.slice (sld (some ⟨ba, oa, none⟩) cap 1) (n - 1) (cap - 1)) W := fun W => run_dcutAt dtA W (some ⟨ba, oa, none⟩) n cap 1 (by omega)
  have c1 : w.cell? ⟨k, 1, none⟩ = some (.slice (some ⟨ba, oa, none⟩) n cap) := (cell_of_row w k 1 _ _ _ h1).trans rfl
  obtain ⟨sv, hsv⟩ : ∃ sv, sv = sld (some ⟨ba, oa, none⟩) cap 1 := ⟨_, rfl⟩
  rw [← hsv] at hcut
  obtain ⟨n1, hn2⟩ : ∃ n1, n1 = n - 1 := ⟨_, rfl⟩
  obtain ⟨cap1, hcap2⟩ : ∃ cap1, cap1 = cap - 1 := ⟨_, rfl⟩
  rw [← hn2, ← hcap2] at hcut
  have HM0 := Lib.hid h
  have HG0 := Lib.hid hG
  have HVO := Lib.hid hVO
  have HBB := Lib.hid hB
  have HNN := Lib.hid hN
  have HGLL := Lib.hid hgl
  have HFL := Lib.hid hfl
  have HKL := Lib.hid (And.intro hkl h1)
  have HSV := Lib.hid (And.intro hsv (And.intro hn2 hcap2))
  have HSD := Lib.hid hD
  have HN := Lib.hid hn
  have HOB := Lib.hid h.ob
  have HVB := Lib.hid (fun j hj => (hG.vb j hj).2)
  clear h hG hVO hB hN hgl hfl h1 h2 h3 h4 hdr hn hD hra hsv hlc hcm hac hn1 hkl hn2 hcap2
  go_enter Try.func42, Try.ntmps42
  obtain ⟨X, hX⟩ : ∃ X, X = w.heap.size := ⟨_, rfl⟩
  go_upto_region 1 with (first | (refine wpList_loadg 42 _ (by rfl) (by rfl) (.pointer (some ⟨ba, oa, none⟩)) (by rfl) (.agg (cellsOf d).toArray) HLD.out ?_) | (refine wpList_store_row (by rfl) 42 _ _ (by rfl) w.heap.size (cellsOf d).toArray (by rfl) (by rfl) 42 (cellsOf zs32).toArray (by exact heap_new _ _) (infoG HSD.out) (zsizeG HSD.out) (cellsOf_all _) ?_))
  have K2 := Lib.hid (fun (Y : Obj) (hY : Y = .cells (cellsOf zs32).toArray 42 (0, 0)) => show Brow ((w.alloc Y).setRow w.heap.size (cellsOf d).toArray) w.heap.size 42 d ∧ Below w.heap.size w ((w.alloc Y).setRow w.heap.size (cellsOf d).toArray) from by
    subst hY
    exact ⟨(Brow.new w 42 zs32).setRow, ((Below.refl _ _).alloc (Nat.le_refl _) _).setRow (Nat.le_refl _) _⟩)
  refine gen_code (F := fun W => Brow W w.heap.size 42 d ∧ Below w.heap.size w W) ⟨(K2.out _ rfl).1, (K2.out _ rfl).2⟩ ?_
  rintro wA ⟨hxA, hbA⟩
  rw [← hX] at hxA ⊢
  have hxlA := hxA.lt
  have HXA := Lib.hid hxA
  have HBA := Lib.hid hbA
  have d1 : wA.cell? ⟨k, 1, none⟩ = some (.slice (some ⟨ba, oa, none⟩) n cap) := (hbA.cell (p := ⟨k, 1, none⟩) HKL.out.1).trans c1
  have d2 : wA.frozen? ⟨k, 1, none⟩ = false := frozen_of_row wA k 1 _ _ ((hbA.block k HKL.out.1).trans HKL.out.2)
  have HD1 := Lib.hid d1
  have HXW := Lib.hid hX
  clear K2 hxA hbA HLD c1 hX
  go_wp2_with fail
  obtain ⟨W1, hW1⟩ : ∃ W1, W1 = wA.setCell ⟨k, 1, none⟩ (.slice sv n1 cap1) := ⟨_, rfl⟩
  rw [← hW1]
  have hcutm := mr_cut (HM0.out.below HBA.out) HD1.out
  rw [← HSV.out.1, ← HSV.out.2.1, ← HSV.out.2.2, ← hW1] at hcutm
  have HM1 := Lib.hid hcutm.1
  have HF1 := Lib.hid (show Fr O w W1 from (Fr.ofBelow HBA.out).trans hcutm.2 fun _ _ e => e)
  have HXO := Lib.hid (show ¬ O X from fun e => by have h1 := (HOB.out X e).2; have h2 := HXW.out; omega)
  have HX1 := Lib.hid (show W1.heap[X]? = some (.cells (cellsOf d).toArray 42 (0, 0)) from (hcutm.2.block X hxlA HXO.out).trans HXA.out)
  have HG1 := Lib.hid (HG0.out.fr HF1.out HVO.out)
  clear hcutm hW1 hix hcut d1 d2 HD1 HXA HBA hxlA hba HM0 HG0
  obtain ⟨W0, hW0⟩ : ∃ W0, W0 = World.drew W1 := ⟨_, rfl⟩
  have HF0 := Lib.hid (fr_of_eq HF1.out hW0)
  have HM2 := Lib.hid (show MR B N O W0 k g r b from by rw [hW0]; exact HM1.out.below (below_drewN' _ _ 1))
  have HG2 := Lib.hid (show GR B2 N2 V W0 g f from by rw [hW0]; exact HG1.out.below (below_drewN' _ _ 1))
  have HX2 := Lib.hid (show W0.heap[X]? = some (.cells (cellsOf d).toArray 42 (0, 0)) from by rw [hW0]; exact HX1.out)
  have HS := Lib.hid (show Below W0.heap.size W0 W0 from Below.refl _ _)
  obtain ⟨gv1, bm1, m1, -, -, -⟩ := HM2.out.ex
  have HL1 := Lib.hid (fun (W : World) (hW : Below W0.heap.size W0 W) => run_cell_gp W ⟨k, 0, none⟩ (some ⟨g, 0, none⟩) ((cell_of_row W k 0 _ _ _ ((hW.block k (Array.getElem?_eq_some_iff.1 m1).1).trans m1)).trans rfl))
  have HL2 := Lib.hid (fun (W : World) (hW : Below W0.heap.size W0 W) => run_cell_dig W X d HSD.out ((hW.block X (Array.getElem?_eq_some_iff.1 HX2.out).1).trans HX2.out))
  have HFN := Lib.hid (find_c HG2.out HSD.out)
  clear m1 HM1 HG1 HX1 HF1
  refine anyH_begin (S := fun W => Below W0.heap.size W0 W) (by kernel_rfl) ?_
  rw [← hW0]
  clear hW0
  refine anyH_pureG 0 (d := 22) (op := .move (.tmp 0)) (gd := none) (.pointer (some ⟨k, 0, none⟩)) (by rfl) (fun o ho => wanted_plain ho _) (by kernel_rfl) (by kernel_rfl) (by kernel_rfl) (fun _ _ _ h => h) (fun o ho W hW => by unfold execOp; simp only [ho]; go_simp) HS.out ?_
  simp only [Act.put, List.setIfInBounds_toArray, List.set_cons_zero, List.set_cons_succ]
  refine anyH_pureG 1 (d := 23) (op := .nilCheck (.tmp 22)) (gd := none) (.pointer (some ⟨k, 0, none⟩)) (by rfl) (fun o ho => wanted_plain ho _) (by kernel_rfl) (by kernel_rfl) (by kernel_rfl) (fun _ _ _ h => h) (fun o ho W hW => by unfold execOp; simp only [ho]; go_simp) HS.out ?_
  simp only [Act.put, List.setIfInBounds_toArray, List.set_cons_zero, List.set_cons_succ]
  refine anyH_pureG 2 (d := 24) (op := .fieldAddr 76 (.tmp 23) 0) (gd := none) (.pointer (some ⟨k, 0, none⟩)) (by rfl) (fun o ho => wanted_plain ho _) (by kernel_rfl) (by kernel_rfl) (by kernel_rfl) (fun _ _ _ h => h) (fun o ho W hW => by unfold execOp; simp only [ho]; go_simp) HS.out ?_
  simp only [Act.put, List.setIfInBounds_toArray, List.set_cons_zero, List.set_cons_succ]
  refine anyH_loadG 3 (d := 25) (ty := 23) (x := (.tmp 24)) (gd := none) (p := .pointer (some ⟨k, 0, none⟩)) (.pointer (some ⟨g, 0, none⟩)) (by rfl) (fun o ho => wanted_plain ho _) (by kernel_rfl) (by kernel_rfl) (by kernel_rfl) (fun _ _ _ h => h) (by rfl) HL1.out HS.out ?_
  simp only [Act.put, List.setIfInBounds_toArray, List.set_cons_zero, List.set_cons_succ]
  refine anyH_loadG 4 (d := 26) (ty := 42) (x := (.tmp 2)) (gd := none) (p := .pointer (some ⟨X, 0, none⟩)) (.agg (cellsOf d).toArray) (by rfl) (fun o ho => wanted_plain ho _) (by kernel_rfl) (by kernel_rfl) (by kernel_rfl) (fun _ _ _ h => h) (by rfl) HL2.out HS.out ?_
  simp only [Act.put, List.setIfInBounds_toArray, List.set_cons_zero, List.set_cons_succ]
  refine anyH_callG 5 (d := some 27) (f := 38) (xs := #[(.tmp 25), (.tmp 26)]) (ts := #[23, 42]) (gd := none) (vs := #[.pointer (some ⟨g, 0, none⟩), .agg (cellsOf d).toArray]) (by kernel_rfl) (by rfl) (fun o ho => wanted_plain ho _) (by go_simp) (by go_simp) (HFN.out) ?_
  rintro e8 w8 ⟨v8, rfl, ho8, hd8, hv8, hb8⟩
  obtain ⟨a8, c8, ev8, hlc8, hcm8, hac8, hdr8⟩ := ho8.dr hd8
  obtain ⟨n8, hn8⟩ : ∃ n8, n8 = ((f d).getD []).length := ⟨_, rfl⟩
  rw [← hn8] at ev8 hlc8 hdr8
  subst ev8
  have HN8 := Lib.hid (And.intro hn8 hlc8)
  clear hn8 hlc8 hcm8 hac8 hdr8
  have HB8 := Lib.hid hb8
  have HO8 := Lib.hid ho8
  have HV8 := Lib.hid hv8
  have HD8 := Lib.hid hd8
  clear hb8 ho8 hv8 hd8
  refine ⟨_, rfl, HB8.out, fun hS => ?_⟩
  clear hS
  simp only [Act.put, List.setIfInBounds_toArray, List.set_cons_zero, List.set_cons_succ]
  refine anyH_pureG 6 (d := 21) (op := .move (.tmp 27)) (gd := none) (.tuple #[.slice a8 n8 c8, .bool (f d).isSome]) (by rfl) (fun o ho => wanted_plain ho _) (by kernel_rfl) (by kernel_rfl) (by kernel_rfl) (fun _ _ _ h => h) (fun o ho W hW => by unfold execOp; simp only [ho]; go_simp) HB8.out ?_
  simp only [Act.put, List.setIfInBounds_toArray, List.set_cons_zero, List.set_cons_succ]
  refine anyH_pureG 7 (d := 28) (op := .extract (.tmp 21) 0) (gd := none) (.slice a8 n8 c8) (by rfl) (fun o ho => wanted_plain ho _) (by kernel_rfl) (by kernel_rfl) (by kernel_rfl) (fun _ _ _ h => h) (fun o ho W hW => by unfold execOp; simp only [ho]; go_simp) HB8.out ?_
  simp only [Act.put, List.setIfInBounds_toArray, List.set_cons_zero, List.set_cons_succ]
  refine anyH_pureG 8 (d := 29) (op := .extract (.tmp 21) 1) (gd := none) (.bool (f d).isSome) (by rfl) (fun o ho => wanted_plain ho _) (by kernel_rfl) (by kernel_rfl) (by kernel_rfl) (fun _ _ _ h => h) (fun o ho W hW => by unfold execOp; simp only [ho]; go_simp) HB8.out ?_
  simp only [Act.put, List.setIfInBounds_toArray, List.set_cons_zero, List.set_cons_succ]
  refine anyH_pureG 9 (d := 3) (op := .assign (.tmp 28)) (gd := none) (.slice a8 n8 c8) (by rfl) (fun o ho => wanted_plain ho _) (by kernel_rfl) (by kernel_rfl) (by kernel_rfl) (fun _ _ _ h => h) (fun o ho W hW => by unfold execOp; simp only [ho]; go_simp) HB8.out ?_
  simp only [Act.put, List.setIfInBounds_toArray, List.set_cons_zero, List.set_cons_succ]
  refine anyH_pureG 10 (d := 4) (op := .assign (.tmp 29)) (gd := none) (.bool (f d).isSome) (by rfl) (fun o ho => wanted_plain ho _) (by kernel_rfl) (by kernel_rfl) (by kernel_rfl) (fun _ _ _ h => h) (fun o ho W hW => by unfold execOp; simp only [ho]; go_simp) HB8.out ?_
  simp only [Act.put, List.setIfInBounds_toArray, List.set_cons_zero, List.set_cons_succ]
  refine wpAnyH_done (by kernel_rfl) ?_ _
  have HF8 := Lib.hid (show Fr O w w8 from HF0.out.trans (Fr.ofBelow (O := fun _ => False) HB8.out) fun _ _ e => e.elim)
  have HM8 := Lib.hid (HM2.out.below HB8.out)
  have HX8 := Lib.hid (show w8.heap[X]? = some (.cells (cellsOf d).toArray 42 (0, 0)) from (HB8.out.block X (Array.getElem?_eq_some_iff.1 HX2.out).1).trans HX2.out)
  clear HL1 HL2 HFN HS HM2 HX2 HF0 HG2
  cases hfd : f d with
  | none =>
    simp only [Option.isSome_none]
    go_wp2_with fail
    refine bodyPost_ret (results_none rfl _ _ _) rfl ?_
    rw [show lookP f (d :: r) b = (r, b) by simp only [lookP, hfd]]
    exact ⟨rfl, HM8.out.more (fun j hj => .inl hj) (ext_ob HOB.out HBB.out HF8.out.size) (by omega), HF8.out⟩
  | some ts =>
    simp only [Option.isSome_some]
    have HFD := Lib.hid hfd
    clear hfd
    have HMK := Lib.hid (marked_c HM8.out HSD.out)
    have HLX := Lib.hid (run_cell_dig w8 X d HSD.out HX8.out)
    go_wp2_with (first | (refine wpList_loadg 42 _ (by rfl) (by rfl) (.pointer (some ⟨X, 0, none⟩)) (by rfl) (.agg (cellsOf d).toArray) HLX.out ?_) | fail)
    refine HMK.out.mono ?_
    rintro e9 w9 ⟨rfl, hb9⟩
    have HB9 := Lib.hid hb9
    clear hb9 HMK
    have HF9 := Lib.hid (show Fr O w w9 from HF8.out.trans (Fr.ofBelow (O := fun _ => False) HB9.out) fun _ _ e => e.elim)
    have HM9 := Lib.hid (HM8.out.below HB9.out)
    have HX9 := Lib.hid (show w9.heap[X]? = some (.cells (cellsOf d).toArray 42 (0, 0)) from (HB9.out.block X (Array.getElem?_eq_some_iff.1 HX8.out).1).trans HX8.out)
    have HO9 := Lib.hid (show OwE w9 B2 (.slice a8 n8 c8) ((f d).getD []) from HO8.out.below HB9.out (Nat.le_refl _))
    clear HM8 HF8 HX8 HO8 HB8
    cases hbd : b d with
    | true =>
      go_wp2_with fail
      refine bodyPost_ret (results_none rfl _ _ _) rfl ?_
      rw [show lookP f (d :: r) b = (r, b) by simp only [lookP, HFD.out, hbd, if_true]]
      exact ⟨rfl, HM9.out.more (fun j hj => .inl hj) (ext_ob HOB.out HBB.out HF9.out.size) (by omega), HF9.out⟩
    | false =>
      have HBD := Lib.hid hbd
      clear hbd
      have HBL := Lib.hid (fun (W : World) (hW : W = w9) => blacken_c (w := W) (hW ▸ HM9.out) (by rw [hW]; exact Nat.le_trans HBB.out HF9.out.size) HNN.out HSD.out)
      have HLX := Lib.hid (run_cell_dig w9 X d HSD.out HX9.out)
      go_wp2_with (first | (refine wpList_loadg 42 _ (by rfl) (by rfl) (.pointer (some ⟨X, 0, none⟩)) (by rfl) (.agg (cellsOf d).toArray) HLX.out ?_) | fail)
      refine (HBL.out w9 rfl).mono ?_
      rintro e10 w10 ⟨rfl, hm10, hf10⟩
      obtain ⟨bb, hbb⟩ : ∃ bb, bb = bk b d := ⟨_, rfl⟩
      obtain ⟨NN, hNN⟩ : ∃ NN, NN = N + 1 := ⟨_, rfl⟩
      have HP0 := Lib.hid (show LkI B NN k g O w r bb ts 0 w10 from by
        have hf : Fr O w w10 := HF9.out.trans hf10 fun _ _ e => e
        refine ⟨?_, hf⟩
        rw [hbb, hNN, List.take_zero, List.filter_nil, List.append_nil]
        exact hm10.more (fun j hj => hj.imp id fun e => ⟨Nat.le_trans HF9.out.size e.1, e.2⟩) (ext_ob HOB.out HBB.out hf.size) (Nat.le_refl _))
      have HBN := Lib.hid (And.intro hbb hNN)
      have HTS := Lib.hid (show OwE w9 B2 (.slice a8 n8 c8) ts from by have := HO9.out; rw [HFD.out] at this; exact this)
      have HTD := Lib.hid (show ∀ x ∈ ts, D32 x from by have := HD8.out; rw [HFD.out] at this; exact this)
      have HTN := Lib.hid (show n8 = ts.length from by have := HN8.out.1; rw [HFD.out] at this; exact this)
      have hn8b : n8 ≤ 1000000 := by rw [HTN.out]; exact HFL.out d ts HFD.out
      clear hm10 hf10 hbb hNN HBL HLX HM9 HX9 HO9 HN8 HD8
      go_wp2_with fail
      go_loopw [42] (fun i wr => ∃ j : Nat, j ≤ n8 ∧ i = .int .i64 j ∧ Hid (LkI B NN k g O w r bb ts j wr)) (fun i _ => n8 - (intOf i).toNat)
      case atStart => exact ⟨0, Nat.zero_le _, rfl, HP0⟩
      case round =>
        clear HP0
        obtain ⟨j, hj, rfl, HP⟩ := hrel
        by_cases hjn : j < n8
        · have hTW : OwE wr B2 (.slice a8 n8 c8) ts := ownE_keep HTS.out fun k' e => by
            have hv := HV8.out k' e
            have hl := HVB.out k' hv
            have hno := HVO.out k' hv
            exact (HP.out.2.block k' hl hno).trans (HF9.out.block k' hl hno).symm
          obtain ⟨a', c', ev, -, -, -, hdr⟩ := hTW.dr HTD.out
          rw [← HTN.out] at ev hdr
          cases ev
          obtain ⟨b8, o8, rfl, hb8l, hra⟩ := hdr.at j hjn
          obtain ⟨x, hx⟩ : ∃ x, x = ts.getD j [] := ⟨_, rfl⟩
          have hxm : x ∈ ts := by rw [hx, List.getD_eq_getElem?_getD, List.getElem?_eq_getElem (by rw [← HTN.out]; exact hjn)]; exact List.getElem_mem _
          rw [← hx] at hra
          have HSX := Lib.hid (HTD.out x hxm)
          have hix := fun W => run_dindex dtA W b8 o8 n8 c8 j hjn
          have HLD := Lib.hid (run_dload dtA wr b8 (o8 + j * 32) x HSX.out hra)
          have HXJ := Lib.hid hx
          obtain ⟨Y, hY⟩ : ∃ Y, Y = wr.heap.size := ⟨_, rfl⟩
          clear hTW hdr hra hxm hx hb8l
          go_upto_region 8 with (first | (refine wpList_loadg 42 _ (by rfl) (by rfl) (.pointer (some ⟨b8, o8 + j * 32, none⟩)) (by rfl) (.agg (cellsOf x).toArray) HLD.out ?_) | (refine wpList_store_row (by rfl) 42 _ _ (by rfl) wr.heap.size (cellsOf x).toArray (by rfl) (by rfl) 42 (cellsOf zs32).toArray (by exact heap_new _ _) (infoG HSX.out) (zsizeG HSX.out) (cellsOf_all _) ?_))
          have K2 := Lib.hid (fun (Z : Obj) (hZ : Z = .cells (cellsOf zs32).toArray 42 (0, 0)) => show Brow ((wr.alloc Z).setRow wr.heap.size (cellsOf x).toArray) wr.heap.size 42 x ∧ Below wr.heap.size wr ((wr.alloc Z).setRow wr.heap.size (cellsOf x).toArray) from by
            subst hZ
            exact ⟨(Brow.new wr 42 zs32).setRow, ((Below.refl _ _).alloc (Nat.le_refl _) _).setRow (Nat.le_refl _) _⟩)
          refine gen_code (F := fun W => Brow W wr.heap.size 42 x ∧ Below wr.heap.size wr W) ⟨(K2.out _ rfl).1, (K2.out _ rfl).2⟩ ?_
          rintro wB ⟨hxB, hbB⟩
          rw [← hY] at hxB ⊢
          have HXB := Lib.hid hxB
          have HBB2 := Lib.hid hbB
          have HYW := Lib.hid hY
          have HMB := Lib.hid (HP.out.1.below hbB)
          have HMK := Lib.hid (marked_c HMB.out HSX.out)
          have HLX := Lib.hid (run_cell_dig wB Y x HSX.out hxB)
          clear K2 hxB hbB hY HLD hix
          go_wp2_with (first | (refine wpList_loadg 42 _ (by rfl) (by rfl) (.pointer (some ⟨Y, 0, none⟩)) (by rfl) (.agg (cellsOf x).toArray) HLX.out ?_) | fail)
          refine HMK.out.mono ?_
          rintro e5 w5 ⟨rfl, hb5⟩
          have HB5 := Lib.hid (HBB2.out.trans (hb5.mono HBB2.out.size))
          have HM5 := Lib.hid (HMB.out.below hb5)
          have HX5 := Lib.hid (show w5.heap[Y]? = some (.cells (cellsOf x).toArray 42 (0, 0)) from (hb5.block Y (Array.getElem?_eq_some_iff.1 HXB.out).1).trans HXB.out)
          have HF5 := Lib.hid (show Fr O w w5 from HP.out.2.trans (Fr.ofBelow (O := fun _ => False) HB5.out) fun _ _ e => e.elim)
          clear hb5 HMK HLX HXB HBB2 HMB
          cases hbx : bb x with
          | true =>
            have HPN := Lib.hid (show LkI B NN k g O w r bb ts (j + 1) w5 from LkI.skip HM5.out HF5.out HB5.out (HOB.out) HBB.out (HTN.out ▸ hjn) HXJ.out hbx)
            clear HM5 HF5 HX5 HP
            go_wp2_with fail
            go_roundw
            case rel => exact ⟨j + 1, by omega, by go_num, HPN⟩
            case measure => simp [intOf]; omega
          | false =>
            have HBX := Lib.hid hbx
            clear hbx
            obtain ⟨gray, hgr⟩ : ∃ gray, gray = r ++ (ts.take j).filter (fun x => !bb x) := ⟨_, rfl⟩
            obtain ⟨E, hE⟩ : ∃ E, E = ext O w wr := ⟨_, rfl⟩
            have HM1 := Lib.hid (show MR B NN E w5 k g gray bb from by rw [hE, hgr]; exact HM5.out)
            have HX1 := HX5
            have HBW := Lib.hid (show B ≤ w5.heap.size from Nat.le_trans HBB.out HF5.out.size)
            have HGL := Lib.hid (show gray.length + 1 ≤ 1000000000 from by
              have h1 := HGLL.out
              have h2 := HFL.out d ts HFD.out
              have h3 : ((ts.take j).filter (fun x => !bb x)).length ≤ ts.length := Nat.le_trans (List.length_filter_le _ _) (by rw [List.length_take]; omega)
              rw [hgr, List.length_append]
              omega)
            have HEG := Lib.hid (And.intro hgr hE)
            have HYO := Lib.hid (show ¬ E Y from fun e => by
              have h2 := HYW.out
              have h3 := HP.out.2.size
              rw [hE] at e
              rcases e with e | e
              · have h1 := (HOB.out Y e).2
                omega
              · omega)
            have HXO := HYO
            clear hgr hE HM5 HX5 HYO
            go_wp2_with fail
            obtain ⟨W0, hW0⟩ : ∃ W0, W0 = World.drew w5 := ⟨_, rfl⟩
            obtain ⟨gv, bm, m1, m2, m3, m4⟩ := HM1.out.ex
            obtain ⟨ga, gc, eg, -, -, -, -⟩ := m2.dr
            obtain ⟨gn, hgn⟩ : ∃ gn, gn = gray.length := ⟨_, rfl⟩
            rw [← hgn] at eg
            subst eg
            have M1 : W0.heap[k]? = some (.cells #[.pointer (some ⟨g, 0, none⟩), .slice ga gn gc, .map bm] 76 (0, 0)) := by rw [hW0]; exact m1
            have M2 : QR W0 B (.slice ga gn gc) gray := by rw [hW0]; exact m2.keep fun _ _ => rfl
            have M4 : (bm = none ∧ ∀ s, bb s = false) ∨ ∃ m n D, bm = some m ∧ n ≤ NN ∧ E m ∧ BM W0 m n D bb := by rw [hW0]; exact m4.imp id fun ⟨m, n, D, e, e2, e3, e4⟩ => ⟨m, n, D, e, e2, e3, e4.keep rfl⟩
            have hszW : W0.heap.size = w5.heap.size := by rw [hW0]; rfl
            have hBW : B ≤ W0.heap.size := by rw [hszW]; exact HBW.out
            obtain ⟨v7, w7, -, q7, g7, b7⟩ := M2.push hBW HSX.out HGL.out 38
            have hrun7 := fun ty => M2.push hBW HSX.out HGL.out ty
            have HRUN0 : ∃ a7 n7 c7 w7, (∀ ty, (Builtin.append_ #[38, 38] ty #[.slice ga gn gc, .slice (some ⟨W0.heap.size, 0, none⟩) 1 1]).run Try.prog (W0.alloc (.cells (cellsOf x).toArray 42)) = .ok (.slice a7 n7 c7) w7) ∧ QR w7 B (.slice a7 n7 c7) (gray ++ [x]) ∧ (W0.alloc (.cells (cellsOf x).toArray 42)).grownBy w7 (Value.slice ga gn gc).ownBlock ∧ ((Value.slice a7 n7 c7).ownBlock = (Value.slice ga gn gc).ownBlock ∨ ∃ j, (Value.slice a7 n7 c7).ownBlock = some j ∧ W0.heap.size ≤ j) := by
              obtain ⟨v, w', r1, r2, r3, r4⟩ := M2.push hBW HSX.out HGL.out 38
              obtain ⟨a', c', rfl, -, -, -, -⟩ := r2.dr
              refine ⟨_, _, _, _, fun ty => ?_, r2, r3, r4⟩
              rw [← r1]
              rfl
            clear q7 g7 b7 hrun7
            clear v7 w7
            obtain ⟨a7, n7, c7, w7, r1, r2, r3, r4⟩ := HRUN0
            have HRUN := Lib.hid r1
            have HE := Lib.hid (mr_push (NN := NN) HM1.out.own (fun j hj => ⟨(HM1.out.ob j hj).1, by rw [hszW]; exact (HM1.out.ob j hj).2⟩) M1 M2 m3 M4 r2 r3 r4 hBW)
            have HMX := Lib.hid M1
            have HS := Lib.hid (show W0.heap[Y]? = some (.cells (cellsOf x).toArray 42 (0, 0)) from by rw [hW0]; exact HX1.out)
            have hXl := (Array.getElem?_eq_some_iff.1 HS.out).1
            have HSA := Lib.hid (show (W0.alloc (.cells (cellsOf x).toArray 42)).heap[Y]? = some (.cells (cellsOf x).toArray 42 (0, 0)) from (Below.heap_alloc W0 _ _ hXl).trans HS.out)
            have hne : some Y ≠ (Value.slice ga gn gc).ownBlock := fun e => HXO.out (m3 _ e.symm)
            have HS7 := Lib.hid (show w7.heap[Y]? = some (.cells (cellsOf x).toArray 42 (0, 0)) from (r3.block Y (by simp only [World.alloc, Array.size_push]; omega) hne).trans HSA.out)
            have hxk : Y ≠ k := fun e => HXO.out (by rw [e]; exact HM1.out.own)
            have HS8 := Lib.hid (show (w7.setCells k 1 [.slice a7 n7 c7]).heap[Y]? = some (.cells (cellsOf x).toArray 42 (0, 0)) from (Below.heap_setCell w7 ⟨k, 1, none⟩ _ Y hxk).trans HS7.out)
            have HL2 := Lib.hid (fun (W : World) (hW : W.heap[Y]? = some (.cells (cellsOf x).toArray 42 (0, 0))) => run_cell_dig W Y x HSX.out hW)
            have HLG := Lib.hid (run_cell_gl W0 ⟨k, 1, none⟩ ga gn gc ((cell_of_row W0 k 1 _ _ _ M1).trans rfl))
            have HLGA := Lib.hid (run_cell_gl (W0.alloc (.cells (cellsOf x).toArray 42)) ⟨k, 1, none⟩ ga gn gc ((cell_of_row _ k 1 _ _ _ ((Below.heap_alloc W0 _ _ (Array.getElem?_eq_some_iff.1 M1).1).trans M1)).trans rfl))
            have HSW := Lib.hid (show W0.os = w5.os ∧ W0.tape = w5.tape ∧ W0.output = w5.output ∧ W0.heap = w5.heap from by rw [hW0]; exact ⟨rfl, rfl, rfl, rfl⟩)
            clear m1 m2 m3 m4 M1 M2 M4 r1 r2 r3 r4 hBW hne hxk hXl hgn hszW
            refine anyH_begin (S := fun W => W.heap[Y]? = some (.cells (cellsOf x).toArray 42 (0, 0))) (by kernel_rfl) ?_
            rw [← hW0]
            clear hW0
            refine anyH_pureG 0 (d := 50) (op := .move (.tmp 0)) (gd := none) (.pointer (some ⟨k, 0, none⟩)) (by rfl) (fun o ho => wanted_plain ho _) (by kernel_rfl) (by kernel_rfl) (by kernel_rfl) (fun _ _ _ h => h) (fun o ho W hW => by unfold execOp; simp only [ho]; go_simp) HS.out ?_
            simp only [Act.put, List.setIfInBounds_toArray, List.set_cons_zero, List.set_cons_succ]
            refine anyH_pureG 1 (d := 51) (op := .move (.tmp 0)) (gd := none) (.pointer (some ⟨k, 0, none⟩)) (by rfl) (fun o ho => wanted_plain ho _) (by kernel_rfl) (by kernel_rfl) (by kernel_rfl) (fun _ _ _ h => h) (fun o ho W hW => by unfold execOp; simp only [ho]; go_simp) HS.out ?_
            simp only [Act.put, List.setIfInBounds_toArray, List.set_cons_zero, List.set_cons_succ]
            refine anyH_pureG 2 (d := 52) (op := .nilCheck (.tmp 51)) (gd := none) (.pointer (some ⟨k, 0, none⟩)) (by rfl) (fun o ho => wanted_plain ho _) (by kernel_rfl) (by kernel_rfl) (by kernel_rfl) (fun _ _ _ h => h) (fun o ho W hW => by unfold execOp; simp only [ho]; go_simp) HS.out ?_
            simp only [Act.put, List.setIfInBounds_toArray, List.set_cons_zero, List.set_cons_succ]
            refine anyH_pureG 3 (d := 53) (op := .fieldAddr 76 (.tmp 52) 1) (gd := none) (.pointer (some ⟨k, 1, none⟩)) (by rfl) (fun o ho => wanted_plain ho _) (by kernel_rfl) (by kernel_rfl) (by kernel_rfl) (fun _ _ _ h => h) (fun o ho W hW => by unfold execOp; simp only [ho]; go_simp) HS.out ?_
            simp only [Act.put, List.setIfInBounds_toArray, List.set_cons_zero, List.set_cons_succ]
            refine anyH_loadG 5 (d := 55) (ty := 42) (x := (.tmp 6)) (gd := none) (p := .pointer (some ⟨Y, 0, none⟩)) (.agg (cellsOf x).toArray) (by rfl) (fun o ho => wanted_plain ho _) (by kernel_rfl) (by kernel_rfl) (by kernel_rfl) (fun _ _ _ h => h) (by rfl) HL2.out HS.out ?_
            simp only [Act.put, List.setIfInBounds_toArray, List.set_cons_zero, List.set_cons_succ]
            refine anyH_twoU 4 6 (d1 := some 54) (op1 := .load 38 (.tmp 53)) (d2 := some 56) (op2 := .buildSlice 38 1 #[(0, (.tmp 55))]) (by kernel_rfl) (by rfl) (by rfl) ?_ ?_
            · intro o1 hod1 hoo1
              refine wp_load_g 38 (.tmp 53) hoo1 (.pointer (some ⟨k, 1, none⟩)) (.slice ga gn gc) (by rfl) (HLG.out) ?_
              rw [hod1]
              simp only [Act.put, List.setIfInBounds_toArray, List.set_cons_zero, List.set_cons_succ]
              refine ⟨HS.out, ?_⟩
              refine anyH_oneU 6 (d1 := some 56) (op1 := .buildSlice 38 1 #[(0, (.tmp 55))]) (by kernel_rfl) (by rfl) ?_
              intro o2 hod2 hoo2
              refine wp_dlayU dtA (.tmp 55) hoo2 x HSX.out (by rfl) ?_
              rw [hod2]
              simp only [Act.put, List.setIfInBounds_toArray, List.set_cons_zero, List.set_cons_succ]
              refine ⟨HSA.out, ?_⟩
              refine anyH_oneU 7 (d1 := some 57) (op1 := .call { callee := .builtin .append, args := #[(.tmp 54), (.tmp 56)], argTypes := #[38, 38] }) (by kernel_rfl) (by rfl) ?_
              intro o3 hod3 hoo3
              refine wp_runU (.slice a7 n7 c7) (w' := w7) (exec_appendU hoo3 (by rfl) (by rfl) (HRUN.out o3.type)) ?_
              rw [hod3]
              simp only [Act.put, List.setIfInBounds_toArray, List.set_cons_zero, List.set_cons_succ]
              refine ⟨HS7.out, ?_⟩
              refine anyH_pureG 8 (d := 58) (op := .nilCheck (.tmp 50)) (gd := none) (.pointer (some ⟨k, 0, none⟩)) (by rfl) (fun o ho => wanted_plain ho _) (by kernel_rfl) (by kernel_rfl) (by kernel_rfl) (fun _ _ _ h => h) (fun o ho W hW => by unfold execOp; simp only [ho]; go_simp) HS7.out ?_
              simp only [Act.put, List.setIfInBounds_toArray, List.set_cons_zero, List.set_cons_succ]
              refine anyH_pureG 9 (d := 59) (op := .fieldAddr 76 (.tmp 58) 1) (gd := none) (.pointer (some ⟨k, 1, none⟩)) (by rfl) (fun o ho => wanted_plain ho _) (by kernel_rfl) (by kernel_rfl) (by kernel_rfl) (fun _ _ _ h => h) (fun o ho W hW => by unfold execOp; simp only [ho]; go_simp) HS7.out ?_
              simp only [Act.put, List.setIfInBounds_toArray, List.set_cons_zero, List.set_cons_succ]
              refine anyH_oneU 10 (d1 := none) (op1 := .store 38 (.tmp 59) (.tmp 57)) (by kernel_rfl) (by rfl) ?_
              intro o4 hod4 hoo4
              refine wp_store_one 38 (.tmp 59) (.tmp 57) hoo4 k 1 (.slice a7 n7 c7) (by rfl) (by rfl) HE.out.1 (by kernel_rfl) (by rfl) (by rfl) ?_
              rw [hod4]
              simp only [Act.put, List.setIfInBounds_toArray, List.set_cons_zero, List.set_cons_succ]
              refine ⟨HS8.out, ?_⟩
              refine wpAnyH_done (by kernel_rfl) ?_ _
              obtain ⟨w8, hw8⟩ : ∃ w8, w8 = w7.setCells k 1 [.slice a7 n7 c7] := ⟨_, rfl⟩
              rw [← hw8]
              have HE8 := Lib.hid (show MR B NN (ext E W0 w8) w8 k g (gray ++ [x]) bb ∧ Fr E W0 w8 from by rw [hw8]; exact HE.out.2)
              clear hw8 HE HS HSA HS7 HS8 HL2 HLG HLGA HRUN HMX
              clear HX1 HXO HGL HBW HM1
              obtain ⟨e1, e2⟩ := HEG.out
              rw [e1, e2] at HE8
              have HPN := Lib.hid (show LkI B NN k g O w r bb ts (j + 1) w8 from LkI.push HB5.out HP.out.2.size HF5.out HE8.out.1 HE8.out.2 HSW.out HOB.out HBB.out (HTN.out ▸ hjn) HXJ.out HBX.out)
              clear e1 e2 HE8 HSW HEG HP
              go_wp2_with fail
              go_roundw
              case rel => exact ⟨j + 1, by omega, by go_num, HPN⟩
              case measure => simp [intOf]; omega
            · intro o1 hod1 hoo1
              refine wp_dlayU dtA (.tmp 55) hoo1 x HSX.out (by rfl) ?_
              rw [hod1]
              simp only [Act.put, List.setIfInBounds_toArray, List.set_cons_zero, List.set_cons_succ]
              refine ⟨HSA.out, ?_⟩
              refine anyH_oneU 4 (d1 := some 54) (op1 := .load 38 (.tmp 53)) (by kernel_rfl) (by rfl) ?_
              intro o2 hod2 hoo2
              refine wp_load_g 38 (.tmp 53) hoo2 (.pointer (some ⟨k, 1, none⟩)) (.slice ga gn gc) (by rfl) (HLGA.out) ?_
              rw [hod2]
              simp only [Act.put, List.setIfInBounds_toArray, List.set_cons_zero, List.set_cons_succ]
              refine ⟨HSA.out, ?_⟩
              refine anyH_oneU 7 (d1 := some 57) (op1 := .call { callee := .builtin .append, args := #[(.tmp 54), (.tmp 56)], argTypes := #[38, 38] }) (by kernel_rfl) (by rfl) ?_
              intro o3 hod3 hoo3
              refine wp_runU (.slice a7 n7 c7) (w' := w7) (exec_appendU hoo3 (by rfl) (by rfl) (HRUN.out o3.type)) ?_
              rw [hod3]
              simp only [Act.put, List.setIfInBounds_toArray, List.set_cons_zero, List.set_cons_succ]
              refine ⟨HS7.out, ?_⟩
              refine anyH_pureG 8 (d := 58) (op := .nilCheck (.tmp 50)) (gd := none) (.pointer (some ⟨k, 0, none⟩)) (by rfl) (fun o ho => wanted_plain ho _) (by kernel_rfl) (by kernel_rfl) (by kernel_rfl) (fun _ _ _ h => h) (fun o ho W hW => by unfold execOp; simp only [ho]; go_simp) HS7.out ?_
              simp only [Act.put, List.setIfInBounds_toArray, List.set_cons_zero, List.set_cons_succ]
              refine anyH_pureG 9 (d := 59) (op := .fieldAddr 76 (.tmp 58) 1) (gd := none) (.pointer (some ⟨k, 1, none⟩)) (by rfl) (fun o ho => wanted_plain ho _) (by kernel_rfl) (by kernel_rfl) (by kernel_rfl) (fun _ _ _ h => h) (fun o ho W hW => by unfold execOp; simp only [ho]; go_simp) HS7.out ?_
              simp only [Act.put, List.setIfInBounds_toArray, List.set_cons_zero, List.set_cons_succ]
              refine anyH_oneU 10 (d1 := none) (op1 := .store 38 (.tmp 59) (.tmp 57)) (by kernel_rfl) (by rfl) ?_
              intro o4 hod4 hoo4
              refine wp_store_one 38 (.tmp 59) (.tmp 57) hoo4 k 1 (.slice a7 n7 c7) (by rfl) (by rfl) HE.out.1 (by kernel_rfl) (by rfl) (by rfl) ?_
              rw [hod4]
              simp only [Act.put, List.setIfInBounds_toArray, List.set_cons_zero, List.set_cons_succ]
              refine ⟨HS8.out, ?_⟩
              refine wpAnyH_done (by kernel_rfl) ?_ _
              obtain ⟨w8, hw8⟩ : ∃ w8, w8 = w7.setCells k 1 [.slice a7 n7 c7] := ⟨_, rfl⟩
              rw [← hw8]
              have HE8 := Lib.hid (show MR B NN (ext E W0 w8) w8 k g (gray ++ [x]) bb ∧ Fr E W0 w8 from by rw [hw8]; exact HE.out.2)
              clear hw8 HE HS HSA HS7 HS8 HL2 HLG HLGA HRUN HMX
              clear HX1 HXO HGL HBW HM1
              obtain ⟨e1, e2⟩ := HEG.out
              rw [e1, e2] at HE8
              have HPN := Lib.hid (show LkI B NN k g O w r bb ts (j + 1) w8 from LkI.push HB5.out HP.out.2.size HF5.out HE8.out.1 HE8.out.2 HSW.out HOB.out HBB.out (HTN.out ▸ hjn) HXJ.out HBX.out)
              clear e1 e2 HE8 HSW HEG HP
              go_wp2_with fail
              go_roundw
              case rel => exact ⟨j + 1, by omega, by go_num, HPN⟩
              case measure => simp [intOf]; omega
        · obtain rfl : j = n8 := by omega
          have hfin := HP.out
          have HFIN := Lib.hid hfin
          clear hfin
          go_wp2_with fail
          go_end0
          obtain ⟨e1, e2⟩ := HBN.out
          have h1 := HFIN.out.1
          rw [HTN.out, List.take_length, e1, e2] at h1
          rw [show lookP f (d :: r) b = (r ++ ts.filter (fun x => !(bk b d) x), bk b d) by simp only [lookP, HFD.out, HBD.out, Bool.false_eq_true, if_false]]
          exact ⟨rfl, h1, HFIN.out.2⟩
end Go.Proofs.Ytpppffgchgcghaa
