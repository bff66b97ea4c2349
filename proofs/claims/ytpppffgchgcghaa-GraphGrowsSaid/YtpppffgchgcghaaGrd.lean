/-
  A sum is made gray; the marker looks at the first gray sum.
-/
import Derived.Test.YtpppffgchgcghaaGrc
namespace Go.Proofs.Ytpppffgchgcghaa
open Go.RowKit Go.Maps
set_option linter.unusedVariables false
theorem run_cell_gl (W : World) (p : Addr) (a : Option Addr) (n c : Nat) (hc : W.cell? p = some (.slice a n c)) : (Instr.loadAt 38 (.pointer (some p))).run Try.prog W = .ok (.slice a n c) W := by go_simp
/-- a sum was laid behind the gray ones -/
theorem mr_push {B NN k g : Nat} {O : Nat → Prop} {W w7 : World} {gray : Ds} {b : List Nat → Bool} {gv v7 : Value} {bm : Option Nat} {x : List Nat} {o : Obj} (hown : O k) (hob : ∀ j, O j → B ≤ j ∧ j < W.heap.size) (h1 : W.heap[k]? = some (.cells #[.pointer (some ⟨g, 0, none⟩), gv, .map bm] 76 (0, 0))) (h2 : QR W B gv gray) (h3 : ∀ j, gv.ownBlock = some j → O j) (h4 : (bm = none ∧ ∀ s, b s = false) ∨ ∃ m n D, bm = some m ∧ n ≤ NN ∧ O m ∧ BM W m n D b)
    (hq : QR w7 B v7 (gray ++ [x])) (hg : (W.alloc o).grownBy w7 gv.ownBlock) (hv : v7.ownBlock = gv.ownBlock ∨ ∃ j, v7.ownBlock = some j ∧ W.heap.size ≤ j) (hB : B ≤ W.heap.size) : w7.there k 1 1 ∧ MR B NN (ext O W (w7.setCells k 1 [v7])) (w7.setCells k 1 [v7]) k g (gray ++ [x]) b ∧ Fr O W (w7.setCells k 1 [v7]) := by
  have hkl := (Array.getElem?_eq_some_iff.1 h1).1
  have keep : ∀ j, j < W.heap.size → some j ≠ gv.ownBlock → w7.heap[j]? = W.heap[j]? := fun j hj hne => (hg.block j (by simp only [World.alloc, Array.size_push]; omega) hne).trans (Below.heap_alloc W _ _ hj)
  have hkq : some k ≠ gv.ownBlock := fun e => by
    obtain ⟨_, _, cur, hc⟩ := h2.block k e.symm
    rw [h1] at hc
    simp only [Option.some.injEq, Obj.cells.injEq] at hc
    exact absurd hc.2.1 (by decide)
  have hk7 := (keep k hkl hkq).trans h1
  have hs7 : W.heap.size + 1 ≤ w7.heap.size := by have := hg.size; simp only [World.alloc, Array.size_push] at this; exact this
  have hsz : (w7.setCells k 1 [v7]).heap.size = w7.heap.size := by show (w7.setCell ⟨k, 1, none⟩ v7).heap.size = _; simp only [World.setCell, Array.size_modify]
  have hset : ∀ j, j ≠ k → (w7.setCells k 1 [v7]).heap[j]? = w7.heap[j]? := fun j hj => Below.heap_setCell w7 ⟨k, 1, none⟩ v7 j hj
  have hk8 : (w7.setCells k 1 [v7]).heap[k]? = some (.cells #[.pointer (some ⟨g, 0, none⟩), v7, .map bm] 76 (0, 0)) := row_set (o := 1) hk7 v7 (by show 1 < 3; omega)
  refine ⟨row_there hk7 (by show 1 < 3; omega), ⟨.inl hown, ext_ob hob hB (by rw [hsz]; omega), v7, bm, hk8, hq.keep fun j e => hset j fun e2 => ?_, fun j e => ?_, h4.imp id fun ⟨m, n, D, e1, e2, e3, e4⟩ => ⟨m, n, D, e1, e2, .inl e3, e4.keep ?_⟩⟩, hg.os, hg.tape, hg.output, by rw [hsz]; omega, fun j hj hn => (hset j fun e => hn (by rw [e]; exact hown)).trans (keep j hj fun e => hn (h3 j e.symm))⟩
  · obtain ⟨_, _, cur, hc⟩ := hq.block j e
    rw [e2, hk7] at hc
    simp only [Option.some.injEq, Obj.cells.injEq] at hc
    exact absurd hc.2.1 (by decide)
  · rcases hv with hv | ⟨i, hv, hi⟩
    · exact .inl (h3 j (hv ▸ e))
    · have e2 : i = j := by rw [hv] at e; exact Option.some.inj e
      refine .inr ⟨by omega, ?_⟩
      rw [hsz]
      exact (hq.block j e).2.1
  · obtain ⟨es, cl, hmm⟩ := gmap_block e4.mp
    refine (hset m fun e => ?_).trans (keep m (Array.getElem?_eq_some_iff.1 hmm).1 fun e => ?_)
    · rw [e, h1] at hmm
      cases hmm
    · obtain ⟨_, _, cur, hc⟩ := h2.block m e.symm
      rw [hmm] at hc
      cases hc
/-- a step of a marker behind another one -/
theorem GrayEnd2 {B N k g : Nat} {O : Nat → Prop} {w w1 W0 w8 : World} {gray' : Ds} {b' : List Nat → Bool} (hf : Fr O w w1) (h8 : MR B N (ext O W0 w8) w8 k g gray' b') (hf8 : Fr O W0 w8) (h0 : W0.os = w1.os ∧ W0.tape = w1.tape ∧ W0.output = w1.output ∧ W0.heap = w1.heap) (hob : (∀ j, O j → B ≤ j ∧ j < w.heap.size) ∧ B ≤ w.heap.size) : MR B N (ext O w w8) w8 k g gray' b' ∧ Fr O w w8 := by
  have hs1 := hf.size
  have hs8 := hf8.size
  have hs0 : W0.heap.size = w1.heap.size := by rw [h0.2.2.2]
  refine ⟨h8.more (fun j hj => hj.imp id fun e => ⟨by omega, e.2⟩) (ext_ob hob.1 hob.2 (by omega)) (Nat.le_refl _), ⟨(hf8.os.trans h0.1).trans hf.os, (hf8.tape.trans h0.2.1).trans hf.tape, (hf8.output.trans h0.2.2.1).trans hf.output, by omega, fun j hj hn => ?_⟩⟩
  refine (hf8.block j (by omega) hn).trans ?_
  rw [h0.2.2.2]
  exact hf.block j hj hn
theorem del_nil {W : World} {key : Value} {l : Lit} (hl : keyOf Try.prog 42 key = some l) : (Builtin.delete_ #[74, 42] 0 #[.map none, key]).run Try.prog W = .ok (.tuple #[]) W := by
  simp [Builtin.delete_, run_underlying Try.underlying74, gLaw.check W true hl, gLaw.check W false hl, Result.andThen]
theorem del_c {B N k g : Nat} {O : Nat → Prop} {W : World} {gray : Ds} {b : List Nat → Bool} (h : MR B N O W k g gray b) {s : List Nat} (hs : D32 s) : ∃ w2 bm, (W.cell? ⟨k, 2, none⟩ = some (.map bm) ∧ w2.cell? ⟨k, 2, none⟩ = some (.map bm)) ∧ (Builtin.delete_ #[74, 42] 0 #[.map bm, .agg (cellsOf s).toArray]).run Try.prog W = .ok (.tuple #[]) w2 ∧ MR B N O w2 k g gray (fun t => if t = s then false else b t) ∧ Fr O W w2 := by
  obtain ⟨gv, bm, h1, h2, h3, h4⟩ := h.ex
  have c1 : W.cell? ⟨k, 2, none⟩ = some (.map bm) := (cell_of_row W k 2 _ _ _ h1).trans rfl
  rcases h4 with ⟨rfl, h5⟩ | ⟨m, n, D, rfl, hn, ho, hm⟩
  · obtain ⟨l, hl⟩ := key_some hs
    exact ⟨W, none, ⟨c1, c1⟩, del_nil hl, ⟨h.own, h.ob, gv, none, h1, h2, h3, .inl ⟨rfl, fun t => by rw [h5 t]; simp⟩⟩, Fr.refl _ _⟩
  · obtain ⟨w2, D2, r1, r2, r3⟩ := hm.del hs 0
    obtain ⟨es, cl, hmm⟩ := gmap_block hm.mp
    have hkm : some k ≠ some m := fun e => by rw [Option.some.inj e, hmm] at h1; cases h1
    have hk2 := (r3.block k (h.ob k h.own).2 hkm).trans h1
    refine ⟨w2, some m, ⟨c1, (cell_of_row w2 k 2 _ _ _ hk2).trans rfl⟩, r1, ⟨h.own, fun j hj => ⟨(h.ob j hj).1, Nat.lt_of_lt_of_le (h.ob j hj).2 r3.size⟩, gv, some m, hk2, h2.keep fun j e => r3.block j (h2.block j e).2.1 fun e2 => ?_, h3, .inr ⟨m, n, D2, rfl, hn, ho, r2⟩⟩, Fr.grown r3 fun j e => by cases e; exact ho⟩
    obtain ⟨_, _, cur, hc⟩ := h2.block j e
    rw [Option.some.inj e2, hmm] at hc
    cases hc
set_option maxRecDepth 100000 in
set_option maxHeartbeats 8000000 in
theorem gray_c {B N k g : Nat} {O : Nat → Prop} {w : World} {gray : Ds} {b : List Nat → Bool} (h : MR B N O w k g gray b) (hB : B ≤ w.heap.size) (hgl : gray.length + 1 ≤ 1000000000) {s : List Nat} (hs : D32 s) : Calls Try.prog 30 #[.pointer (some ⟨k, 0, none⟩), .agg (cellsOf s).toArray] w fun e w' => e = .returned (.int .i64 0) ∧ MR B N (ext O w w') w' k g (gray ++ [s]) (fun t => if t = s then false else b t) ∧ Fr O w w' := by
  have HM0 := Lib.hid h
  have HSD := Lib.hid hs
  have HGL := Lib.hid hgl
  have HBB := Lib.hid hB
  have hxx := h.ob
  clear h hs hgl hB
  go_enter Try.func30, Try.ntmps30
  go_wp2_with fail
  obtain ⟨X, hX⟩ : ∃ X, X = w.heap.size := ⟨_, rfl⟩
  obtain ⟨w1, hw1⟩ : ∃ w1, w1 = w.alloc (.cells (cellsOf s).toArray 42) := ⟨_, rfl⟩
  rw [← hX]
  rw [← hw1]
  have hb1 : Below w.heap.size w w1 := by rw [hw1]; exact (Below.refl _ _).alloc (Nat.le_refl _) _
  have hs1 : w1.heap.size = w.heap.size + 1 := by rw [hw1]; simp
  have HX0 := Lib.hid (show w1.heap[X]? = some (.cells (cellsOf s).toArray 42 (0, 0)) from by rw [hw1, hX]; exact heap_alloc_new w _)
  have HXO := Lib.hid (show ¬ O X from fun e => by have := (hxx X e).2; omega)
  have HOBw := Lib.hid (And.intro hxx HBB.out)
  have HMw := Lib.hid (HM0.out.below hb1)
  have HFw := Lib.hid (show Fr O w w1 from Fr.ofBelow hb1)
  have HSZ1 := Lib.hid hs1
  clear hb1 hs1 hX hw1 hxx HM0
  obtain ⟨W3, hW3⟩ : ∃ W3, W3 = World.drew w1 := ⟨_, rfl⟩
  have hM3 : MR B N O W3 k g gray b := by rw [hW3]; exact HMw.out.below (below_drewN' _ _ 1)
  have hF3 : Fr O w W3 := by rw [hW3]; exact ⟨HFw.out.os, HFw.out.tape, HFw.out.output, HFw.out.size, HFw.out.block⟩
  obtain ⟨w2, bm0, hc3, hr3, hm3, hf3⟩ := del_c hM3 HSD.out
  have HRUN := Lib.hid hr3
  have HM2 := Lib.hid hm3
  have HS := Lib.hid (show W3.cell? ⟨k, 2, none⟩ = some (.map bm0) ∧ W3.heap[X]? = some (.cells (cellsOf s).toArray 42 (0, 0)) from ⟨hc3.1, by rw [hW3]; exact HX0.out⟩)
  have hXl : X < W3.heap.size := (Array.getElem?_eq_some_iff.1 HS.out.2).1
  have HS7 := Lib.hid (show w2.cell? ⟨k, 2, none⟩ = some (.map bm0) ∧ w2.heap[X]? = some (.cells (cellsOf s).toArray 42 (0, 0)) from ⟨hc3.2, (hf3.block X hXl HXO.out).trans HS.out.2⟩)
  have HL1 := Lib.hid (fun (W : World) (hW : W.cell? ⟨k, 2, none⟩ = some (.map bm0) ∧ W.heap[X]? = some (.cells (cellsOf s).toArray 42 (0, 0))) => run_cell_gs W ⟨k, 2, none⟩ bm0 hW.1)
  have HL2 := Lib.hid (fun (W : World) (hW : W.cell? ⟨k, 2, none⟩ = some (.map bm0) ∧ W.heap[X]? = some (.cells (cellsOf s).toArray 42 (0, 0))) => run_cell_dig W X s HSD.out hW.2)
  have HFd0 := Lib.hid (show Fr O w w2 from hF3.trans hf3 fun _ _ e => e)
  have hsz2 : w.heap.size + 1 ≤ w2.heap.size := by have h1 := hf3.size; have h2 := HSZ1.out; have h3 : W3.heap.size = w1.heap.size := by rw [hW3]; rfl
                                                   omega
  clear hM3 hF3 hc3 hr3 hm3 hf3
  refine anyH_begin (S := fun W => W.cell? ⟨k, 2, none⟩ = some (.map bm0) ∧ W.heap[X]? = some (.cells (cellsOf s).toArray 42 (0, 0))) (by kernel_rfl) ?_
  rw [← hW3]
  clear hW3 hXl
  refine anyH_pureG 0 (d := 7) (op := .move (.tmp 0)) (gd := none) (.pointer (some ⟨k, 0, none⟩)) (by rfl) (fun o ho => wanted_plain ho _) (by kernel_rfl) (by kernel_rfl) (by kernel_rfl) (fun _ _ _ h => h) (fun o ho W hW => by unfold execOp; simp only [ho]; go_simp) HS.out ?_
  simp only [Act.put, List.setIfInBounds_toArray, List.set_cons_zero, List.set_cons_succ]
  refine anyH_pureG 1 (d := 8) (op := .nilCheck (.tmp 7)) (gd := none) (.pointer (some ⟨k, 0, none⟩)) (by rfl) (fun o ho => wanted_plain ho _) (by kernel_rfl) (by kernel_rfl) (by kernel_rfl) (fun _ _ _ h => h) (fun o ho W hW => by unfold execOp; simp only [ho]; go_simp) HS.out ?_
  simp only [Act.put, List.setIfInBounds_toArray, List.set_cons_zero, List.set_cons_succ]
  refine anyH_pureG 2 (d := 9) (op := .fieldAddr 76 (.tmp 8) 2) (gd := none) (.pointer (some ⟨k, 2, none⟩)) (by rfl) (fun o ho => wanted_plain ho _) (by kernel_rfl) (by kernel_rfl) (by kernel_rfl) (fun _ _ _ h => h) (fun o ho W hW => by unfold execOp; simp only [ho]; go_simp) HS.out ?_
  simp only [Act.put, List.setIfInBounds_toArray, List.set_cons_zero, List.set_cons_succ]
  refine anyH_loadG 3 (d := 10) (ty := 74) (x := (.tmp 9)) (gd := none) (p := .pointer (some ⟨k, 2, none⟩)) (.map bm0) (by rfl) (fun o ho => wanted_plain ho _) (by kernel_rfl) (by kernel_rfl) (by kernel_rfl) (fun _ _ _ h => h) (by rfl) HL1.out HS.out ?_
  simp only [Act.put, List.setIfInBounds_toArray, List.set_cons_zero, List.set_cons_succ]
  refine anyH_loadG 4 (d := 11) (ty := 42) (x := (.tmp 3)) (gd := none) (p := .pointer (some ⟨X, 0, none⟩)) (.agg (cellsOf s).toArray) (by rfl) (fun o ho => wanted_plain ho _) (by kernel_rfl) (by kernel_rfl) (by kernel_rfl) (fun _ _ _ h => h) (by rfl) HL2.out HS.out ?_
  simp only [Act.put, List.setIfInBounds_toArray, List.set_cons_zero, List.set_cons_succ]
  refine anyH_oneU 5 (d1 := none) (op1 := .call { callee := .builtin .delete, args := #[(.tmp 10), (.tmp 11)], argTypes := #[74, 42] }) (by kernel_rfl) (by rfl) ?_
  intro o1 hod1 hoo1
  refine wp_runU (.tuple #[]) (w' := w2) (exec_deleteU hoo1 (by rfl) (by rfl) (show (Builtin.delete_ #[74, 42] o1.type #[.map bm0, .agg (cellsOf s).toArray]).run Try.prog W3 = .ok (.tuple #[]) w2 from HRUN.out)) ?_
  rw [hod1]
  simp only [Act.put, List.setIfInBounds_toArray, List.set_cons_zero, List.set_cons_succ]
  refine ⟨HS7.out, ?_⟩
  --nosimp
  refine wpAnyH_done (by kernel_rfl) ?_ _
  obtain ⟨bb, hbb⟩ : ∃ bb, bb = fun t => if t = s then false else b t := ⟨_, rfl⟩
  obtain ⟨NN, hNN⟩ : ∃ NN, NN = N := ⟨_, rfl⟩
  have HM1 := Lib.hid (show MR B NN O w2 k g gray bb from by rw [hNN, hbb]; exact HM2.out)
  have HX1 := Lib.hid HS7.out.2
  have HBW := Lib.hid (show B ≤ w2.heap.size from by have := HBB.out; omega)
  have HNB := Lib.hid (And.intro hbb hNN)
  clear HS HS7 HL1 HL2 HRUN HM2 HX0 HMw HFw HSZ1 hbb hNN
  go_wp2_with fail
  obtain ⟨W0, hW0⟩ : ∃ W0, W0 = World.drew w2 := ⟨_, rfl⟩
  obtain ⟨gv, bm, m1, m2, m3, m4⟩ := HM1.out.ex
  obtain ⟨ga, gc, eg, -, -, -, -⟩ := m2.dr
  obtain ⟨gn, hgn⟩ : ∃ gn, gn = gray.length := ⟨_, rfl⟩
  rw [← hgn] at eg
  subst eg
  have M1 : W0.heap[k]? = some (.cells #[.pointer (some ⟨g, 0, none⟩), .slice ga gn gc, .map bm] 76 (0, 0)) := by rw [hW0]; exact m1
  have M2 : QR W0 B (.slice ga gn gc) gray := by rw [hW0]; exact m2.keep fun _ _ => rfl
  have M4 : (bm = none ∧ ∀ s, bb s = false) ∨ ∃ m n D, bm = some m ∧ n ≤ NN ∧ O m ∧ BM W0 m n D bb := by rw [hW0]; exact m4.imp id fun ⟨m, n, D, e, e2, e3, e4⟩ => ⟨m, n, D, e, e2, e3, e4.keep rfl⟩
  have hszW : W0.heap.size = w2.heap.size := by rw [hW0]; rfl
  have hBW : B ≤ W0.heap.size := by rw [hszW]; exact HBW.out
  obtain ⟨v7, w7, -, q7, g7, b7⟩ := M2.push hBW HSD.out HGL.out 38
  have hrun7 := fun ty => M2.push hBW HSD.out HGL.out ty
  have HRUN0 : ∃ a7 n7 c7 w7, (∀ ty, (Builtin.append_ #[38, 38] ty #[.slice ga gn gc, .slice (some ⟨W0.heap.size, 0, none⟩) 1 1]).run Try.prog (W0.alloc (.cells (cellsOf s).toArray 42)) = .ok (.slice a7 n7 c7) w7) ∧ QR w7 B (.slice a7 n7 c7) (gray ++ [s]) ∧ (W0.alloc (.cells (cellsOf s).toArray 42)).grownBy w7 (Value.slice ga gn gc).ownBlock ∧ ((Value.slice a7 n7 c7).ownBlock = (Value.slice ga gn gc).ownBlock ∨ ∃ j, (Value.slice a7 n7 c7).ownBlock = some j ∧ W0.heap.size ≤ j) := by
    obtain ⟨v, w', r1, r2, r3, r4⟩ := M2.push hBW HSD.out HGL.out 38
    obtain ⟨a', c', rfl, -, -, -, -⟩ := r2.dr
    refine ⟨_, _, _, _, fun ty => ?_, r2, r3, r4⟩
    rw [← r1]
    rfl
  clear q7 g7 b7 hrun7
  clear v7 w7
  obtain ⟨a7, n7, c7, w7, r1, r2, r3, r4⟩ := HRUN0
  have HRUN := Lib.hid r1
  have HE := Lib.hid (mr_push (NN := NN) HM1.out.own (fun j hj => ⟨(HM1.out.ob j hj).1, by rw [hszW]; exact (HM1.out.ob j hj).2⟩) M1 M2 m3 M4 r2 r3 r4 hBW)
  have HMX := Lib.hid M1
  have HS := Lib.hid (show W0.heap[X]? = some (.cells (cellsOf s).toArray 42 (0, 0)) from by rw [hW0]; exact HX1.out)
  have hXl := (Array.getElem?_eq_some_iff.1 HS.out).1
  have HSA := Lib.hid (show (W0.alloc (.cells (cellsOf s).toArray 42)).heap[X]? = some (.cells (cellsOf s).toArray 42 (0, 0)) from (Below.heap_alloc W0 _ _ hXl).trans HS.out)
  have hne : some X ≠ (Value.slice ga gn gc).ownBlock := fun e => HXO.out (m3 _ e.symm)
  have HS7 := Lib.hid (show w7.heap[X]? = some (.cells (cellsOf s).toArray 42 (0, 0)) from (r3.block X (by simp only [World.alloc, Array.size_push]; omega) hne).trans HSA.out)
  have hxk : X ≠ k := fun e => HXO.out (by rw [e]; exact HM1.out.own)
  have HS8 := Lib.hid (show (w7.setCells k 1 [.slice a7 n7 c7]).heap[X]? = some (.cells (cellsOf s).toArray 42 (0, 0)) from (Below.heap_setCell w7 ⟨k, 1, none⟩ _ X hxk).trans HS7.out)
  have HL2 := Lib.hid (fun (W : World) (hW : W.heap[X]? = some (.cells (cellsOf s).toArray 42 (0, 0))) => run_cell_dig W X s HSD.out hW)
  have HLG := Lib.hid (run_cell_gl W0 ⟨k, 1, none⟩ ga gn gc ((cell_of_row W0 k 1 _ _ _ M1).trans rfl))
  have HLGA := Lib.hid (run_cell_gl (W0.alloc (.cells (cellsOf s).toArray 42)) ⟨k, 1, none⟩ ga gn gc ((cell_of_row _ k 1 _ _ _ ((Below.heap_alloc W0 _ _ (Array.getElem?_eq_some_iff.1 M1).1).trans M1)).trans rfl))
  have HSW := Lib.hid (show W0.os = w2.os ∧ W0.tape = w2.tape ∧ W0.output = w2.output ∧ W0.heap = w2.heap from by rw [hW0]; exact ⟨rfl, rfl, rfl, rfl⟩)
  clear m1 m2 m3 m4 M1 M2 M4 r1 r2 r3 r4 hBW hne hxk hXl hgn hszW
  refine anyH_begin (S := fun W => W.heap[X]? = some (.cells (cellsOf s).toArray 42 (0, 0))) (by kernel_rfl) ?_
  rw [← hW0]
  clear hW0
  refine anyH_pureG 0 (d := 12) (op := .move (.tmp 0)) (gd := none) (.pointer (some ⟨k, 0, none⟩)) (by rfl) (fun o ho => wanted_plain ho _) (by kernel_rfl) (by kernel_rfl) (by kernel_rfl) (fun _ _ _ h => h) (fun o ho W hW => by unfold execOp; simp only [ho]; go_simp) HS.out ?_
  simp only [Act.put, List.setIfInBounds_toArray, List.set_cons_zero, List.set_cons_succ]
  refine anyH_pureG 1 (d := 13) (op := .move (.tmp 0)) (gd := none) (.pointer (some ⟨k, 0, none⟩)) (by rfl) (fun o ho => wanted_plain ho _) (by kernel_rfl) (by kernel_rfl) (by kernel_rfl) (fun _ _ _ h => h) (fun o ho W hW => by unfold execOp; simp only [ho]; go_simp) HS.out ?_
  simp only [Act.put, List.setIfInBounds_toArray, List.set_cons_zero, List.set_cons_succ]
  refine anyH_pureG 2 (d := 14) (op := .nilCheck (.tmp 13)) (gd := none) (.pointer (some ⟨k, 0, none⟩)) (by rfl) (fun o ho => wanted_plain ho _) (by kernel_rfl) (by kernel_rfl) (by kernel_rfl) (fun _ _ _ h => h) (fun o ho W hW => by unfold execOp; simp only [ho]; go_simp) HS.out ?_
  simp only [Act.put, List.setIfInBounds_toArray, List.set_cons_zero, List.set_cons_succ]
  refine anyH_pureG 3 (d := 15) (op := .fieldAddr 76 (.tmp 14) 1) (gd := none) (.pointer (some ⟨k, 1, none⟩)) (by rfl) (fun o ho => wanted_plain ho _) (by kernel_rfl) (by kernel_rfl) (by kernel_rfl) (fun _ _ _ h => h) (fun o ho W hW => by unfold execOp; simp only [ho]; go_simp) HS.out ?_
  simp only [Act.put, List.setIfInBounds_toArray, List.set_cons_zero, List.set_cons_succ]
  refine anyH_loadG 5 (d := 17) (ty := 42) (x := (.tmp 3)) (gd := none) (p := .pointer (some ⟨X, 0, none⟩)) (.agg (cellsOf s).toArray) (by rfl) (fun o ho => wanted_plain ho _) (by kernel_rfl) (by kernel_rfl) (by kernel_rfl) (fun _ _ _ h => h) (by rfl) HL2.out HS.out ?_
  simp only [Act.put, List.setIfInBounds_toArray, List.set_cons_zero, List.set_cons_succ]
  refine anyH_twoU 4 6 (d1 := some 16) (op1 := .load 38 (.tmp 15)) (d2 := some 18) (op2 := .buildSlice 38 1 #[(0, (.tmp 17))]) (by kernel_rfl) (by rfl) (by rfl) ?_ ?_
  · intro o1 hod1 hoo1
    refine wp_load_g 38 (.tmp 15) hoo1 (.pointer (some ⟨k, 1, none⟩)) (.slice ga gn gc) (by rfl) (HLG.out) ?_
    rw [hod1]
    simp only [Act.put, List.setIfInBounds_toArray, List.set_cons_zero, List.set_cons_succ]
    refine ⟨HS.out, ?_⟩
    refine anyH_oneU 6 (d1 := some 18) (op1 := .buildSlice 38 1 #[(0, (.tmp 17))]) (by kernel_rfl) (by rfl) ?_
    intro o2 hod2 hoo2
    refine wp_dlayU dtA (.tmp 17) hoo2 s HSD.out (by rfl) ?_
    rw [hod2]
    simp only [Act.put, List.setIfInBounds_toArray, List.set_cons_zero, List.set_cons_succ]
    refine ⟨HSA.out, ?_⟩
    refine anyH_oneU 7 (d1 := some 19) (op1 := .call { callee := .builtin .append, args := #[(.tmp 16), (.tmp 18)], argTypes := #[38, 38] }) (by kernel_rfl) (by rfl) ?_
    intro o3 hod3 hoo3
    refine wp_runU (.slice a7 n7 c7) (w' := w7) (exec_appendU hoo3 (by rfl) (by rfl) (HRUN.out o3.type)) ?_
    rw [hod3]
    simp only [Act.put, List.setIfInBounds_toArray, List.set_cons_zero, List.set_cons_succ]
    refine ⟨HS7.out, ?_⟩
    refine anyH_pureG 8 (d := 20) (op := .nilCheck (.tmp 12)) (gd := none) (.pointer (some ⟨k, 0, none⟩)) (by rfl) (fun o ho => wanted_plain ho _) (by kernel_rfl) (by kernel_rfl) (by kernel_rfl) (fun _ _ _ h => h) (fun o ho W hW => by unfold execOp; simp only [ho]; go_simp) HS7.out ?_
    simp only [Act.put, List.setIfInBounds_toArray, List.set_cons_zero, List.set_cons_succ]
    refine anyH_pureG 9 (d := 21) (op := .fieldAddr 76 (.tmp 20) 1) (gd := none) (.pointer (some ⟨k, 1, none⟩)) (by rfl) (fun o ho => wanted_plain ho _) (by kernel_rfl) (by kernel_rfl) (by kernel_rfl) (fun _ _ _ h => h) (fun o ho W hW => by unfold execOp; simp only [ho]; go_simp) HS7.out ?_
    simp only [Act.put, List.setIfInBounds_toArray, List.set_cons_zero, List.set_cons_succ]
    refine anyH_oneU 10 (d1 := none) (op1 := .store 38 (.tmp 21) (.tmp 19)) (by kernel_rfl) (by rfl) ?_
    intro o4 hod4 hoo4
    refine wp_store_one 38 (.tmp 21) (.tmp 19) hoo4 k 1 (.slice a7 n7 c7) (by rfl) (by rfl) HE.out.1 (by kernel_rfl) (by rfl) (by rfl) ?_
    rw [hod4]
    simp only [Act.put, List.setIfInBounds_toArray, List.set_cons_zero, List.set_cons_succ]
    refine ⟨HS8.out, ?_⟩
    refine wpAnyH_done (by kernel_rfl) ?_ _
    obtain ⟨w8, hw8⟩ : ∃ w8, w8 = w7.setCells k 1 [.slice a7 n7 c7] := ⟨_, rfl⟩
    rw [← hw8]
    have HE8 := Lib.hid (show MR B NN (ext O W0 w8) w8 k g (gray ++ [s]) bb ∧ Fr O W0 w8 from by rw [hw8]; exact HE.out.2)
    clear hw8 HE HS HSA HS7 HS8 HL2 HLG HLGA HRUN HMX
    clear HX1 HXO HGL
    go_wp2_with fail
    go_ret
    obtain ⟨e1, e2⟩ := HNB.out
    rw [e2, e1] at HE8
    exact ⟨rfl, GrayEnd2 HFd0.out HE8.out.1 HE8.out.2 HSW.out HOBw.out⟩
  · intro o1 hod1 hoo1
    refine wp_dlayU dtA (.tmp 17) hoo1 s HSD.out (by rfl) ?_
    rw [hod1]
    simp only [Act.put, List.setIfInBounds_toArray, List.set_cons_zero, List.set_cons_succ]
    refine ⟨HSA.out, ?_⟩
    refine anyH_oneU 4 (d1 := some 16) (op1 := .load 38 (.tmp 15)) (by kernel_rfl) (by rfl) ?_
    intro o2 hod2 hoo2
    refine wp_load_g 38 (.tmp 15) hoo2 (.pointer (some ⟨k, 1, none⟩)) (.slice ga gn gc) (by rfl) (HLGA.out) ?_
    rw [hod2]
    simp only [Act.put, List.setIfInBounds_toArray, List.set_cons_zero, List.set_cons_succ]
    refine ⟨HSA.out, ?_⟩
    refine anyH_oneU 7 (d1 := some 19) (op1 := .call { callee := .builtin .append, args := #[(.tmp 16), (.tmp 18)], argTypes := #[38, 38] }) (by kernel_rfl) (by rfl) ?_
    intro o3 hod3 hoo3
    refine wp_runU (.slice a7 n7 c7) (w' := w7) (exec_appendU hoo3 (by rfl) (by rfl) (HRUN.out o3.type)) ?_
    rw [hod3]
    simp only [Act.put, List.setIfInBounds_toArray, List.set_cons_zero, List.set_cons_succ]
    refine ⟨HS7.out, ?_⟩
    refine anyH_pureG 8 (d := 20) (op := .nilCheck (.tmp 12)) (gd := none) (.pointer (some ⟨k, 0, none⟩)) (by rfl) (fun o ho => wanted_plain ho _) (by kernel_rfl) (by kernel_rfl) (by kernel_rfl) (fun _ _ _ h => h) (fun o ho W hW => by unfold execOp; simp only [ho]; go_simp) HS7.out ?_
    simp only [Act.put, List.setIfInBounds_toArray, List.set_cons_zero, List.set_cons_succ]
    refine anyH_pureG 9 (d := 21) (op := .fieldAddr 76 (.tmp 20) 1) (gd := none) (.pointer (some ⟨k, 1, none⟩)) (by rfl) (fun o ho => wanted_plain ho _) (by kernel_rfl) (by kernel_rfl) (by kernel_rfl) (fun _ _ _ h => h) (fun o ho W hW => by unfold execOp; simp only [ho]; go_simp) HS7.out ?_
    simp only [Act.put, List.setIfInBounds_toArray, List.set_cons_zero, List.set_cons_succ]
    refine anyH_oneU 10 (d1 := none) (op1 := .store 38 (.tmp 21) (.tmp 19)) (by kernel_rfl) (by rfl) ?_
    intro o4 hod4 hoo4
    refine wp_store_one 38 (.tmp 21) (.tmp 19) hoo4 k 1 (.slice a7 n7 c7) (by rfl) (by rfl) HE.out.1 (by kernel_rfl) (by rfl) (by rfl) ?_
    rw [hod4]
    simp only [Act.put, List.setIfInBounds_toArray, List.set_cons_zero, List.set_cons_succ]
    refine ⟨HS8.out, ?_⟩
    refine wpAnyH_done (by kernel_rfl) ?_ _
    obtain ⟨w8, hw8⟩ : ∃ w8, w8 = w7.setCells k 1 [.slice a7 n7 c7] := ⟨_, rfl⟩
    rw [← hw8]
    have HE8 := Lib.hid (show MR B NN (ext O W0 w8) w8 k g (gray ++ [s]) bb ∧ Fr O W0 w8 from by rw [hw8]; exact HE.out.2)
    clear hw8 HE HS HSA HS7 HS8 HL2 HLG HLGA HRUN HMX
    clear HX1 HXO HGL
    go_wp2_with fail
    go_ret
    obtain ⟨e1, e2⟩ := HNB.out
    rw [e2, e1] at HE8
    exact ⟨rfl, GrayEnd2 HFd0.out HE8.out.1 HE8.out.2 HSW.out HOBw.out⟩
end Go.Proofs.Ytpppffgchgcghaa
