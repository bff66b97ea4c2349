/-
  A graph's Put; a marker is begun; a sum is made gray.
-/
import Derived.Test.YtpppffgchgcghaaGrb
namespace Go.Proofs.Ytpppffgchgcghaa
open Go.RowKit Go.Maps
set_option linter.unusedVariables false
theorem dr_fr {w w' : World} {a : Option Addr} {n : Nat} {ds : Ds} {V : Nat → Prop} (h : DR w a n ds) (hf : Fr V w w') (ha : ∀ b o, a = some ⟨b, o, none⟩ → ¬ V b) : DR w' a n ds := by
  obtain ⟨h1, h2, h3, h4, h5⟩ := h
  refine ⟨h1, h2, h3, h4, h5.imp id fun ⟨b, off, e, hb, hc⟩ => ⟨b, off, e, Nat.lt_of_lt_of_le hb hf.size, fun i hi => ?_⟩⟩
  exact (World.cell?_of_block (a := ⟨b, off + i, none⟩) (hf.block b hb (ha b off e))).trans (hc i hi)
set_option maxRecDepth 100000 in
set_option maxHeartbeats 8000000 in
theorem put_c {B N g : Nat} {V : Nat → Prop} {w : World} {f : List Nat → Option Ds} (h : GR B N V w g f) (hB : B ≤ w.heap.size) (hN : N ≤ 1000000000) {s : List Nat} (hs : D32 s) (a : Option Addr) (len cap : Nat) (ds : Ds) (hd : DR w a len ds) (hlc : len ≤ cap) (hl : len ≤ 1000000000) (ha : ∀ b o, a = some ⟨b, o, none⟩ → ¬ V b) :
    Calls Try.prog 23 #[.pointer (some ⟨g, 0, none⟩), .agg (cellsOf s).toArray, .slice a len cap] w fun e w' => e = .returned (.int .i64 0) ∧ GR B (N + 1) (ext V w w') w' g (fun t => if t = s then some ds else f t) ∧ Fr V w w' := by
  obtain ⟨mb, h1, h4⟩ := h.ex
  have hgl := (h.vb g h.own).2
  have HSD := Lib.hid hs
  have HVB := Lib.hid h.vb
  have HBB := Lib.hid hB
  have HOG := Lib.hid h.own
  have H1 := Lib.hid h1
  have HNN := Lib.hid hN
  have HDR := Lib.hid hd
  have HDD := Lib.hid hd.2.1
  have HLC := Lib.hid (And.intro hlc hl)
  have HNA := Lib.hid ha
  have c1 : w.cell? ⟨g, 0, none⟩ = some (.map mb) := (cell_of_row w g 0 _ _ _ h1).trans rfl
  have c2 : w.frozen? ⟨g, 0, none⟩ = false := frozen_of_row w g 0 _ _ h1
  rcases h4 with ⟨rfl, h5⟩ | ⟨m, n, D, rfl, hn, hm⟩
  · have H5 := Lib.hid h5
    have hmk := fun W => gnil W
    have hmm := fun W => gmake W
    clear h h1 hs hB hN h5 hd hlc hl ha
    go_enter Try.func23, Try.ntmps23
    go_wp2_with fail
    obtain ⟨X, hX⟩ : ∃ X, X = w.heap.size := ⟨_, rfl⟩
    obtain ⟨m, hmX⟩ : ∃ m, m = w.heap.size + 1 := ⟨_, rfl⟩
    obtain ⟨n, hn0⟩ : ∃ n, n = 0 := ⟨_, rfl⟩
    obtain ⟨D, hD0⟩ : ∃ D : DV, D = .map [] := ⟨_, rfl⟩
    rw [← hmX, ← hX]
    obtain ⟨W1, hW1⟩ : ∃ W1, W1 = ((w.setCell ⟨g, 0, none⟩ (.map (some m))).alloc (.cells (cellsOf s).toArray 42)).alloc (.map #[] 0) := ⟨_, rfl⟩
    rw [← hW1]
    have hs0 : (w.setCell ⟨g, 0, none⟩ (.map (some m))).heap.size = w.heap.size := by simp only [World.setCell, Array.size_modify]
    have hs1 : W1.heap.size = w.heap.size + 2 := by rw [hW1]; simp only [World.alloc, Array.size_push, hs0]
    have hkk : (w.setCell ⟨g, 0, none⟩ (.map (some m))).heap[g]? = some (.cells #[.map (some m)] 72 (0, 0)) := row_set (o := 0) H1.out (.map (some m)) (by show 0 < 1; omega)
    have HK1 := Lib.hid (show W1.heap[g]? = some (.cells #[.map (some m)] 72 (0, 0)) from by
      rw [hW1, Below.heap_alloc _ _ _ (by simp only [World.alloc, Array.size_push, hs0]; omega), Below.heap_alloc _ _ _ (by rw [hs0]; exact hgl)]
      exact hkk)
    have HX := Lib.hid (show W1.heap[X]? = some (.cells (cellsOf s).toArray 42 (0, 0)) from by
      rw [hW1, Below.heap_alloc _ _ _ (by simp only [World.alloc, Array.size_push, hs0]; omega), hX, ← hs0]
      exact heap_alloc_new _ _)
    have HF := Lib.hid (show Fr V w W1 from ⟨by rw [hW1]; rfl, by rw [hW1]; rfl, by rw [hW1]; rfl, by omega, fun j hj hn => by
      rw [hW1, Below.heap_alloc _ _ _ (by simp only [World.alloc, Array.size_push, hs0]; omega), Below.heap_alloc _ _ _ (by rw [hs0]; exact hj)]
      exact Below.heap_setCell w ⟨g, 0, none⟩ _ j fun e => hn (by rw [e]; exact HOG.out)⟩)
    have HG1 := Lib.hid (show GM B (ext V w W1) W1 m n D f from by
      have := GM.made ((w.setCell ⟨g, 0, none⟩ (.map (some m))).alloc (.cells (cellsOf s).toArray 42)) B (ext V w W1) (by simp only [World.alloc, Array.size_push, hs0]; have := HBB.out; omega) (.inr (by simp only [World.alloc, Array.size_push, hs0]; rw [hs1]; omega))
      rw [show ((w.setCell ⟨g, 0, none⟩ (.map (some m))).alloc (.cells (cellsOf s).toArray 42)).heap.size = m by simp only [World.alloc, Array.size_push, hs0]; exact hmX.symm, ← hW1] at this
      rw [hn0, hD0, show f = fun _ => none from funext H5.out]
      exact this)
    have HN := Lib.hid (show n ≤ N ∧ N ≤ 1000000000 from ⟨by omega, HNN.out⟩)
    clear hW1 c1 c2 hgl H1 hkk hs0 hs1 hX hmX hn0 hD0 H5
    obtain ⟨W0, hW0⟩ : ∃ W0, W0 = World.drew W1 := ⟨_, rfl⟩
    have HM := Lib.hid (show GM B (ext V w W0) W0 m n D f from by rw [hW0]; exact HG1.out.keep fun _ _ _ => rfl)
    have HK := Lib.hid (show W0.heap[g]? = some (.cells #[.map (some m)] 72 (0, 0)) from by rw [hW0]; exact HK1.out)
    have HSZ := Lib.hid (show w.heap.size ≤ W0.heap.size from by rw [hW0]; exact HF.out.size)
    have HFR := Lib.hid (show Fr V w W0 from by rw [hW0]; exact ⟨HF.out.os, HF.out.tape, HF.out.output, HF.out.size, HF.out.block⟩)
    have HS := Lib.hid (show W0.cell? ⟨g, 0, none⟩ = some (.map (some m)) ∧ W0.heap[X]? = some (.cells (cellsOf s).toArray 42 (0, 0)) from by rw [hW0]; exact ⟨(cell_of_row W1 g 0 _ _ _ HK1.out).trans rfl, HX.out⟩)
    have HGX := Lib.hid (And.intro (Array.getElem?_eq_some_iff.1 HK.out).1 (Array.getElem?_eq_some_iff.1 HS.out.2).1)
    have HL1 := Lib.hid (fun (W : World) (hW : W.cell? ⟨g, 0, none⟩ = some (.map (some m)) ∧ W.heap[X]? = some (.cells (cellsOf s).toArray 42 (0, 0))) => run_cell_gm W ⟨g, 0, none⟩ (some m) hW.1)
    have HL2 := Lib.hid (fun (W : World) (hW : W.cell? ⟨g, 0, none⟩ = some (.map (some m)) ∧ W.heap[X]? = some (.cells (cellsOf s).toArray 42 (0, 0))) => run_cell_dig W X s HSD.out hW.2)
    have HCP := Lib.hid (copied_c a len cap ds W0 (dr_fr HDR.out HFR.out HNA.out) HLC.out.1 HLC.out.2)
    refine anyH_begin (S := fun W => W.cell? ⟨g, 0, none⟩ = some (.map (some m)) ∧ W.heap[X]? = some (.cells (cellsOf s).toArray 42 (0, 0))) (by kernel_rfl) ?_
    rw [← hW0]
    clear hW0
    refine anyH_pureG 0 (d := 18) (op := .move (.tmp 0)) (gd := none) (.pointer (some ⟨g, 0, none⟩)) (by rfl) (fun o ho => wanted_plain ho _) (by kernel_rfl) (by kernel_rfl) (by kernel_rfl) (fun _ _ _ h => h) (fun o ho W hW => by unfold execOp; simp only [ho]; go_simp) HS.out ?_
    simp only [Act.put, List.setIfInBounds_toArray, List.set_cons_zero, List.set_cons_succ]
    refine anyH_pureG 1 (d := 19) (op := .nilCheck (.tmp 18)) (gd := none) (.pointer (some ⟨g, 0, none⟩)) (by rfl) (fun o ho => wanted_plain ho _) (by kernel_rfl) (by kernel_rfl) (by kernel_rfl) (fun _ _ _ h => h) (fun o ho W hW => by unfold execOp; simp only [ho]; go_simp) HS.out ?_
    simp only [Act.put, List.setIfInBounds_toArray, List.set_cons_zero, List.set_cons_succ]
    refine anyH_pureG 2 (d := 20) (op := .fieldAddr 72 (.tmp 19) 0) (gd := none) (.pointer (some ⟨g, 0, none⟩)) (by rfl) (fun o ho => wanted_plain ho _) (by kernel_rfl) (by kernel_rfl) (by kernel_rfl) (fun _ _ _ h => h) (fun o ho W hW => by unfold execOp; simp only [ho]; go_simp) HS.out ?_
    simp only [Act.put, List.setIfInBounds_toArray, List.set_cons_zero, List.set_cons_succ]
    refine anyH_loadG 3 (d := 21) (ty := 70) (x := (.tmp 20)) (gd := none) (p := .pointer (some ⟨g, 0, none⟩)) (.map (some m)) (by rfl) (fun o ho => wanted_plain ho _) (by kernel_rfl) (by kernel_rfl) (by kernel_rfl) (fun _ _ _ h => h) (by rfl) HL1.out HS.out ?_
    simp only [Act.put, List.setIfInBounds_toArray, List.set_cons_zero, List.set_cons_succ]
    refine anyH_loadG 4 (d := 22) (ty := 42) (x := (.tmp 4)) (gd := none) (p := .pointer (some ⟨X, 0, none⟩)) (.agg (cellsOf s).toArray) (by rfl) (fun o ho => wanted_plain ho _) (by kernel_rfl) (by kernel_rfl) (by kernel_rfl) (fun _ _ _ h => h) (by rfl) HL2.out HS.out ?_
    simp only [Act.put, List.setIfInBounds_toArray, List.set_cons_zero, List.set_cons_succ]
    refine anyH_pureG 5 (d := 23) (op := .move (.tmp 2)) (gd := none) (.slice a len cap) (by rfl) (fun o ho => wanted_plain ho _) (by kernel_rfl) (by kernel_rfl) (by kernel_rfl) (fun _ _ _ h => h) (fun o ho W hW => by unfold execOp; simp only [ho]; go_simp) HS.out ?_
    simp only [Act.put, List.setIfInBounds_toArray, List.set_cons_zero, List.set_cons_succ]
    refine anyH_callG 6 (d := some 24) (f := 32) (xs := #[(.tmp 23)]) (ts := #[38]) (gd := none) (vs := #[.slice a len cap]) (by kernel_rfl) (by rfl) (fun o ho => wanted_plain ho _) (by go_simp) (by go_simp) (HCP.out) ?_
    rintro e8 w8 ⟨v8, rfl, ho8, hb8⟩
    have HS8 := Lib.hid (show w8.cell? ⟨g, 0, none⟩ = some (.map (some m)) ∧ w8.heap[X]? = some (.cells (cellsOf s).toArray 42 (0, 0)) from ⟨(hb8.cell (p := ⟨g, 0, none⟩) HGX.out.1).trans HS.out.1, (hb8.block X HGX.out.2).trans HS.out.2⟩)
    have HB8 := Lib.hid hb8
    have HO8 := Lib.hid ho8
    clear hb8 ho8
    refine ⟨_, rfl, HS8.out, fun hS => ?_⟩
    clear hS
    simp only [Act.put, List.setIfInBounds_toArray, List.set_cons_zero, List.set_cons_succ]
    have hext : ∀ j, ext V w W0 j → ext V w w8 j := fun j hj => hj.imp id fun e => ⟨e.1, Nat.lt_of_lt_of_le e.2 HB8.out.size⟩
    obtain ⟨w7, D7, hrun, hm7, hg7⟩ := (((HM.out.keep fun j hj hv => HB8.out.block j hj).moreV hext)).put HSD.out (by have h1 := HN.out.1; have h2 := HN.out.2; unfold maxLen; omega) (OwnD.base HO8.out (Nat.le_trans HBB.out HSZ.out)) HDD.out (fun j e => .inr ⟨Nat.le_trans HSZ.out (World.ownsRow.lt HO8.out j e).1, (World.ownsRow.lt HO8.out j e).2⟩)
    have HRUN := Lib.hid hrun
    have HM7 := Lib.hid hm7
    have HG7 := Lib.hid hg7
    have HGM := Lib.hid (show g ≠ m from fun e => by
      obtain ⟨es, cl, hmm⟩ := gmap_block HM.out.mp
      have h1 := HK.out
      rw [e, hmm] at h1
      cases h1)
    have HS7 := Lib.hid (show w7.cell? ⟨g, 0, none⟩ = some (.map (some m)) ∧ w7.heap[X]? = some (.cells (cellsOf s).toArray 42 (0, 0)) from by
      have hxm : some X ≠ some m := fun e => by
        obtain ⟨es, cl, hmm⟩ := gmap_block HM.out.mp
        have h1 := HS.out.2
        rw [Option.some.inj e, hmm] at h1
        cases h1
      exact ⟨(World.cell?_of_block (a := ⟨g, 0, none⟩) (hg7.block g (Nat.lt_of_lt_of_le HGX.out.1 HB8.out.size) (fun e => HGM.out (Option.some.inj e)))).trans HS8.out.1, (hg7.block X (Nat.lt_of_lt_of_le HGX.out.2 HB8.out.size) hxm).trans HS8.out.2⟩)
    clear hrun hm7 hg7 hext
    refine anyH_oneU 7 (d1 := none) (op1 := .mapUpdate 70 (.tmp 21) (.tmp 22) (.tmp 24)) (by kernel_rfl) (by rfl) ?_
    intro o1 hod1 hoo1
    refine wp_mapUpdU 70 (.tmp 21) (.tmp 22) (.tmp 24) hoo1 (.map (some m)) (.agg (cellsOf s).toArray) v8 (by rfl) (by rfl) (by rfl) HRUN.out ?_
    rw [hod1]
    simp only [Act.put, List.setIfInBounds_toArray, List.set_cons_zero, List.set_cons_succ]
    refine ⟨HS7.out, ?_⟩
    --nosimp
    refine wpAnyH_done (by kernel_rfl) ?_ _
    clear HL1 HL2 HS HRUN HS7 HS8 HCP
    go_wp2_with fail
    go_ret
    refine ⟨rfl, ⟨.inl HOG.out, ext_ob HVB.out HBB.out (Nat.le_trans HSZ.out (Nat.le_trans HB8.out.size HG7.out.size)), some m, ?_, .inr ⟨m, n + 1, D7, rfl, by have := HN.out.1; omega, HM7.out.moreV fun j hj => hj.imp id fun e => ⟨e.1, Nat.lt_of_lt_of_le e.2 HG7.out.size⟩⟩⟩, (HFR.out.trans (Fr.ofBelow (O := fun _ => False) HB8.out) fun j hj e => e.elim).trans (Fr.grown (O := ext V w W0) HG7.out fun j e => by cases e; exact HM.out.vm) fun j hj hj2 => hj2.elim id fun e => absurd e.1 (by omega)⟩
    exact (HG7.out.block g (Nat.lt_of_lt_of_le HGX.out.1 HB8.out.size) (fun e => HGM.out (Option.some.inj e))).trans ((HB8.out.block g HGX.out.1).trans HK.out)
  · have hmk := fun W => gsome m W
    have HG0 := Lib.hid hm
    have HN := Lib.hid (And.intro hn hN)
    clear h h1 hs hB hN hd hlc hl ha hn hm
    go_enter Try.func23, Try.ntmps23
    go_wp2_with fail
    obtain ⟨X, hX⟩ : ∃ X, X = w.heap.size := ⟨_, rfl⟩
    obtain ⟨W1, hW1⟩ : ∃ W1, W1 = w.alloc (.cells (cellsOf s).toArray 42) := ⟨_, rfl⟩
    rw [← hX]
    rw [← hW1]
    have HK1 := Lib.hid (show W1.heap[g]? = some (.cells #[.map (some m)] 72 (0, 0)) from by rw [hW1]; exact (Below.heap_alloc w _ _ hgl).trans H1.out)
    have HX := Lib.hid (show W1.heap[X]? = some (.cells (cellsOf s).toArray 42 (0, 0)) from by rw [hW1, hX]; exact heap_alloc_new w _)
    have HF := Lib.hid (show Fr V w W1 from by rw [hW1]; exact Fr.ofBelow ((Below.refl _ _).alloc (Nat.le_refl _) _))
    have HG1 := Lib.hid (show GM B (ext V w W1) W1 m n D f from (HG0.out.keep fun j hj hv => by rw [hW1]; exact Below.heap_alloc w _ _ hj).moreV fun j hj => .inl hj)
    clear hW1 c1 c2 hgl H1 HG0
    obtain ⟨W0, hW0⟩ : ∃ W0, W0 = World.drew W1 := ⟨_, rfl⟩
    have HM := Lib.hid (show GM B (ext V w W0) W0 m n D f from by rw [hW0]; exact HG1.out.keep fun _ _ _ => rfl)
    have HK := Lib.hid (show W0.heap[g]? = some (.cells #[.map (some m)] 72 (0, 0)) from by rw [hW0]; exact HK1.out)
    have HSZ := Lib.hid (show w.heap.size ≤ W0.heap.size from by rw [hW0]; exact HF.out.size)
    have HFR := Lib.hid (show Fr V w W0 from by rw [hW0]; exact ⟨HF.out.os, HF.out.tape, HF.out.output, HF.out.size, HF.out.block⟩)
    have HS := Lib.hid (show W0.cell? ⟨g, 0, none⟩ = some (.map (some m)) ∧ W0.heap[X]? = some (.cells (cellsOf s).toArray 42 (0, 0)) from by rw [hW0]; exact ⟨(cell_of_row W1 g 0 _ _ _ HK1.out).trans rfl, HX.out⟩)
    have HGX := Lib.hid (And.intro (Array.getElem?_eq_some_iff.1 HK.out).1 (Array.getElem?_eq_some_iff.1 HS.out.2).1)
    have HL1 := Lib.hid (fun (W : World) (hW : W.cell? ⟨g, 0, none⟩ = some (.map (some m)) ∧ W.heap[X]? = some (.cells (cellsOf s).toArray 42 (0, 0))) => run_cell_gm W ⟨g, 0, none⟩ (some m) hW.1)
    have HL2 := Lib.hid (fun (W : World) (hW : W.cell? ⟨g, 0, none⟩ = some (.map (some m)) ∧ W.heap[X]? = some (.cells (cellsOf s).toArray 42 (0, 0))) => run_cell_dig W X s HSD.out hW.2)
    have HCP := Lib.hid (copied_c a len cap ds W0 (dr_fr HDR.out HFR.out HNA.out) HLC.out.1 HLC.out.2)
    refine anyH_begin (S := fun W => W.cell? ⟨g, 0, none⟩ = some (.map (some m)) ∧ W.heap[X]? = some (.cells (cellsOf s).toArray 42 (0, 0))) (by kernel_rfl) ?_
    rw [← hW0]
    clear hW0
    refine anyH_pureG 0 (d := 18) (op := .move (.tmp 0)) (gd := none) (.pointer (some ⟨g, 0, none⟩)) (by rfl) (fun o ho => wanted_plain ho _) (by kernel_rfl) (by kernel_rfl) (by kernel_rfl) (fun _ _ _ h => h) (fun o ho W hW => by unfold execOp; simp only [ho]; go_simp) HS.out ?_
    simp only [Act.put, List.setIfInBounds_toArray, List.set_cons_zero, List.set_cons_succ]
    refine anyH_pureG 1 (d := 19) (op := .nilCheck (.tmp 18)) (gd := none) (.pointer (some ⟨g, 0, none⟩)) (by rfl) (fun o ho => wanted_plain ho _) (by kernel_rfl) (by kernel_rfl) (by kernel_rfl) (fun _ _ _ h => h) (fun o ho W hW => by unfold execOp; simp only [ho]; go_simp) HS.out ?_
    simp only [Act.put, List.setIfInBounds_toArray, List.set_cons_zero, List.set_cons_succ]
    refine anyH_pureG 2 (d := 20) (op := .fieldAddr 72 (.tmp 19) 0) (gd := none) (.pointer (some ⟨g, 0, none⟩)) (by rfl) (fun o ho => wanted_plain ho _) (by kernel_rfl) (by kernel_rfl) (by kernel_rfl) (fun _ _ _ h => h) (fun o ho W hW => by unfold execOp; simp only [ho]; go_simp) HS.out ?_
    simp only [Act.put, List.setIfInBounds_toArray, List.set_cons_zero, List.set_cons_succ]
    refine anyH_loadG 3 (d := 21) (ty := 70) (x := (.tmp 20)) (gd := none) (p := .pointer (some ⟨g, 0, none⟩)) (.map (some m)) (by rfl) (fun o ho => wanted_plain ho _) (by kernel_rfl) (by kernel_rfl) (by kernel_rfl) (fun _ _ _ h => h) (by rfl) HL1.out HS.out ?_
    simp only [Act.put, List.setIfInBounds_toArray, List.set_cons_zero, List.set_cons_succ]
    refine anyH_loadG 4 (d := 22) (ty := 42) (x := (.tmp 4)) (gd := none) (p := .pointer (some ⟨X, 0, none⟩)) (.agg (cellsOf s).toArray) (by rfl) (fun o ho => wanted_plain ho _) (by kernel_rfl) (by kernel_rfl) (by kernel_rfl) (fun _ _ _ h => h) (by rfl) HL2.out HS.out ?_
    simp only [Act.put, List.setIfInBounds_toArray, List.set_cons_zero, List.set_cons_succ]
    refine anyH_pureG 5 (d := 23) (op := .move (.tmp 2)) (gd := none) (.slice a len cap) (by rfl) (fun o ho => wanted_plain ho _) (by kernel_rfl) (by kernel_rfl) (by kernel_rfl) (fun _ _ _ h => h) (fun o ho W hW => by unfold execOp; simp only [ho]; go_simp) HS.out ?_
    simp only [Act.put, List.setIfInBounds_toArray, List.set_cons_zero, List.set_cons_succ]
    refine anyH_callG 6 (d := some 24) (f := 32) (xs := #[(.tmp 23)]) (ts := #[38]) (gd := none) (vs := #[.slice a len cap]) (by kernel_rfl) (by rfl) (fun o ho => wanted_plain ho _) (by go_simp) (by go_simp) (HCP.out) ?_
    rintro e8 w8 ⟨v8, rfl, ho8, hb8⟩
    have HS8 := Lib.hid (show w8.cell? ⟨g, 0, none⟩ = some (.map (some m)) ∧ w8.heap[X]? = some (.cells (cellsOf s).toArray 42 (0, 0)) from ⟨(hb8.cell (p := ⟨g, 0, none⟩) HGX.out.1).trans HS.out.1, (hb8.block X HGX.out.2).trans HS.out.2⟩)
    have HB8 := Lib.hid hb8
    have HO8 := Lib.hid ho8
    clear hb8 ho8
    refine ⟨_, rfl, HS8.out, fun hS => ?_⟩
    clear hS
    simp only [Act.put, List.setIfInBounds_toArray, List.set_cons_zero, List.set_cons_succ]
    have hext : ∀ j, ext V w W0 j → ext V w w8 j := fun j hj => hj.imp id fun e => ⟨e.1, Nat.lt_of_lt_of_le e.2 HB8.out.size⟩
    obtain ⟨w7, D7, hrun, hm7, hg7⟩ := (((HM.out.keep fun j hj hv => HB8.out.block j hj).moreV hext)).put HSD.out (by have h1 := HN.out.1; have h2 := HN.out.2; unfold maxLen; omega) (OwnD.base HO8.out (Nat.le_trans HBB.out HSZ.out)) HDD.out (fun j e => .inr ⟨Nat.le_trans HSZ.out (World.ownsRow.lt HO8.out j e).1, (World.ownsRow.lt HO8.out j e).2⟩)
    have HRUN := Lib.hid hrun
    have HM7 := Lib.hid hm7
    have HG7 := Lib.hid hg7
    have HGM := Lib.hid (show g ≠ m from fun e => by
      obtain ⟨es, cl, hmm⟩ := gmap_block HM.out.mp
      have h1 := HK.out
      rw [e, hmm] at h1
      cases h1)
    have HS7 := Lib.hid (show w7.cell? ⟨g, 0, none⟩ = some (.map (some m)) ∧ w7.heap[X]? = some (.cells (cellsOf s).toArray 42 (0, 0)) from by
      have hxm : some X ≠ some m := fun e => by
        obtain ⟨es, cl, hmm⟩ := gmap_block HM.out.mp
        have h1 := HS.out.2
        rw [Option.some.inj e, hmm] at h1
        cases h1
      exact ⟨(World.cell?_of_block (a := ⟨g, 0, none⟩) (hg7.block g (Nat.lt_of_lt_of_le HGX.out.1 HB8.out.size) (fun e => HGM.out (Option.some.inj e)))).trans HS8.out.1, (hg7.block X (Nat.lt_of_lt_of_le HGX.out.2 HB8.out.size) hxm).trans HS8.out.2⟩)
    clear hrun hm7 hg7 hext
    refine anyH_oneU 7 (d1 := none) (op1 := .mapUpdate 70 (.tmp 21) (.tmp 22) (.tmp 24)) (by kernel_rfl) (by rfl) ?_
    intro o1 hod1 hoo1
    refine wp_mapUpdU 70 (.tmp 21) (.tmp 22) (.tmp 24) hoo1 (.map (some m)) (.agg (cellsOf s).toArray) v8 (by rfl) (by rfl) (by rfl) HRUN.out ?_
    rw [hod1]
    simp only [Act.put, List.setIfInBounds_toArray, List.set_cons_zero, List.set_cons_succ]
    refine ⟨HS7.out, ?_⟩
    --nosimp
    refine wpAnyH_done (by kernel_rfl) ?_ _
    clear HL1 HL2 HS HRUN HS7 HS8 HCP
    go_wp2_with fail
    go_ret
    refine ⟨rfl, ⟨.inl HOG.out, ext_ob HVB.out HBB.out (Nat.le_trans HSZ.out (Nat.le_trans HB8.out.size HG7.out.size)), some m, ?_, .inr ⟨m, n + 1, D7, rfl, by have := HN.out.1; omega, HM7.out.moreV fun j hj => hj.imp id fun e => ⟨e.1, Nat.lt_of_lt_of_le e.2 HG7.out.size⟩⟩⟩, (HFR.out.trans (Fr.ofBelow (O := fun _ => False) HB8.out) fun j hj e => e.elim).trans (Fr.grown (O := ext V w W0) HG7.out fun j e => by cases e; exact HM.out.vm) fun j hj hj2 => hj2.elim id fun e => absurd e.1 (by omega)⟩
    exact (HG7.out.block g (Nat.lt_of_lt_of_le HGX.out.1 HB8.out.size) (fun e => HGM.out (Option.some.inj e))).trans ((HB8.out.block g HGX.out.1).trans HK.out)
set_option maxRecDepth 100000 in
theorem mark_c {w : World} (g : Nat) (a : Option Addr) (len cap : Nat) (ds : Ds) (hd : DR w a len ds) (hlc : len ≤ cap) (hl : len ≤ 1000000000) :
    Calls Try.prog 9 #[.pointer (some ⟨g, 0, none⟩), .slice a len cap] w fun e w' => ∃ k, e = .returned (.pointer (some ⟨k, 0, none⟩)) ∧ MR w.heap.size 0 (ext (fun _ => False) w w') w' k g ds (fun _ => false) ∧ Below w.heap.size w w' := by
  have HC := Lib.hid (copied_c a len cap ds w hd hlc hl)
  have HD := Lib.hid hd.2.1
  clear hd hlc hl
  go_enter Try.func9, Try.ntmps9
  go_wp2_with fail
  refine HC.out.mono ?_
  rintro e1 w1 ⟨v, rfl, ho, hb⟩
  have HO := Lib.hid ho
  have HB := Lib.hid hb
  obtain ⟨av, nv, cv, ev⟩ : ∃ av nv cv, v = .slice av nv cv := by
    rcases ho.2 with ⟨e, _⟩ | ⟨_, _, _, e, _⟩
    · exact ⟨_, _, _, e⟩
    · exact ⟨_, _, _, e⟩
  clear ho hb
  subst ev
  go_wp2_with fail
  go_ret
  refine ⟨_, rfl, ⟨.inr ⟨HB.out.size, by simp⟩, fun j hj => ?_, _, none, heap_alloc_new w1 _, (QR.ofOwn HO.out HD.out).keep fun j e => Below.heap_alloc w1 _ _ (HO.out.block j e).2, fun j e => .inr ⟨(HO.out.block j e).1, Nat.lt_of_lt_of_le (HO.out.block j e).2 (by simp)⟩, .inl ⟨rfl, fun _ => rfl⟩⟩, HB.out.alloc HB.out.size _⟩
  rcases hj with hj | hj
  · exact hj.elim
  · exact hj
end Go.Proofs.Ytpppffgchgcghaa
