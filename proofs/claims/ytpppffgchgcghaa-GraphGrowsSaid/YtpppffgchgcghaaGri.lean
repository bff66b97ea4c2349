/-
  What is reached; all nodes.
-/
import Derived.Test.YtpppffgchgcghaaGrh
import Derived.Deep.LoopGhost
namespace Go.Proofs.Ytpppffgchgcghaa
open Go.RowKit Go.Maps
set_option linter.unusedVariables false
theorem sortb_len0 (w : World) (ty : TypeId) : (Builtin.len_ #[74] ty #[.map none]).run Try.prog w = .ok (.int .i64 0) w := by
  simp [Builtin.len_, run_underlying Try.underlying74, goInt, Result.andThen]
set_option maxRecDepth 100000 in
set_option maxHeartbeats 4000000 in
theorem sortb_none (b : List Nat → Bool) (hb : ∀ s, b s = false) (w : World) : Calls Try.prog 43 #[.map none, .func (.func 37) #[] #[]] w (KeysD b w) := by
  have hln := sortb_len0 w
  obtain ⟨i0, z, hi, hz0, hz1, hz2, hz3⟩ := dtA.info
  have HBF := Lib.hid hb
  have hrg := fun W => run_range_nilMap (P := Try.prog) W 74 42 84 Try.underlying74
  have hnx : ∀ (W : World) ty, (Instr.next (.pointer (some ⟨W.heap.size, 0, none⟩)) false ty).run Try.prog (W.alloc (.mapIter none 0 #[] 0)) = _ := fun W ty => run_next_nilMap W ty 0 0 #[]
  clear hb
  go_enter Try.func43, Try.ntmps43
  go_upto_region 2 with (first | (refine wpList_make_own _ rfl _ _ 38 rfl w.heap.size 42 i0 z 32 dtA.und hi hz0 hz1 .i64 .i64 _ 0 (by rfl) (by rfl) rfl (by rw [hz2]; omega) (by unfold maxLen; omega) (Nat.le_refl _) ?_; intro w1 ho1 hg1) | fail)
  have hb1 : Below w.heap.size w w1 := (Below.refl _ _).grown hg1 (Nat.le_refl _) (fun k e => by cases e)
  have HB1 := Lib.hid hb1
  have HO1 := Lib.hid (show OwE w1 w.heap.size (.slice (some ⟨w.heap.size, 0, none⟩) 0 0) [] from ho1)
  obtain ⟨g0, hg0e⟩ : ∃ g0, g0 = w.heap.size := ⟨_, rfl⟩
  rw [← hg0e]
  have HG0 := Lib.hid hg0e
  clear ho1 hg1 hb1 hg0e hi hz0 hz1 hz2 hz3 hln
  go_wp2_with fail
  refine wp_loop_rounds 1 ?_
  rw [rounds_succ]
  have HSO := Lib.hid (fun W (hW : W = w1.alloc (.mapIter none 0 #[] 0)) => sortd_c (w := W) (B := w.heap.size) (a := some ⟨g0, 0, none⟩) (n := 0) (cap := 0) (ds := []) (by rw [hW, HG0.out]; exact HO1.out.alloc _) (by simp) (by simp))
  go_wp2_with fail
  refine (HSO.out _ rfl).mono ?_
  rintro e3 w3 ⟨rfl, ho3, hg3⟩
  have HO3 := Lib.hid ho3
  have HG3 := Lib.hid hg3
  clear ho3 hg3 HSO
  go_wp2_with fail
  go_ret
  refine ⟨_, _, _, sortS [], rfl, HO3.out, by simp [sortS, SrtD], by simp [sortS], fun s hs => by rw [HBF.out s]; simp [sortS], (HB1.out.alloc HB1.out.size _).grown HG3.out (by simp; have := HB1.out.size; omega) (fun k hk => by rw [HG0.out] at hk; cases hk; exact Nat.le_refl _)⟩
theorem sortg_len0 (w : World) (ty : TypeId) : (Builtin.len_ #[70] ty #[.map none]).run Try.prog w = .ok (.int .i64 0) w := by
  simp [Builtin.len_, run_underlying Try.underlying70, goInt, Result.andThen]
set_option maxRecDepth 100000 in
set_option maxHeartbeats 4000000 in
theorem sortg_none (b : List Nat → Bool) (hb : ∀ s, b s = false) (w : World) : Calls Try.prog 36 #[.map none, .func (.func 37) #[] #[]] w (KeysD b w) := by
  have hln := sortg_len0 w
  obtain ⟨i0, z, hi, hz0, hz1, hz2, hz3⟩ := dtA.info
  have HBF := Lib.hid hb
  have hrg := fun W => run_range_nilMap (P := Try.prog) W 70 42 38 Try.underlying70
  have hnx : ∀ (W : World) ty, (Instr.next (.pointer (some ⟨W.heap.size, 0, none⟩)) false ty).run Try.prog (W.alloc (.mapIter none 0 #[] 0)) = _ := fun W ty => run_next_nilMap W ty 0 0 #[]
  clear hb
  go_enter Try.func36, Try.ntmps36
  go_upto_region 2 with (first | (refine wpList_make_own _ rfl _ _ 38 rfl w.heap.size 42 i0 z 32 dtA.und hi hz0 hz1 .i64 .i64 _ 0 (by rfl) (by rfl) rfl (by rw [hz2]; omega) (by unfold maxLen; omega) (Nat.le_refl _) ?_; intro w1 ho1 hg1) | fail)
  have hb1 : Below w.heap.size w w1 := (Below.refl _ _).grown hg1 (Nat.le_refl _) (fun k e => by cases e)
  have HB1 := Lib.hid hb1
  have HO1 := Lib.hid (show OwE w1 w.heap.size (.slice (some ⟨w.heap.size, 0, none⟩) 0 0) [] from ho1)
  obtain ⟨g0, hg0e⟩ : ∃ g0, g0 = w.heap.size := ⟨_, rfl⟩
  rw [← hg0e]
  have HG0 := Lib.hid hg0e
  clear ho1 hg1 hb1 hg0e hi hz0 hz1 hz2 hz3 hln
  go_wp2_with fail
  refine wp_loop_rounds 1 ?_
  rw [rounds_succ]
  have HSO := Lib.hid (fun W (hW : W = w1.alloc (.mapIter none 0 #[] 0)) => sortd_c (w := W) (B := w.heap.size) (a := some ⟨g0, 0, none⟩) (n := 0) (cap := 0) (ds := []) (by rw [hW, HG0.out]; exact HO1.out.alloc _) (by simp) (by simp))
  go_wp2_with fail
  refine (HSO.out _ rfl).mono ?_
  rintro e3 w3 ⟨rfl, ho3, hg3⟩
  have HO3 := Lib.hid ho3
  have HG3 := Lib.hid hg3
  clear ho3 hg3 HSO
  go_wp2_with fail
  go_ret
  refine ⟨_, _, _, sortS [], rfl, HO3.out, by simp [sortS, SrtD], by simp [sortS], fun s hs => by rw [HBF.out s]; simp [sortS], (HB1.out.alloc HB1.out.size _).grown HG3.out (by simp; have := HB1.out.size; omega) (fun k hk => by rw [HG0.out] at hk; cases hk; exact Nat.le_refl _)⟩
theorem sortb_c {bm : Option Nat} {N : Nat} {b : List Nat → Bool} {w : World} (h : (bm = none ∧ ∀ s, b s = false) ∨ ∃ m n D, bm = some m ∧ n ≤ N ∧ BM w m n D b) (hN : N ≤ 1000000000) : Calls Try.prog 43 #[.map bm, .func (.func 37) #[] #[]] w (KeysD b w) := by
  rcases h with ⟨rfl, hb⟩ | ⟨m, n, D, rfl, hn, hm⟩
  · exact sortb_none b hb w
  · exact sortb_some hm.mp hm.vs (by have := hm.mp.size_le; omega)
theorem sortg_c {mb : Option Nat} {B N : Nat} {V : Nat → Prop} {f : List Nat → Option Ds} {w : World} (h : (mb = none ∧ ∀ s, f s = none) ∨ ∃ m n D, mb = some m ∧ n ≤ N ∧ GM B V w m n D f) (hN : N ≤ 1000000000) : Calls Try.prog 36 #[.map mb, .func (.func 37) #[] #[]] w (KeysD (fun s => (f s).isSome) w) := by
  rcases h with ⟨rfl, hb⟩ | ⟨m, n, D, rfl, hn, hm⟩
  · exact sortg_none _ (fun s => by rw [hb s]; rfl) w
  · exact sortg_some hm.mp (fun s hs => hm.hasF hs) (by have := hm.mp.size_le; omega)
/-- in the middle of Reach -/
def RcI (B T k g : Nat) (O : Nat → Prop) (w : World) (f : List Nat → Option Ds) (s : Ms) (M : Nat) (wr : World) : Prop := ∃ j N, N + M ≤ T ∧ MR B N (ext O w wr) wr k g (itP f j s).1 (itP f j s).2 ∧ Bd f (itP f j s).1 (itP f j s).2 M ∧ Fr O w wr
def ReachR (f : List Nat → Option Ds) (ds : Ds) (w : World) (e : Ending) (w' : World) : Prop := ∃ j, (itP f j (ds, fun _ => false)).1 = [] ∧ KeysD (itP f j (ds, fun _ => false)).2 w e w'
set_option maxRecDepth 100000 in
set_option maxHeartbeats 8000000 in
theorem reach_c {B2 N2 g M : Nat} {V : Nat → Prop} {w : World} {f : List Nat → Option Ds} (hG : GR B2 N2 V w g f) (a : Option Addr) (n cap : Nat) (ds : Ds) (hd : DR w a n ds) (hlc : n ≤ cap) (hl : n ≤ 1000000000) (hbd : Bd f ds (fun _ => false) M) (hM : M ≤ 100000000) (hfl : ∀ s ts, f s = some ts → ts.length ≤ 1000000) :
    Calls Try.prog 27 #[.pointer (some ⟨g, 0, none⟩), .slice a n cap] w (ReachR f ds w) := by
  have HMK := Lib.hid (mark_c g a n cap ds hd hlc hl)
  have HG := Lib.hid hG
  have HBD := Lib.hid hbd
  have HMM := Lib.hid hM
  have HFL := Lib.hid hfl
  clear hG hd hlc hl hbd hM hfl
  go_enter Try.func27, Try.ntmps27
  go_wp2_with fail
  refine HMK.out.mono ?_
  rintro e1 w1 ⟨k, rfl, hmr, hb1⟩
  obtain ⟨s, hs⟩ : ∃ s : Ms, s = (ds, fun _ => false) := ⟨_, rfl⟩
  obtain ⟨O, hO⟩ : ∃ O, O = ext (fun _ => False) w w1 := ⟨_, rfl⟩
  rw [← hO] at hmr
  have HB1 := Lib.hid hb1
  have HP0 := Lib.hid (show RcI w.heap.size M k g O w1 f s M w1 from ⟨0, 0, by omega, by rw [hs]; exact hmr.more (fun j hj => .inl hj) (ext_ob hmr.ob hb1.size (Nat.le_refl _)) (Nat.le_refl _), by rw [hs]; exact HBD.out, Fr.refl _ _⟩)
  have HSS := Lib.hid hs
  have HOB := Lib.hid hmr.ob
  have HOO := Lib.hid hO
  have HG1 := Lib.hid (HG.out.below hb1)
  have HVO := Lib.hid (show ∀ j, V j → ¬ O j from fun j hv ho => by
    rw [hO] at ho
    rcases ho with ho | ho
    · exact ho
    · have := (HG.out.vb j hv).2
      omega)
  clear HMK hmr hb1 hs hO
  go_wp2_with fail
  go_loopg [16] M (fun gk p wr => Hid (RcI w.heap.size M k g O w1 f s gk wr))
  case atStart => exact HP0
  case round =>
    clear HP0
    have HP := hrel
    clear hrel
    obtain ⟨j, N, hNM, hmr, hbd, hfr⟩ := HP.out
    obtain ⟨gv, bm, m1, m2, m3, m4⟩ := hmr.ex
    obtain ⟨ga, gc, rfl, -, -, -, -⟩ := m2.dr
    obtain ⟨gn, hgn⟩ : ∃ gn, gn = (itP f j s).1.length := ⟨_, rfl⟩
    rw [← hgn] at m1
    have c1 : wr.cell? ⟨k, 1, none⟩ = some (.slice ga gn gc) := (cell_of_row wr k 1 _ _ _ m1).trans rfl
    have c2 : wr.cell? ⟨k, 2, none⟩ = some (.map bm) := (cell_of_row wr k 2 _ _ _ m1).trans rfl
    have hgb : gn ≤ 100000000 := by have h1 := hbd.len; have h2 := HMM.out; omega
    have HGN := Lib.hid hgn
    have HMR := Lib.hid hmr
    have HBD2 := Lib.hid hbd
    have HFR := Lib.hid hfr
    have HNM := Lib.hid hNM
    have HM4 := Lib.hid (m4.imp id fun ⟨m, n, D, e1, e2, e3, e4⟩ => (⟨m, n, D, e1, e2, e4⟩ : ∃ m n D, bm = some m ∧ n ≤ N ∧ BM wr m n D (itP f j s).2))
    clear hgn hmr hbd hfr hNM m1 m2 m3 m4
    by_cases h0 : gn = 0
    · subst h0
      have HSO := Lib.hid (sortb_c HM4.out (by have h1 := HNM.out; have h2 := HMM.out; omega))
      go_wp2_with fail
      refine HSO.out.mono ?_
      rintro e3 w3 ⟨av, nv, cv, dv, rfl, q1, q2, q3, q4, q5⟩
      have HQ := Lib.hid (show OwE w3 wr.heap.size (.slice av nv cv) dv ∧ SrtD dv ∧ (∀ s ∈ dv, D32 s) ∧ (∀ s', D32 s' → (s' ∈ dv ↔ (itP f j s).2 s' = true)) ∧ Below wr.heap.size wr w3 from ⟨q1, q2, q3, q4, q5⟩)
      clear q1 q2 q3 q4 q5 HSO c1 c2
      go_wp2_with fail
      go_ret
      obtain ⟨q1, q2, q3, q4, q5⟩ := HQ.out
      have hw : Below w.heap.size w wr := HB1.out.trans (HFR.out.below (B := w.heap.size) HB1.out.size (fun j hj => (HOB.out j hj).1))
      refine ⟨j, ?_, av, nv, cv, dv, rfl, OwnD.base q1 hw.size, q2, q3, ?_, hw.trans (q5.mono hw.size)⟩
      · rw [← HSS.out]
        exact List.eq_nil_of_length_eq_zero HGN.out.symm
      · rw [← HSS.out]
        exact q4
    · have h1 : 1 ≤ gn := by omega
      obtain ⟨d, r, hdr⟩ : ∃ d r, (itP f j s).1 = d :: r := by
        cases hg : (itP f j s).1 with
        | nil => have := HGN.out; rw [hg] at this; simp at this; omega
        | cons d r => exact ⟨d, r, rfl⟩
      have HDR := Lib.hid hdr
      have hmr2 := HMR.out
      rw [hdr] at hmr2
      have hbd2 := HBD2.out
      rw [hdr] at hbd2
      obtain ⟨hk1, hbd3⟩ := hbd2.look (hmr2.d32 d (List.mem_cons_self ..))
      have HLK := Lib.hid (look_c hmr2 (HG1.out.fr HFR.out HVO.out) (fun i hv hi => by
          rcases hi with hi | hi
          · exact HVO.out i hv hi
          · have := (HG1.out.vb i hv).2
            omega) (Nat.le_trans HB1.out.size HFR.out.size) (by have h1 := HNM.out; have h2 := HMM.out; omega) (by have h1 := hbd2.len; rw [List.length_cons] at h1; have h2 := HNM.out; have h3 := HMM.out; omega) HFL.out)
      have HBD3 := Lib.hid hbd3
      have HK1 := Lib.hid hk1
      clear hdr hmr2 hbd2 hbd3 hk1 h0
      go_wp2_with fail
      refine HLK.out.mono ?_
      rintro e2 w2 ⟨rfl, hmk, hfr2⟩
      have HPN := Lib.hid (show RcI w.heap.size M k g O w1 f s (gk - 1) w2 from by
        have e0 : itP f (j + 1) s = lookP f (d :: r) (itP f j s).2 := by rw [itP_succ, HDR.out]
        have hf2 : Fr O w1 w2 := HFR.out.trans hfr2 fun i hi e => ext_old i hi e
        refine ⟨j + 1, N + 1, by have h1 := HNM.out; have h2 := HK1.out; omega, ?_, ?_, hf2⟩
        · rw [e0]
          exact hmk.more (ext_ext HFR.out.size hfr2.size) (ext_ob HOB.out HB1.out.size hf2.size) (Nat.le_refl _)
        · rw [e0]
          exact HBD3.out)
      have hgk : gk - 1 < gk := by have := HK1.out; omega
      clear HLK hmk hfr2 c1 c2
      go_wp2_with fail
      go_roundg (gk - 1)
      case measure => exact hgk
      case rel => exact HPN
end Go.Proofs.Ytpppffgchgcghaa
