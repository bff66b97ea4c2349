/-
  The walks over SplitSeq at one byte, its closure, and the program's names of repositories.
-/
import Derived.Test.YtjjkfbebaoikbaaDoorNms
namespace Go.Proofs.YtjjkfbebaoikbaaDoor
set_option linter.unusedVariables false
open Go.RowKit Go.Shelf Go.Proofs.Nm
attribute [local go_sem] Oper.semAt_some
theorem index_c (l : List UInt8) (x : UInt8) (w : World) (hl : l.length ≤ 140737488351232) :
    Calls Tryd.prog 56 #[.string (T l), .string ⟨#[x]⟩] w fun e w' => e = .returned (.int .i64 (Lib.indexByte l x)) ∧ w' = w := by
  have H := Lib.hid (fun W => index1_c l x W hl)
  go_enter Tryd.func56, Tryd.ntmps56
  go_wp2_with (go_at_call 63; refine (H.out _).mono ?_; rintro e w' ⟨rfl, rfl⟩)
  go_ret
  exact ⟨rfl, rfl⟩
/-- the three boxes of the closure: the separator, the text that is left, 0 -/
def Bxs (sb : Nat) (rest : List UInt8) (W : World) : Prop :=
  W.cell? ⟨sb + 1, 0, none⟩ = some (.string ⟨#[47]⟩) ∧ W.cell? ⟨sb, 0, none⟩ = some (.string (T rest)) ∧ W.cell? ⟨sb + 2, 0, none⟩ = some (.int .i64 0) ∧ W.frozen? ⟨sb, 0, none⟩ = false
theorem Bxs.below {sb B : Nat} {rest : List UInt8} {W W' : World} (h : Bxs sb rest W) (hb : Below B W W') (hs : sb + 2 < B) : Bxs sb rest W' :=
  ⟨(hb.cell (p := ⟨sb + 1, 0, none⟩) (by show sb + 1 < B; omega)).trans h.1, (hb.cell (p := ⟨sb, 0, none⟩) (by show sb < B; omega)).trans h.2.1, (hb.cell (p := ⟨sb + 2, 0, none⟩) (by show sb + 2 < B; omega)).trans h.2.2.1,
    (hb.frozen (p := ⟨sb, 0, none⟩) (by show sb < B; omega)).trans h.2.2.2⟩
theorem Bxs.set {sb : Nat} {rest : List UInt8} {W : World} (h : Bxs sb rest W) (r : List UInt8) : Bxs sb r (W.setCell ⟨sb, 0, none⟩ (.string (T r))) := by
  refine ⟨?_, ?_, ?_, ?_⟩
  · exact (World.cell?_setCell_other _ _ _ _ (by simp)).trans h.1
  · exact World.cell?_setCell_same' _ _ _ (by rw [h.2.1]; rfl)
  · exact (World.cell?_setCell_other _ _ _ _ (by simp)).trans h.2.2.1
  · rw [World.frozen?_setCell]; exact h.2.2.2

set_option maxRecDepth 100000 in
set_option maxHeartbeats 4000000 in
theorem splits_c (F : Fence) (n : Nat) (hF : F = Fence.wide) (hn : 2 ≤ n) (sb B l : Nat) (hsb : sb + 2 < B) (L : List UInt8) (hL : L.length ≤ 140737488351232) (Px : List UInt8 → Prop) (hP : ∀ p ∈ splitL 47 L, Px p) (J Jx : List (List UInt8) → World → Prop) (W : World)
    (hJ : ∀ s W v, J s W → J s (W.setCell ⟨sb, 0, none⟩ v))
    (hY : ∀ pre x W1, J pre W1 → Px x → YieldAt F (n - 1) Tryd.prog l #[.string (T x)] W1 fun e W' => (e = .returned (.bool true) ∧ J (pre ++ [x]) W' ∧ Below B W1 W') ∨ (e = .returned (.bool false) ∧ Jx (pre ++ [x]) W'))
    (hB : Bxs sb L W) (h0 : J [] W) :
    CallsIn F n Tryd.prog 54 (#[.func (.yield l) #[] #[]] ++ #[.pointer (some ⟨sb + 1, 0, none⟩), .pointer (some ⟨sb, 0, none⟩), .pointer (some ⟨sb + 2, 0, none⟩)]) W fun e W' => (∃ v, e = .returned v) ∧ (J (splitL 47 L) W' ∨ ∃ pre, Jx pre W') := by
  subst hF
  have HB := hB
  obtain ⟨h1, h2, h3, h4⟩ := hB
  refine callsIn_of_wp Tryd.func54 rfl trivial ?_ rfl
  simp only [Tryd.ntmps54, List.size_toArray, List.length_cons, List.length_nil, Nat.reduceAdd, Nat.reduceSub, Array.replicate_succ, Array.replicate_zero, List.push_toArray, List.append_toArray, List.nil_append, List.cons_append]
  gi_wp2
  gi_loopw [7, 8] (fun u v wr => ∃ (pre : List (List UInt8)) (rest : List UInt8), rest.length ≤ L.length ∧ Hid (splitL 47 L = pre ++ splitL 47 rest) ∧ Hid (J pre wr) ∧ Hid (Bxs sb rest wr)) (fun _ _ wr => match wr.cell? ⟨sb, 0, none⟩ with | some (.string s) => s.size | _ => 0)
  case atStart => exact ⟨[], L, Nat.le_refl _, Lib.hid rfl, Lib.hid h0, Lib.hid HB⟩
  case round =>
    clear h1 h2 h3 h4 HB h0
    obtain ⟨pre, rest, hr, HS, HJ, HX⟩ := hrel
    obtain ⟨h1, h2, h3, h4⟩ := HX.out
    have HI := Lib.hid (fun W => index_c rest 47 W (by omega))
    rcases cutL_back 47 rest with ⟨r, hr2, he⟩ | ⟨hn2, he, hx⟩
    · obtain ⟨p, hp⟩ : ∃ p, p = (cutL 47 rest).1 := ⟨_, rfl⟩
      have hnp := cutL_not 47 rest
      rw [← hp] at he hnp
      have HS2 := Lib.hid (show splitL 47 L = (pre ++ [p]) ++ splitL 47 r by rw [HS.out, he, splitL_some 47 p r hnp]; simp)
      rw [ixb, if_pos (by rw [he]; simp), ← hp] at HI
      have hz : (T rest).size = p.length + (r.length + 1) := by rw [he]; simp [ByteArray.size]
      have hpl : p.length + 1 ≤ rest.length := by rw [he]; simp
      have HP := Lib.hid (hP p (by rw [HS2.out]; simp))
      have HE := Lib.hid he
      have hX1 : (T rest).extract 0 p.length = T p := T_eq (by rw [Lib.extract_data, he]; simp)
      have hX2 : (T rest).extract (p.length + 1) (p.length + (r.length + 1)) = T r := T_eq (by rw [← hz, Lib.extract_to_end, he]; simp)
      have hrl : r.length < rest.length := by rw [he]; simp; omega
      obtain ⟨fn, tmps, assign, body, hy, hR⟩ := hY pre p wr HJ.out HP.out
      clear hr2 he hp hnp
      gi_wp2_with (refine ⟨trivial, fun _ => by omega, ?_⟩; gi_at_call 56; refine (callsIn_wide.2 (HI.out _)).mono ?_; rintro e w' ⟨rfl, rfl⟩)
      refine ⟨fun _ => by omega, ?_⟩
      refine hR.mono ?_
      rintro e W3 (⟨rfl, hJ3, hb3⟩ | ⟨rfl, hJx3⟩)
      · have HX3 := Lib.hid (HX.out.below hb3 hsb)
        have HJ3 := Lib.hid hJ3
        clear h1 h2 h3 h4 hb3 hJ3
        obtain ⟨g1, g2, g3, g4⟩ := HX3.out
        gi_wp2
        refine ⟨⟨pre ++ [p], r, by omega, HS2, Lib.hid (hJ _ _ _ HJ3.out), Lib.hid (HX3.out.set r)⟩, ?_⟩
        rw [(HX3.out.set r).2.1, HX.out.2.1]
        exact hrl
      · gi_wp2
        refine bodyPost_ret (results_none rfl _ _ _) rfl ?_
        exact ⟨⟨_, rfl⟩, .inr ⟨_, hJx3⟩⟩
    · rw [ixb, if_neg hx] at HI
      have HS2 := Lib.hid (show splitL 47 L = pre ++ [rest] by rw [HS.out, splitL_none 47 rest hx])
      have HP := Lib.hid (hP rest (by rw [HS2.out]; simp))
      obtain ⟨fn, tmps, assign, body, hy, hR⟩ := hY pre rest wr HJ.out HP.out
      clear hn2 he hx
      gi_wp2_with (refine ⟨trivial, fun _ => by omega, ?_⟩; gi_at_call 56; refine (callsIn_wide.2 (HI.out _)).mono ?_; rintro e w' ⟨rfl, rfl⟩)
      refine ⟨fun _ => by omega, ?_⟩
      refine hR.mono ?_
      rintro e W3 (⟨rfl, hJ3, hb3⟩ | ⟨rfl, hJx3⟩)
      · have HJ3 := Lib.hid hJ3
        clear hJ3 hb3 h1 h2 h3 h4
        gi_wp2
        go_end0
        exact ⟨⟨_, rfl⟩, .inl (by rw [HS2.out]; exact HJ3.out)⟩
      · have HJ3 := Lib.hid hJx3
        clear hJx3 h1 h2 h3 h4
        gi_wp2
        go_end0
        exact ⟨⟨_, rfl⟩, .inr ⟨_, HJ3.out⟩⟩
/-- SplitSeq lays its three boxes -/
theorem seq_c (L : List UInt8) (w : World) :
    Calls Tryd.prog 42 #[.string (T L), .string ⟨#[47]⟩] w fun e w' => e = .returned (.func (.func 54) #[] #[.pointer (some ⟨w.heap.size + 1, 0, none⟩), .pointer (some ⟨w.heap.size, 0, none⟩), .pointer (some ⟨w.heap.size + 2, 0, none⟩)]) ∧ Bxs w.heap.size L w' ∧ Below w.heap.size w w' ∧ w'.heap.size = w.heap.size + 3 := by
  have HS : Calls Tryd.prog 50 #[.string (T L), .string ⟨#[47]⟩, .int .i64 0] w fun e w' => e = .returned (.func (.func 54) #[] #[.pointer (some ⟨w.heap.size + 1, 0, none⟩), .pointer (some ⟨w.heap.size, 0, none⟩), .pointer (some ⟨w.heap.size + 2, 0, none⟩)]) ∧ Bxs w.heap.size L w' ∧ Below w.heap.size w w' ∧ w'.heap.size = w.heap.size + 3 := by
    go_enter Tryd.func50, Tryd.ntmps50
    go_wp2
    go_ret
    refine ⟨rfl, ?_, ?_, ?_⟩
    · have c0 := cellNew w (.string (T L)) 9
      have c1 := cellNew (w.alloc (.cells #[.string (T L)] 9)) (.string ⟨#[47]⟩) 9
      have c2 := cellNew ((w.alloc (.cells #[.string (T L)] 9)).alloc (.cells #[.string ⟨#[47]⟩] 9)) (.int .i64 0) 3
      simp only [World.size_alloc] at c1 c2
      exact ⟨cellLater _ c1.1, cellLater _ (cellLater _ c0.1), c2.1, frozenLater _ (cellLater _ c0.1) (frozenLater _ c0.1 c0.2)⟩
    · exact (((Below.refl _ w).alloc (Nat.le_refl _) _).alloc (by simp) _).alloc (by simp; omega) _
    · simp
  go_enter Tryd.func42, Tryd.ntmps42
  go_wp2_with (go_at_call 50; refine HS.mono ?_; rintro e w' ⟨rfl, h1, h2, h3⟩; have H1 := Lib.hid h1; have H2 := Lib.hid h2; have H3 := Lib.hid h3; clear h1 h2 h3)
  go_ret
  exact ⟨rfl, H1.out, H2.out, H3.out⟩

set_option maxRecDepth 100000 in
set_option maxHeartbeats 4000000 in
theorem repo_c (l : List UInt8) (w : World) (hl : l.length ≤ 140737488351232) :
    Calls Tryd.prog 29 #[.string (T l)] w fun e w' => e = .returned (.bool (goR 0 l && decide (l.length ≤ 128))) ∧ Below w.heap.size w w' := by
  have hz : (T l).size = l.length := by simp [ByteArray.size]
  have HZ := Lib.hid hz
  clear hz
  by_cases h128 : l.length ≤ 128
  · have h128' : (l.length : Int) ≤ 128 := by omega
    have HR := Lib.hid (show (goR 0 l && decide (l.length ≤ 128)) = (splitL 47 l).all (goR 2) by rw [decide_eq_true h128, Bool.and_true, goR_split])
    rw [HR.out]
    clear HR h128
    have HSP := Lib.hid (fun W => seq_c l W)
    refine (callsIn_wide (n := 3)).1 ?_
    refine callsIn_of_wp_marks Tryd.func29 rfl trivial ?_ rfl
    simp only [Tryd.ntmps29, List.size_toArray, List.length_cons, List.length_nil, Nat.reduceAdd, Nat.reduceSub, Array.replicate_succ, Array.replicate_zero, List.push_toArray, List.append_toArray, List.nil_append, List.cons_append]
    gi_wp2_with (refine ⟨trivial, ?_⟩; gi_at_call 42; refine (callsIn_wide.2 (HSP.out _)).mono ?_; rintro e w1 ⟨rfl, hb1, hb2, hb3⟩; have H1 := Lib.hid hb1; have H2 := Lib.hid hb2; have H3 := Lib.hid hb3; clear hb1 hb2 hb3)
    obtain ⟨R, hR⟩ : ∃ R, R = w.heap.size := ⟨_, rfl⟩
    have c0 := cellNew w (.bool false) 4
    have hw1 : w1.heap.size = R + 4 := by rw [H3.out, hR]; simp
    have hB0 : Below R w w1 := by rw [hR]; exact ((Below.refl _ w).alloc (Nat.le_refl _) _).trans (H2.out.mono (by simp))
    have hX : Bxs (R + 1) l w1 := by have := H1.out; simp only [World.size_alloc] at this; rw [hR]; exact this
    have hc1 : w1.cell? ⟨R, 0, none⟩ = some (.bool false) := by rw [hR]; exact (H2.out.cell (p := ⟨w.heap.size, 0, none⟩) (by simp)).trans c0.1
    have hf1 : w1.frozen? ⟨R, 0, none⟩ = false := by rw [hR]; exact (H2.out.frozen (p := ⟨w.heap.size, 0, none⟩) (by simp)).trans c0.2
    have HR := Lib.hid hR
    rw [← hR]
    clear hR c0 H1 H2 H3
    refine range_box (F := Fence.wide) (n := 3) rfl (by omega) (gf := 54) (lb := #[.pointer (some ⟨R + 1 + 1, 0, none⟩), .pointer (some ⟨R + 1, 0, none⟩), .pointer (some ⟨R + 1 + 2, 0, none⟩)]) rfl trivial (enters_of Tryd.func54 (by kernel_rfl) rfl)
      (enc := fun x => .string (T x)) (R + 1) (splitL 47 l) (fun x => x ∈ splitL 47 l) rfl
      (fun l' J Jx W hW hJ hY h0 => splits_c Fence.wide 2 rfl (by omega) (R + 1) w1.heap.size l' (by rw [hw1]; omega) l hl (fun x => x ∈ splitL 47 l) (fun p hp => hp) J Jx W hJ hY (hX.below hW (by rw [hw1]; omega)) h0)
      (fun pre W => (W.cell? ⟨R, 0, none⟩ = some (.bool false) ∧ W.frozen? ⟨R, 0, none⟩ = false ∧ (∀ p ∈ pre, goR 2 p = true)) ∧ Below R w1 W)
      (fun pre W => (W.cell? ⟨R, 0, none⟩ = some (.bool false) ∧ ∃ p ∈ splitL 47 l, goR 2 p = false) ∧ Below R w1 W)
      (OwnFrom.and (Own.from (fun s A B row hs hg hr => ⟨cell_kept hs.1 hg hr, (frozen_kept hs.1 hg hr).trans hs.2.1, hs.2.2⟩) _) (ownFrom_below (by rw [hw1]; omega) (by rw [hw1]; omega)))
      (OwnFrom.and (Own.from (fun s A B row hs hg hr => ⟨cell_kept hs.1 hg hr, hs.2⟩) _) (ownFrom_below (by rw [hw1]; omega) (by rw [hw1]; omega)))
      (fun s W v hs => ⟨⟨(World.cell?_setCell_other _ _ _ _ (by simp)).trans hs.1.1, (World.frozen?_setCell _ _ _ _).trans hs.1.2.1, hs.1.2.2⟩, hs.2.setCell (p := ⟨R + 1, 0, none⟩) (by show R ≤ R + 1; omega) _⟩)
      ⟨⟨hc1, hf1, by simp⟩, Below.refl _ _⟩
      (fun x => { tmps := #[.string (T l), undef, .pointer (some ⟨R, 0, none⟩), .string (T x), .string (T l), .int .i64 l.length, .bool (decide (128 < (l.length : Int))), .string (T l),
        .func (.func 54) #[] #[.pointer (some ⟨R + 1 + 1, 0, none⟩), .pointer (some ⟨R + 1, 0, none⟩), .pointer (some ⟨R + 1 + 2, 0, none⟩)], .string (T x), undef, undef, undef], defers := [] }) ?assign ?body ?done ?stop
    case assign =>
      intro l' x W K hK
      gi_wp2
      exact hK
    case body =>
      rintro l' pre x W ⟨⟨hc, hf, hp⟩, hB⟩ hx
      have hsz := hB.size
      have hRW : R < W.heap.size := by omega
      have HC := Lib.hid (show W.cell? ⟨R, 0, none⟩ = some (.bool false) ∧ W.frozen? ⟨R, 0, none⟩ = false from ⟨hc, hf⟩)
      have HP2 := Lib.hid hp
      have HX := Lib.hid hx
      have hxn := splitL_mem 47 l x hx
      have hxl := splitL_len 47 l x hx
      have HP := Lib.hid (fun W => part_c x W (by omega) hxn)
      clear hc hf hp hx hxn
      cases hg : goR 2 x with
      | true =>
        rw [hg] at HP
        have HG := Lib.hid hg
        clear hg
        gi_wp2_with (refine ⟨trivial, ?_⟩; gi_at_call 43; refine (CallsIn.inRound l' (callsIn_wide.2 (HP.out _))).mono ?_; rintro e w2 ⟨rfl, hb⟩; have HB := Lib.hid hb; clear hb)
        refine ⟨keepsBelow HB.out, HB.out.mono hsz, ⟨(HB.out.cell (p := ⟨R, 0, none⟩) hRW).trans HC.out.1, (HB.out.frozen (p := ⟨R, 0, none⟩) hRW).trans HC.out.2, ?_⟩, hB.trans (HB.out.mono (by omega))⟩
        intro p hp
        rcases List.mem_append.1 hp with h | h
        · exact HP2.out p h
        · obtain rfl : p = x := by simpa using h
          exact HG.out
      | false =>
        rw [hg] at HP
        have HG := Lib.hid hg
        clear hg
        gi_wp2_with (refine ⟨trivial, ?_⟩; gi_at_call 43; refine (CallsIn.inRound l' (callsIn_wide.2 (HP.out _))).mono ?_; rintro e w2 ⟨rfl, hb⟩; have HB := Lib.hid hb; have hc2 := (hb.cell (p := ⟨R, 0, none⟩) hRW).trans HC.out.1; have hf2 := (hb.frozen (p := ⟨R, 0, none⟩) hRW).trans HC.out.2; clear hb)
        refine ⟨(keepsBelow HB.out).trans (KeepsOthers.setCell _ _ _), ⟨World.cell?_setCell_same' _ _ _ (by rw [hc2]; rfl), x, HX.out, HG.out⟩, (hB.trans (HB.out.mono (by omega))).setCell (p := ⟨R, 0, none⟩) (Nat.le_refl _) _⟩
    case done =>
      rintro D W hD ⟨⟨hc, hf, hp⟩, hB⟩ hK
      have HP := Lib.hid hp
      clear hp
      gi_wp2
      have hK' := (KeepsOthers.setCell W ⟨R, 0, none⟩ (.bool true)).same D _ hK rfl
      refine ⟨by simp, .inl ⟨_, _, rfl, run_takeDeferred hK', ?_⟩⟩
      have hc5 := cell_kept (World.cell?_setCell_same' W ⟨R, 0, none⟩ (.bool true) (by rw [hc]; rfl)) (grownBy_putObj' _ D (.deferred none)) (fun r e => by cases e; exact ⟨_, hK', rfl⟩)
      refine ⟨.bool true, ?_, by rw [List.all_eq_true.2 HP.out], ?_⟩
      · simp [results, Tryd.f29, go_sem, hc5]
      · have hb := ((hB0.trans hB).setCell (p := ⟨R, 0, none⟩) (Nat.le_refl _) (.bool true)).trans (belowK_b (n₀ := R) (w := w1) (by omega) _ D _ (.deferred none) hD hK' rfl rfl)
        rw [HR.out] at hb ⊢
        exact hb
    case stop =>
      rintro D pre W hD ⟨⟨hc, hp⟩, hB⟩ hK
      have HP := Lib.hid hp
      clear hp
      gi_wp2
      refine ⟨by simp, .inl ⟨_, _, rfl, run_takeDeferred hK, ?_⟩⟩
      have hc5 := cell_kept hc (grownBy_putObj' _ D (.deferred none)) (fun r e => by cases e; exact ⟨_, hK, rfl⟩)
      refine ⟨.bool false, ?_, ?_, ?_⟩
      · simp [results, Tryd.f29, go_sem, hc5]
      · obtain ⟨p, h1, h2⟩ := HP.out
        refine congrArg (fun b => Ending.returned (.bool b)) (Eq.symm ?_)
        rw [List.all_eq_false]
        exact ⟨p, h1, by simp [h2]⟩
      · have hb := (hB0.trans hB).trans (belowK_b (n₀ := R) (w := w1) (by omega) _ D _ (.deferred none) hD hK rfl rfl)
        rw [HR.out] at hb
        exact hb
  · have h128' : 128 < (l.length : Int) := by omega
    have HR := Lib.hid (show (goR 0 l && decide (l.length ≤ 128)) = false by rw [decide_eq_false h128, Bool.and_false])
    rw [HR.out]
    clear HR h128
    go_enter Tryd.func29, Tryd.ntmps29
    go_wp2
    exact bodyPost_ret (v := .bool false) (by simp [results, Tryd.f29, go_sem]) rfl ⟨rfl, (Below.refl _ w).alloc (Nat.le_refl _) _⟩
end Go.Proofs.YtjjkfbebaoikbaaDoor
