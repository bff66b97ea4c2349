/-
  How many nodes lead to a sum.
-/
import Derived.Test.YtpppffgchgcghaaGrk
namespace Go.Proofs.Ytpppffgchgcghaa
open Go.RowKit Go.Maps
set_option linter.unusedVariables false
def leads (f : List Nat → Option Ds) (d s : List Nat) : Prop := d ∈ (f s).getD []
/-- so far as the map has told its entries -/
structure RfI (B N : Nat) (V : Nat → Prop) (m n : Nat) (D : DV) (f : List Nat → Option Ds) (d : List Nat) (r : Nat) (w : World) (v : Value) (wr : World) : Prop where
  ex : ∃ (left : Lit → Bool) (cnt : Nat) (cs : List (List Nat)), wr.ranges Try.prog 42 rowG m r n D left cnt ∧ v = .int .i64 (cs.length : Nat) ∧ cs.Nodup ∧ (∀ s ∈ cs, D32 s) ∧ (∀ s, D32 s → (s ∈ cs ↔ ((f s).isSome = true ∧ leads f d s) ∧ left (keyD s) = false)) ∧ cs.length + cnt ≤ Maps.size D
  bel : Below w.heap.size w wr
theorem rowG_mkG (c : Option (Nat × Nat × Nat)) : ∃ a n k, mkG c = .slice a n k := by
  cases c with
  | none => exact ⟨_, _, _, rfl⟩
  | some x => exact ⟨_, _, _, rfl⟩
set_option maxRecDepth 100000 in
/-- an entry of the map, told -/
theorem RfI.told {B m n : Nat} {V : Nat → Prop} {D : DV} {f : List Nat → Option Ds} {w : World} (hg : GM B V w m n D f) {left : Lit → Bool} {cs : List (List Nat)} {x d : List Nat} {kl : Lit} (hkey : keyOf Try.prog 42 (dgV x) = some kl) (hl : left kl = true) {y : DV × List MemPlace} (hat : ∀ zd, D.atKey kl zd = y.1) {c0 : Option (Nat × Nat × Nat)} (hv : rowG (mkG c0) = some y)
    (hmem : ∀ s, D32 s → (s ∈ cs ↔ ((f s).isSome = true ∧ leads f d s) ∧ left (keyD s) = false)) : D32 x ∧ x ∉ cs ∧ (f x).isSome = true ∧ OwE w B (mkG c0) ((f x).getD []) ∧ (∀ e ∈ (f x).getD [], D32 e) ∧ ∀ p : Bool, (p = true ↔ leads f d x) → ∀ s, D32 s → (s ∈ (if p then cs ++ [x] else cs) ↔ ((f s).isSome = true ∧ leads f d s) ∧ (fun z : Lit => left z && !z.sameKey kl) (keyD s) = false) := by
  obtain ⟨xs, hxs, e1⟩ := key_inv hkey
  have e2 : x = xs := cellsOf_inj (by simpa [dgV] using e1)
  subst e2
  have ek : kl = keyD x := by
    have := hkey.symm.trans (keyOkD hxs)
    exact Option.some.inj this
  subst ek
  have hb : Maps.has D (keyD x) = true := by
    cases hh : Maps.has D (keyD x) with
    | true => rfl
    | false =>
      have a1 := hat .nil
      have a2 := hat (.lit (.bool true))
      rw [atKey_of_not_has hh] at a1 a2
      rw [← a1] at a2
      cases a2
  have hnx : x ∉ cs := fun hm => by
    have := ((hmem x hxs).1 hm).2
    rw [hl] at this
    cases this
  rcases hg.vs x hxs with ⟨h1, h2⟩ | ⟨v0, zs, h1, h2, h3, h4, h5, h6⟩
  · rw [hb] at h1; cases h1
  · have hvv : mkG c0 = v0 := by
      rw [hat .nil] at h3
      obtain ⟨y1, y2⟩ := y
      exact rowG_inj hv h3
    refine ⟨hxs, hnx, by rw [h1]; rfl, by rw [hvv, h1]; exact h4, by rw [h1]; exact h5, fun p hp s hs => ?_⟩
    have h7 := hmem s hs
    have hfx : (f x).isSome = true := by rw [h1]; rfl
    cases p with
    | true =>
      have hlx := hp.1 rfl
      simp only [if_true, List.mem_append, List.mem_singleton, keyD_same hs hxs]
      by_cases es : s = x
      · subst es
        simp [hfx, hlx]
      · simp [es, h7]
    | false =>
      have hlx : ¬ leads f d x := fun e => by have := hp.2 e; cases this
      simp only [Bool.false_eq_true, if_false, keyD_same hs hxs]
      by_cases es : s = x
      · subst es
        simp [hnx, hlx]
      · simp [es, h7]
def RefsR (f : List Nat → Option Ds) (d : List Nat) (w : World) (e : Ending) (w' : World) : Prop := ∃ cs : List (List Nat), e = .returned (.int .i64 (cs.length : Nat)) ∧ cs.Nodup ∧ (∀ s ∈ cs, D32 s) ∧ (∀ s, D32 s → (s ∈ cs ↔ (f s).isSome = true ∧ leads f d s)) ∧ Below w.heap.size w w'
set_option maxRecDepth 100000 in
set_option maxHeartbeats 8000000 in
theorem refs_c {B N g : Nat} {V : Nat → Prop} {w : World} {f : List Nat → Option Ds} (h : GR B N V w g f) (hN : N ≤ 1000000000) (hfl : ∀ s ts, f s = some ts → ts.length ≤ 1000000) {d : List Nat} (hd : D32 d) : Calls Try.prog 19 #[.pointer (some ⟨g, 0, none⟩), .agg (cellsOf d).toArray] w (RefsR f d w) := by
  obtain ⟨mb, h1, h2⟩ := h.ex
  have hgl := (h.vb g h.own).2
  have HSD := Lib.hid hd
  rcases h2 with ⟨rfl, h3⟩ | ⟨m, n, D, rfl, hn, hm⟩
  · have c1 : w.cell? ⟨g, 0, none⟩ = some (.map none) := (cell_of_row w g 0 _ _ _ h1).trans rfl
    have hrg := fun W => run_range_nilMap (P := Try.prog) W 70 42 38 Try.underlying70
    have hnx : ∀ (W : World) ty, (Instr.next (.pointer (some ⟨W.heap.size, 0, none⟩)) false ty).run Try.prog (W.alloc (.mapIter none 0 #[] 0)) = _ := fun W ty => run_next_nilMap W ty 0 0 #[]
    have H3 := Lib.hid h3
    clear h h1 h3 hd
    go_enter Try.func19, Try.ntmps19
    go_upto_region 1 with fail
    obtain ⟨w1, hw1⟩ : ∃ w1, w1 = w.alloc (.cells (cellsOf d).toArray 42) := ⟨_, rfl⟩
    rw [← hw1]
    have hb1 : Below w.heap.size w w1 := by rw [hw1]; exact (Below.refl _ _).alloc (Nat.le_refl _) _
    have HB1 := Lib.hid hb1
    have c2 : w1.cell? ⟨g, 0, none⟩ = some (.map none) := (hb1.cell (p := ⟨g, 0, none⟩) hgl).trans c1
    clear hw1 hb1 c1
    go_wp2_with fail
    refine wp_loop_rounds 1 ?_
    rw [rounds_succ]
    go_wp2_with fail
    go_ret
    exact ⟨[], rfl, List.nodup_nil, by simp, fun s hs => by rw [H3.out s]; simp, HB1.out.alloc HB1.out.size _⟩
  · have c1 : w.cell? ⟨g, 0, none⟩ = some (.map (some m)) := (cell_of_row w g 0 _ _ _ h1).trans rfl
    have HGM := Lib.hid hm
    have HVB := Lib.hid h.vb
    have hszD := hm.mp.size_le
    have hzb : Maps.size D ≤ 1000000000 := by omega
    have hml := (h.vb m hm.vm).2
    have HFL := Lib.hid hfl
    clear h h1 hd hn hszD hm hfl
    go_enter Try.func19, Try.ntmps19
    obtain ⟨X, hX⟩ : ∃ X, X = w.heap.size := ⟨_, rfl⟩
    go_upto_region 1 with fail
    obtain ⟨w1, hw1⟩ : ∃ w1, w1 = w.alloc (.cells (cellsOf d).toArray 42) := ⟨_, rfl⟩
    rw [← hX]
    rw [← hw1]
    have hb1 : Below w.heap.size w w1 := by rw [hw1]; exact (Below.refl _ _).alloc (Nat.le_refl _) _
    have HB1 := Lib.hid hb1
    have HX1 := Lib.hid (show w1.heap[X]? = some (.cells (cellsOf d).toArray 42 (0, 0)) from by rw [hw1, hX]; exact heap_alloc_new w _)
    have HG1 := Lib.hid (show GM B V w1 m n D f from HGM.out.keep fun k hk _ => hb1.block k hk)
    have c2 : w1.cell? ⟨g, 0, none⟩ = some (.map (some m)) := (hb1.cell (p := ⟨g, 0, none⟩) hgl).trans c1
    have HVL := Lib.hid (show ∀ j, V j → j < w1.heap.size from fun j hj => Nat.lt_of_lt_of_le (HVB.out j hj).2 hb1.size)
    clear hw1 hX hb1 c1
    go_wp2_with (first | (at_range; refine wpList_range_own _ rfl _ 70 rfl 42 38 gLaw Try.underlying70 rowG m n D rfl HG1.out.mp ?_; intro w0 hrg0 hg0 hs0) | fail)
    have HP0 := Lib.hid (show RfI B N V m n D f d w1.heap.size w1 (.int .i64 0) w0 from ⟨⟨_, _, [], hrg0, rfl, List.nodup_nil, by simp, fun s hs => ⟨fun h => (by cases h), fun ⟨⟨h1, _⟩, h2⟩ => (by rw [HG1.out.hasF hs, h1] at h2; cases h2)⟩, by simp⟩, (Below.refl _ _).grown hg0 (Nat.le_refl _) (fun k e => by cases e)⟩)
    clear hrg0 hg0 hs0 c2
    try go_frame
    go_loopw [5] (fun v wr => Hid (RfI B N V m n D f d w1.heap.size w1 v wr)) (fun _ wr => wr.rangeLeft m w1.heap.size)
    case atStart => exact HP0
    case round =>
      clear HP0
      have HS := hrel
      obtain ⟨left, cnt, cs, hrg, hvv, hnd, hcd, hmem, hcl⟩ := HS.out.ex
      subst hvv
      have hcs : cs.length ≤ 1000000000 := by omega
      obtain ⟨cl, hcl2⟩ : ∃ cl, cl = cs.length := ⟨_, rfl⟩
      rw [← hcl2] at hcs
      rw [← hcl2]
      have HCL := Lib.hid (And.intro hcl hcl2)
      have HRG := Lib.hid hrg
      have HND := Lib.hid hnd
      have HCD := Lib.hid hcd
      have HMEM := Lib.hid hmem
      have HBE := Lib.hid HS.out.bel
      clear hrg hnd hcd hmem hcl HS hrel hcl2
      go_wp2_with (first | (at_next; refine wpList_next_ranges _ rfl _ rfl 42 gLaw rowG dgV mkG (fun key kl hk => by obtain ⟨s, _, e1⟩ := key_inv hk; exact ⟨s, e1⟩) (fun v y h => rowG_mk v y h) m w1.heap.size n D left cnt rfl HRG.out ?_ ?_) | fail)
      · intro hc0 hl0
        have HL0 := Lib.hid (show ∀ s, D32 s → (s ∈ cs ↔ (f s).isSome = true ∧ leads f d s) from fun s hs => by rw [HMEM.out s hs]; simp [hl0])
        clear hc0 hl0
        go_wp2_with fail
        go_ret
        exact ⟨cs, by rw [← HCL.out.2]; rfl, HND.out, HCD.out, HL0.out, HB1.out.trans (HBE.out.mono HB1.out.size)⟩
      · intro x c0 kl y ps w2 cnt1 hkey hlk hv hat hrg1 hlt hg1 hs1 hen
        have hGr : GM B V wr m n D f := HG1.out.keep fun k hk _ => HBE.out.block k hk
        obtain ⟨hxd, hnx, hfx, how, hod, hmem2⟩ := RfI.told (y := (y, ps)) (d := d) hGr hkey hlk hat hv HMEM.out
        obtain ⟨va, vn, vk, ev⟩ := rowG_mkG c0
        have hen2 : (Instr.entry (.pointer (some ⟨w1.heap.size, 0, none⟩))).run Try.prog w2 = .ok (.tuple #[dgV x, .slice va vn vk]) w2 := by rw [← ev]; exact hen
        rw [ev] at how ⊢
        have hlen : ((f x).getD []).length ≤ 1000000 := by
          cases hf : f x with
          | none => simp
          | some ts => exact HFL.out x ts hf
        have how2 : OwE w2 B (.slice va vn vk) ((f x).getD []) := ownE_keep how fun k hk => hg1.block k (how.block k hk).2 fun e => by
          have e2 : k = w1.heap.size := Option.some.inj e
          have hne := row_ne_iter how HRG.out
          exact hne (by rw [hk, e2])
        obtain ⟨a', c', ev2, hlc, hcm, hac, hdr⟩ := how2.dr hod
        obtain ⟨en1, en2, en3⟩ := Value.slice.inj ev2
        subst en1
        subst en3
        rw [← en2] at hlc hdr
        have hvn : vn ≤ 1000000 := by omega
        have hb2 : Below w1.heap.size w1 w2 := HBE.out.trans ⟨hg1.os, hg1.tape, hg1.output, hg1.size, fun k hk => hg1.block k (Nat.lt_of_lt_of_le hk HBE.out.size) fun e => by have := Option.some.inj e; omega⟩
        have HX2 := Lib.hid (run_cell_dig w2 X d HSD.out ((hb2.block X (Array.getElem?_eq_some_iff.1 HX1.out).1).trans HX1.out))
        have HCC := Lib.hid (contains_c va vn vk _ hdr (by omega) HSD.out)
        have HRG2 := Lib.hid hrg1
        have HB2 := Lib.hid hb2
        have HM2 := Lib.hid hmem2
        have HNX := Lib.hid (And.intro hnx hxd)
        have HC2 := Lib.hid (show cs.length + 1 + cnt1 ≤ Maps.size D by have := HCL.out.1; omega)
        have HLT := Lib.hid (show w2.rangeLeft m w1.heap.size < wr.rangeLeft m w1.heap.size by rw [hrg1.left_eq, HRG.out.left_eq]; exact hlt)
        have HEN := Lib.hid hen2
        have hclb : cl + 1 ≤ 1000000000 := by have h1 := HC2.out; have h2 := HCL.out.2; omega
        clear hkey hlk hv hat hrg1 hlt hg1 hs1 hen hGr hxd hnx hfx how hod hmem2 how2 hlc hcm hac hdr hb2 HRG HMEM ev ev2 en2
        have hen2 := HEN.out
        simp only [dgV] at hen2 ⊢
        go_wp2_with (first | (refine wpList_loadg 42 _ (by rfl) (by rfl) (.pointer (some ⟨X, 0, none⟩)) (by rfl) (.agg (cellsOf d).toArray) HX2.out ?_) | fail)
        refine HCC.out.mono ?_
        rintro e3 w3 ⟨rfl, hb3⟩
        have HB3 := Lib.hid (HB2.out.trans (hb3.mono HB2.out.size))
        have HRG3 := Lib.hid (HRG2.out.kept (row := none) (w' := w3) ⟨hb3.os, hb3.tape, hb3.output, hb3.size, fun k hk _ => hb3.block k hk⟩ (by simp) (by simp))
        have HL3 := Lib.hid (show w3.rangeLeft m w1.heap.size < wr.rangeLeft m w1.heap.size by rw [HRG3.out.left_eq, ← HRG2.out.left_eq]; exact HLT.out)
        clear hb3 HCC HRG2 HEN hen2
        by_cases hp : d ∈ (f x).getD []
        · have HMP := Lib.hid (HM2.out true ⟨fun _ => hp, fun _ => rfl⟩)
          rw [decide_eq_true hp]
          clear hp
          go_wp2_with fail
          refine ⟨Lib.hid ⟨⟨_, cnt1, cs ++ [x], HRG3.out, ?_, List.nodup_append.2 ⟨HND.out, by simp, fun a ha b hb e => ?_⟩, fun s hs => ?_, HMP.out, by have := HC2.out; rw [List.length_append, List.length_singleton]; exact this⟩, HB3.out⟩, HL3.out⟩
          · rw [List.length_append, List.length_singleton, ← HCL.out.2]
            rfl
          · rw [List.mem_singleton] at hb
            subst hb
            subst e
            exact HNX.out.1 ha
          · rcases List.mem_append.1 hs with hs | hs
            · exact HCD.out s hs
            · rw [List.mem_singleton] at hs
              rw [hs]
              exact HNX.out.2
        · have HMP := Lib.hid (HM2.out false ⟨fun h => (by cases h), fun h => absurd h hp⟩)
          rw [decide_eq_false hp]
          clear hp
          go_wp2_with fail
          exact ⟨Lib.hid ⟨⟨_, cnt1, cs, HRG3.out, by rw [← HCL.out.2], HND.out, HCD.out, HMP.out, by have := HC2.out; omega⟩, HB3.out⟩, HL3.out⟩
end Go.Proofs.Ytpppffgchgcghaa
