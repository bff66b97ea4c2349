/-
  The walk over the law of Show.
-/
import Derived.Test.YtjoomfikfbbnmaaDoorNmu
namespace Go.Proofs.YtjoomfikfbbnmaaDoor
set_option linter.unusedVariables false
open Go.RowKit Go.Proofs.Nm
def ShsRet (a b : List UInt8) (p : Bool) (x : List Nat) (w : World) (e : Ending) (w' : World) : Prop := e = .returned (.tuple #[.string (T (shs a b p x).1), .int .i64 ((shs a b p x).2 : Nat)]) ∧ Below w.heap.size w w'
theorem ShsRet.mk {a b : List UInt8} {p : Bool} {x : List Nat} {w w' : World} {e : Ending} {V : List UInt8} {n : Nat} (hv : shs a b p x = (V, n)) (h : e = .returned (.tuple #[.string (T V), .int .i64 (n : Int)]) ∧ Below w.heap.size w w') : ShsRet a b p x w e w' := by
  unfold ShsRet
  rw [hv]
  exact h
theorem nshow_c (a b : List UInt8) (p : Bool) (x : List Nat) (hx : D32 x) (w : World) (hl : a.length ≤ 140737488351232) (hl2 : b.length ≤ 140737488351232) : Calls Tryd.prog 19 #[.agg (refC a b p x)] w (ShsRet a b p x w) := by
  cases hR : repoB a with
  | false => exact (ns_name a b p x hx w hl hl2 hR).mono fun e w' h => ShsRet.mk (by unfold shs; rw [hR]; rfl) h
  | true =>
    cases hb : b.isEmpty with
    | true =>
      obtain rfl : b = [] := List.isEmpty_iff.1 hb
      cases p with
      | false => exact (ns_ok10 a x hx w hl hR).mono fun e w' h => ShsRet.mk (by unfold shs; rw [hR]; rfl) h
      | true => exact (ns_ok11 a x hx w hl hR).mono fun e w' h => ShsRet.mk (by unfold shs; rw [hR]; rfl) h
    | false =>
      cases hT : tagOk b with
      | false => exact (ns_tag a b p x hx w hl hl2 hR hb hT).mono fun e w' h => ShsRet.mk (by unfold shs; rw [hR, hb, hT]; rfl) h
      | true =>
        cases p with
        | false => exact (ns_ok00 a b x hx w hl hl2 hR hb hT).mono fun e w' h => ShsRet.mk (by unfold shs; rw [hR, hT]; simp) h
        | true => exact (ns_ok01 a b x hx w hl hl2 hR hb hT).mono fun e w' h => ShsRet.mk (by unfold shs; rw [hR, hT]; simp) h
theorem rshow_c (a b : List UInt8) (p : Bool) (x : List Nat) (hx : D32 x) (w : World) (hl : a.length ≤ 140737488351232) (hl2 : b.length ≤ 140737488351232) : Calls Tryd.prog 20 #[.agg (refC a b p x)] w (ShsRet a b p x w) := by
  cases hR : repoB a with
  | false => exact (rs_name a b p x hx w hl hl2 hR).mono fun e w' h => ShsRet.mk (by unfold shs; rw [hR]; rfl) h
  | true =>
    cases hb : b.isEmpty with
    | true =>
      obtain rfl : b = [] := List.isEmpty_iff.1 hb
      cases p with
      | false => exact (rs_ok10 a x hx w hl hR).mono fun e w' h => ShsRet.mk (by unfold shs; rw [hR]; rfl) h
      | true => exact (rs_ok11 a x hx w hl hR).mono fun e w' h => ShsRet.mk (by unfold shs; rw [hR]; rfl) h
    | false =>
      cases hT : tagOk b with
      | false => exact (rs_tag a b p x hx w hl hl2 hR hb hT).mono fun e w' h => ShsRet.mk (by unfold shs; rw [hR, hb, hT]; rfl) h
      | true =>
        cases p with
        | false => exact (rs_ok00 a b x hx w hl hl2 hR hb hT).mono fun e w' h => ShsRet.mk (by unfold shs; rw [hR, hT]; simp) h
        | true => exact (rs_ok01 a b x hx w hl hl2 hR hb hT).mono fun e w' h => ShsRet.mk (by unfold shs; rw [hR, hT]; simp) h
set_option maxRecDepth 100000 in
set_option maxHeartbeats 8000000 in
theorem shows7_c (a b : List UInt8) (p : Bool) (x : List Nat) (w : World) (hx : D32 x) (hl : a.length ≤ 140737488351232) (hl2 : b.length ≤ 140737488351232) :
    Calls Tryd.prog 8 #[.agg (refC a b p x)] w fun e w' => e = .returned (.bool true) ∧ Below w.heap.size w w' := by
  have H1 := fun W => nshow_c a b p x hx W hl hl2
  have H2 := fun W => rshow_c a b p x hx W hl hl2
  unfold ShsRet at H1 H2
  obtain ⟨S, hS⟩ : ∃ S, S = (shs a b p x).1 := ⟨_, rfl⟩
  obtain ⟨n, hn⟩ : ∃ n, n = (shs a b p x).2 := ⟨_, rfl⟩
  rw [← hS, ← hn] at H1 H2
  have HN := Lib.hid H1
  have HR := Lib.hid H2
  have HBU := Lib.hid (built_r4 a b p x hx)
  have HI2 := Lib.hid (show (Tryd.prog.info? 33).map (·.size) = some (refC a b p x).size from by rw [refC_size _ _ _ hx]; exact info_r2)
  have HI32 := Lib.hid (show (Tryd.prog.info? 25).map (·.size) = some (cellsOf x).length from by rw [cellsOf_length, hx.1]; exact info_dr)
  clear H1 H2 hS hn hx
  go_enter Tryd.func8, Tryd.ntmps8
  go_upto_region 1 with (fail)
  obtain ⟨g, hg⟩ : ∃ g, g = w.heap.size := ⟨_, rfl⟩
  refine gen_code (F := SBX w g 33 (refC a b p x)) (by
    rw [hg]
    exact ⟨RR.new _ _ _, (Below.refl _ w).alloc (Nat.le_refl _) _⟩) ?_
  rw [← hg]
  rintro w0 ⟨h0, h1⟩
  have HR0 := Lib.hid h0
  have HB0 := Lib.hid h1
  have k0 := h0.c0
  have k1 := h0.c1
  have k2 := h0.c2
  clear hg h0 h1
  go_wp2_with (first | (refine wpList_load_mid (by rfl) 25 _ (by rfl) g 3 (by rfl) (cellsOf x) _ HR0.out.digAt Tryd.underlying25 (by rfl) HI32.out ?_) | (refine wpList_buildg 28 _ (by rfl) (by rfl) (refC a b p x) (by simp only [List.map_toArray, List.map_cons, List.map_nil]; exact HBU.out) ?_) | (go_at_call 19; (refine (HN.out _).mono ?_); rintro e w1 ⟨rfl, hb⟩; have HB1 := Lib.hid (HB0.out.trans (hb.mono HB0.out.size)); have HR1 := Lib.hid (HR0.out.below hb HR0.out.lt); clear hb) | (refine wpList_load_row (by rfl) 33 _ (by rfl) g (by rfl) 33 (refC a b p x) (0, 0) _ HR1.out Tryd.underlying33 (by rfl) HI2.out ?_) | (go_at_call 20; (refine (HR.out _).mono ?_); rintro e w2 ⟨rfl, hb⟩; have HB2 := Lib.hid (HB1.out.trans (hb.mono HB1.out.size)); clear hb) | (go_at_call 10; (refine (awake7_c _).mono ?_); rintro e w3 ⟨rfl, hb⟩; have HB3 := Lib.hid (HB2.out.trans (hb.mono HB2.out.size)); clear hb))
  all_goals (go_ret; exact ⟨ret_bool (by simp), HB3.out⟩)
end Go.Proofs.YtjoomfikfbbnmaaDoor
