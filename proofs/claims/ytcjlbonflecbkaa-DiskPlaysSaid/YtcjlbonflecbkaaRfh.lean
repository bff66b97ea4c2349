/-
  The document's disk: Do of an Append, a Remove, a Rename.
-/
import Derived.Test.YtcjlbonflecbkaaRfdg
namespace Go.Proofs.Ytcjlbonflecbkaa
open Go.RowKit
set_option linter.unusedVariables false
theorem xcells {w : World} {X : Nat} {k : Int} {s t : ByteArray} {v : Value} (hh : w.heap[X]? = some (.cells #[.int .i64 k, .string s, .string t, v] 94 (0, 0))) : w.cell? ⟨X, 0, none⟩ = some (.int .i64 k) ∧ w.cell? ⟨X, 1, none⟩ = some (.string s) ∧ w.cell? ⟨X, 2, none⟩ = some (.string t) ∧ w.cell? ⟨X, 3, none⟩ = some v :=
  ⟨(cell_of_row w X 0 _ _ _ hh).trans rfl, (cell_of_row w X 1 _ _ _ hh).trans rfl, (cell_of_row w X 2 _ _ _ hh).trans rfl, (cell_of_row w X 3 _ _ _ hh).trans rfl⟩
theorem idx_of {l : Fls} {s : ByteArray} {z : List Nat} (h : lookF l s = some z) : ∃ k : Nat, idxF l s = some k ∧ l[k]? = some (s, z) := by
  cases e : idxF l s with
  | none => rw [idxF_none.1 e] at h; cases h
  | some k =>
    obtain ⟨z', h1, h2⟩ := idxF_some e
    rw [h] at h2
    cases h2
    exact ⟨k, rfl, h1⟩
set_option maxRecDepth 100000 in
set_option maxHeartbeats 8000000 in
theorem rdo2_c {N : Nat → Prop} {w : World} {a : Option Addr} {len cap : Nat} {l : Fls} (h : RF N w a len l) (hN : ∀ k, N k → k < w.heap.size) (s t : ByteArray) (ta : Option Addr) (tn tc : Nat) {p : List Nat} (hm : len ≤ 100000000) :
    Calls Try.prog 87 #[.slice a len cap, .agg #[.int .i64 2, .string s, .string t, .slice ta tn tc]] w (RetF N (doF l ⟨2, s, t, p⟩) w) := by
  rw [doF2]
  obtain ⟨X, hX⟩ : ∃ X, X = w.heap.size := ⟨_, rfl⟩
  obtain ⟨w1, hw⟩ : ∃ w1, w1 = w.alloc (.cells #[.int .i64 2, .string s, .string t, .slice ta tn tc] 94) := ⟨_, rfl⟩
  have hb1 : Below w.heap.size w w1 := by rw [hw]; exact (Below.refl _ _).alloc (Nat.le_refl _) _
  have hh : w1.heap[X]? = some (.cells #[.int .i64 2, .string s, .string t, .slice ta tn tc] 94 (0, 0)) := by rw [hw, hX]; exact heap_alloc_new w _
  have x0 := (cell_of_row w1 X 0 _ _ _ hh).trans rfl
  have x1 := (cell_of_row w1 X 1 _ _ _ hh).trans rfl
  have x2 := (cell_of_row w1 X 2 _ _ _ hh).trans rfl
  have x3 := (cell_of_row w1 X 3 _ _ _ hh).trans rfl
  have hrf := h.below hb1
  have hN1 : ∀ k, N k → k < w1.heap.size := fun k hk => by have := hN k hk; have := hb1.size; omega
  have HB1 := Lib.hid hb1
  have HH := Lib.hid hh
  have HW := Lib.hid (rwithout_c (cap := cap) hrf hN1 s hm)
  clear h hN hb1 hh hrf hN1 x2 x3
  go_enter Try.func87, Try.ntmps87
  go_upto_region 1 with fail
  rw [← hX]
  rw [← hw]
  clear hX hw
  go_wp2_with fail
  refine HW.out.mono ?_
  rintro e2 w2 ⟨a2, l2, k2, rfl, h2, hb2⟩
  have H2 := Lib.hid h2
  have HB2 := Lib.hid (HB1.out.trans (hb2.mono HB1.out.size))
  clear h2 hb2 HW x0 x1
  go_wp2_with fail
  go_ret
  exact ⟨_, _, _, rfl, H2.out, HB2.out⟩
set_option maxRecDepth 100000 in
set_option maxHeartbeats 8000000 in
theorem rdo1_c {N : Nat → Prop} {w : World} {a : Option Addr} {len cap : Nat} {l : Fls} (h : RF N w a len l) (hN : ∀ k, N k → k < w.heap.size) (s t : ByteArray) (ta : Option Addr) (tn tc : Nat) {p : List Nat} (hm : len ≤ 100000000) {z : List Nat} (hz : lookF l s = some z) (hp : RB N w ta tn tc p) (hb : z.length + p.length ≤ 1000000000) :
    Calls Try.prog 87 #[.slice a len cap, .agg #[.int .i64 1, .string s, .string t, .slice ta tn tc]] w (RetF N (doF l ⟨1, s, t, p⟩) w) := by
  rw [doF1, hz]
  show Calls _ _ _ _ (RetF N (withF (withoutF l s) (s, z ++ p)) w)
  obtain ⟨X, hX⟩ : ∃ X, X = w.heap.size := ⟨_, rfl⟩
  obtain ⟨w1, hw⟩ : ∃ w1, w1 = w.alloc (.cells #[.int .i64 1, .string s, .string t, .slice ta tn tc] 94) := ⟨_, rfl⟩
  have hb1 : Below w.heap.size w w1 := by rw [hw]; exact (Below.refl _ _).alloc (Nat.le_refl _) _
  have hh : w1.heap[X]? = some (.cells #[.int .i64 1, .string s, .string t, .slice ta tn tc] 94 (0, 0)) := by rw [hw, hX]; exact heap_alloc_new w _
  have x0 := (cell_of_row w1 X 0 _ _ _ hh).trans rfl
  have x1 := (cell_of_row w1 X 1 _ _ _ hh).trans rfl
  have x2 := (cell_of_row w1 X 2 _ _ _ hh).trans rfl
  have x3 := (cell_of_row w1 X 3 _ _ _ hh).trans rfl
  have hrf := h.below hb1
  have hN1 : ∀ k, N k → k < w1.heap.size := fun k hk => by have := hN k hk; have := hb1.size; omega
  have HB1 := Lib.hid hb1
  have HH := Lib.hid hh
  obtain ⟨k, hk, hlk⟩ := idx_of hz
  have hlen := h.ln
  have hkl : k < len := by have := (List.getElem?_eq_some_iff.1 hlk).1; omega
  obtain ⟨b, o, f, ra, rn, rc, rfl, hbl, hf, c0, c1, hrb⟩ := hrf.at hkl
  rw [hlk] at hf
  cases hf
  have hix := fun W => run_file_idx W b o len cap k hkl
  have HFI := Lib.hid (rfind_c (cap := cap) hrf s (by omega))
  rw [show ixI (idxF l s) = (k : Int) by rw [hk]; rfl] at HFI
  have HP1 := Lib.hid (hp.below hb1)
  have HRF1 := Lib.hid hrf
  have HRB1 := Lib.hid hrb
  have HN1 := Lib.hid hN1
  have HTW := Lib.hid (twin_c ra rn rc z w1 hrb.rd (by have := hrb.rd.1; simp only at this; omega))
  have i0 : (0 : Int) ≤ (k : Int) := by omega
  have i1 : (k : Int) < (len : Int) := by omega
  have hzb := hrb.rd.2.1
  have HWZ := Lib.hid hN
  have HC1 := Lib.hid c1
  have HIX := Lib.hid hix
  clear h hN hb1 hh hrf hN1 hk hlk hlen hz hp x2 hrb c0 c1 hix
  go_enter Try.func87, Try.ntmps87
  go_upto_region 1 with fail
  rw [← hX]
  rw [← hw]
  clear hX hw
  go_wp2_with fail
  refine HFI.out.mono ?_
  rintro e2 w2 ⟨rfl, rfl⟩
  have c1 := HC1.out
  have hix := HIX.out
  clear x0 x1 x3
  go_wp2_with fail
  refine HTW.out.mono ?_
  rintro e3 w3 ⟨v3, rfl, hown3, hb3⟩
  have hx3 := (hb3.block X (Array.getElem?_eq_some_iff.1 HH.out).1).trans HH.out
  obtain ⟨x0, x1, x2, x3⟩ := xcells hx3
  have hp3 := HP1.out.below hb3
  have hsz3 := hb3.size
  have HX3 := Lib.hid hx3
  have HP3 := Lib.hid hp3
  have HO3 := Lib.hid hown3
  have HB3 := Lib.hid hb3
  have hzl : z.length + p.length ≤ 140737488355328 := by omega
  have hp3n := hp3.nil
  clear hown3 hb3 hx3 hp3 HTW HFI hix c1
  obtain ⟨B0, hB0⟩ : ∃ B0, B0 = w2.heap.size := ⟨_, rfl⟩
  go_wp2_with (at_builtin; (refine wpList_catR rfl _ _ rfl w2.heap.size v3 z p rfl HO3.out hsz3 ta tn tc rfl HP3.out.rd hp3n hzb hzl ?_); intro a4 L4 c4 w4 hl4 hlc4 hcm4 hn4 hrd4 hown4 hb4; have HO4 := Lib.hid hown4; have HRD4 := Lib.hid hrd4; have HB4 := Lib.hid (HB3.out.trans hb4); have HL4 := Lib.hid hl4; clear hl4 hlc4 hcm4 hn4 hrd4 hown4 hb4 x0 x1 x2 x3 HO3 hp3n)
  have hx4 : w4.heap[X]? = some (.cells #[.int .i64 1, .string s, .string t, .slice ta tn tc] 94 (0, 0)) := (HB4.out.block X (Array.getElem?_eq_some_iff.1 HH.out).1).trans HH.out
  obtain ⟨x0, x1, x2, x3⟩ := xcells hx4
  obtain ⟨ta4, tn4, tc4, he4, hrb4⟩ := own_RB (N := N) HO4.out HRD4.out.2.1 (fun k hk => HN1.out k hk)
  obtain ⟨rfl, rfl, rfl⟩ := Value.slice.inj he4
  have HRB4 := Lib.hid hrb4
  have HX4 := Lib.hid hx4
  have HW1 := Lib.hid (rwithout_c (cap := cap) ((HRF1.out.below HB4.out).below (Below.refl _ _).drew) (fun k hk => Nat.lt_of_lt_of_le (HN1.out k hk) HB4.out.size) s hm)
  have HLL := Lib.hid (And.intro (without_len l s) HRF1.out.ln)
  clear he4 hrb4 hx4
  (try dsimp only [Act.put, List.setIfInBounds_toArray, List.set_cons_zero, List.set_cons_succ])
  have HS := Lib.hid (show World.cell? (World.drew w4) ⟨X, 1, none⟩ = some (.string s) from x1)
  refine anyH_begin (S := fun W => World.cell? W ⟨X, 1, none⟩ = some (.string s)) (by kernel_rfl) ?_
  have HL1 := Lib.hid (fun W (hW : World.cell? W ⟨X, 1, none⟩ = some (.string s)) => run_cell_s W ⟨X, 1, none⟩ _ hW)
  refine anyH_pureG 0 (d := 34) (op := .move (.tmp 0)) (gd := none) (.slice (some ⟨b, o, none⟩) len cap) (by rfl) (fun o ho => wanted_plain ho _) (by kernel_rfl) (by kernel_rfl) (by kernel_rfl) (fun _ _ _ h => h) (fun o ho W hW => by unfold execOp; simp only [ho]; go_simp) HS.out ?_
  simp only [Act.put, List.setIfInBounds_toArray, List.set_cons_zero, List.set_cons_succ]
  refine anyH_pureG 1 (d := 35) (op := .fieldAddr 94 (.tmp 3) 1) (gd := none) (.pointer (some ⟨X, 1, none⟩)) (by rfl) (fun o ho => wanted_plain ho _) (by kernel_rfl) (by kernel_rfl) (by kernel_rfl) (fun _ _ _ h => h) (fun o ho W hW => by unfold execOp; simp only [ho]; go_simp) HS.out ?_
  simp only [Act.put, List.setIfInBounds_toArray, List.set_cons_zero, List.set_cons_succ]
  refine anyH_loadG 2 (d := 36) (ty := 9) (x := (.tmp 35)) (gd := none) (p := .pointer (some ⟨X, 1, none⟩)) (.string s) (by rfl) (fun o ho => wanted_plain ho _) (by kernel_rfl) (by kernel_rfl) (by kernel_rfl) (fun _ _ _ h => h) (by rfl) HL1.out HS.out ?_
  simp only [Act.put, List.setIfInBounds_toArray, List.set_cons_zero, List.set_cons_succ]
  refine anyH_pureG 4 (d := 38) (op := .fieldAddr 94 (.tmp 3) 1) (gd := none) (.pointer (some ⟨X, 1, none⟩)) (by rfl) (fun o ho => wanted_plain ho _) (by kernel_rfl) (by kernel_rfl) (by kernel_rfl) (fun _ _ _ h => h) (fun o ho W hW => by unfold execOp; simp only [ho]; go_simp) HS.out ?_
  simp only [Act.put, List.setIfInBounds_toArray, List.set_cons_zero, List.set_cons_succ]
  refine anyH_loadG 5 (d := 39) (ty := 9) (x := (.tmp 38)) (gd := none) (p := .pointer (some ⟨X, 1, none⟩)) (.string s) (by rfl) (fun o ho => wanted_plain ho _) (by kernel_rfl) (by kernel_rfl) (by kernel_rfl) (fun _ _ _ h => h) (by rfl) HL1.out HS.out ?_
  simp only [Act.put, List.setIfInBounds_toArray, List.set_cons_zero, List.set_cons_succ]
  refine anyH_pureG 6 (d := 40) (op := .move (.tmp 6)) (gd := none) (.slice a4 L4 c4) (by rfl) (fun o ho => wanted_plain ho _) (by kernel_rfl) (by kernel_rfl) (by kernel_rfl) (fun _ _ _ h => h) (fun o ho W hW => by unfold execOp; simp only [ho]; go_simp) HS.out ?_
  simp only [Act.put, List.setIfInBounds_toArray, List.set_cons_zero, List.set_cons_succ]
  refine anyH_pureG 7 (d := 41) (op := .build 100 #[(0, (.tmp 39)), (1, (.tmp 40))]) (gd := none) (.agg #[.string s, .slice a4 L4 c4]) (by rfl) (fun o ho => wanted_plain ho _) (by kernel_rfl) (by kernel_rfl) (by kernel_rfl) (fun _ _ _ h => h) (fun o ho W hW => by unfold execOp; simp only [ho]; go_simp) HS.out ?_
  simp only [Act.put, List.setIfInBounds_toArray, List.set_cons_zero, List.set_cons_succ]
  refine anyH_callG 3 (d := some 37) (f := 115) (xs := #[(.tmp 34), (.tmp 36)]) (ts := #[88, 9]) (gd := none) (vs := #[.slice (some ⟨b, o, none⟩) len cap, .string s]) (by kernel_rfl) (by rfl) (fun o ho => wanted_plain ho _) (by go_simp) (by go_simp) (HW1.out) ?_
  rintro e5 w5 ⟨a5, l5, k5, rfl, h5, hb5⟩
  have HS := Lib.hid (show World.cell? w5 ⟨X, 1, none⟩ = some (.string s) from (hb5.cell (p := ⟨X, 1, none⟩) (by have := (Array.getElem?_eq_some_iff.1 HX4.out).1; exact this)).trans x1)
  have H5 := Lib.hid h5
  have HB5 := Lib.hid hb5
  clear h5 hb5
  refine ⟨_, rfl, HS.out, fun _ => ?_⟩
  have HW2 := Lib.hid (rwith_c (f := (s, z ++ p)) (cap := k5) H5.out (fun k hk => Nat.lt_of_lt_of_le (Nat.lt_of_lt_of_le (HN1.out k hk) HB4.out.size) HB5.out.size) ((HRB4.out.below (Below.refl _ _).drew).below HB5.out) (by have := H5.out.ln; have := HLL.out; omega))
  simp only [Act.put, List.setIfInBounds_toArray, List.set_cons_zero, List.set_cons_succ]
  refine anyH_callG 8 (d := some 42) (f := 114) (xs := #[(.tmp 37), (.tmp 41)]) (ts := #[88, 100]) (gd := none) (vs := #[.slice a5 l5 k5, .agg #[.string s, .slice a4 L4 c4]]) (by kernel_rfl) (by rfl) (fun o ho => wanted_plain ho _) (by go_simp) (by go_simp) (HW2.out) ?_
  rintro e6 w6 ⟨a6, l6, k6, rfl, h6, hb6⟩
  have HS := Lib.hid (show World.cell? w6 ⟨X, 1, none⟩ = some (.string s) from (hb6.cell (p := ⟨X, 1, none⟩) (by have h1 := (Array.getElem?_eq_some_iff.1 HX4.out).1; have h2 := HB5.out.size; exact Nat.lt_of_lt_of_le h1 h2)).trans HS.out)
  have H6 := Lib.hid h6
  have HB6 := Lib.hid hb6
  clear h6 hb6
  refine ⟨_, rfl, HS.out, fun _ => ?_⟩
  simp only [Act.put, List.setIfInBounds_toArray, List.set_cons_zero, List.set_cons_succ]
  refine anyH_pureG 9 (d := 4) (op := .assign (.tmp 42)) (gd := none) (.slice a6 l6 k6) (by rfl) (fun o ho => wanted_plain ho _) (by kernel_rfl) (by kernel_rfl) (by kernel_rfl) (fun _ _ _ h => h) (fun o ho W hW => by unfold execOp; simp only [ho]; go_simp) HS.out ?_
  simp only [Act.put, List.setIfInBounds_toArray, List.set_cons_zero, List.set_cons_succ]
  refine wpAnyH_done (by kernel_rfl) ?_ _
  clear HS HL1
  go_wp2_with fail
  go_ret
  refine ⟨_, _, _, rfl, H6.out, ?_⟩
  have q1 : Below w.heap.size w w4 := HB1.out.trans (HB4.out.mono HB1.out.size)
  have q2 : Below w.heap.size w w5 := q1.drew.trans (HB5.out.mono q1.size)
  exact q2.trans (HB6.out.mono q2.size)
set_option maxRecDepth 100000 in
set_option maxHeartbeats 8000000 in
theorem rdo3_c {N : Nat → Prop} {w : World} {a : Option Addr} {len cap : Nat} {l : Fls} (h : RF N w a len l) (hN : ∀ k, N k → k < w.heap.size) (s t : ByteArray) (ta : Option Addr) (tn tc : Nat) {p : List Nat} (hm : len ≤ 100000000) {z : List Nat} (hz : lookF l s = some z) :
    Calls Try.prog 87 #[.slice a len cap, .agg #[.int .i64 3, .string s, .string t, .slice ta tn tc]] w (RetF N (doF l ⟨3, s, t, p⟩) w) := by
  rw [doF3, hz]
  show Calls _ _ _ _ (RetF N (withF (withoutF (withoutF l s) t) (t, z)) w)
  obtain ⟨X, hX⟩ : ∃ X, X = w.heap.size := ⟨_, rfl⟩
  obtain ⟨w1, hw⟩ : ∃ w1, w1 = w.alloc (.cells #[.int .i64 3, .string s, .string t, .slice ta tn tc] 94) := ⟨_, rfl⟩
  have hb1 : Below w.heap.size w w1 := by rw [hw]; exact (Below.refl _ _).alloc (Nat.le_refl _) _
  have hh : w1.heap[X]? = some (.cells #[.int .i64 3, .string s, .string t, .slice ta tn tc] 94 (0, 0)) := by rw [hw, hX]; exact heap_alloc_new w _
  have x0 := (cell_of_row w1 X 0 _ _ _ hh).trans rfl
  have x1 := (cell_of_row w1 X 1 _ _ _ hh).trans rfl
  have x2 := (cell_of_row w1 X 2 _ _ _ hh).trans rfl
  have x3 := (cell_of_row w1 X 3 _ _ _ hh).trans rfl
  have hrf := h.below hb1
  have hN1 : ∀ k, N k → k < w1.heap.size := fun k hk => by have := hN k hk; have := hb1.size; omega
  have HB1 := Lib.hid hb1
  have HH := Lib.hid hh
  obtain ⟨k, hk, hlk⟩ := idx_of hz
  have hlen := h.ln
  have hkl : k < len := by have := (List.getElem?_eq_some_iff.1 hlk).1; omega
  obtain ⟨b, o, f, ra, rn, rc, rfl, hbl, hf, c0, c1, hrb⟩ := hrf.at hkl
  rw [hlk] at hf
  cases hf
  have hix := fun W => run_file_idx W b o len cap k hkl
  have HFI := Lib.hid (rfind_c (cap := cap) hrf s (by omega))
  rw [show ixI (idxF l s) = (k : Int) by rw [hk]; rfl] at HFI
  have HRB4 := Lib.hid hrb
  have HN1 := Lib.hid hN1
  have i0 : (0 : Int) ≤ (k : Int) := by omega
  have i1 : (k : Int) < (len : Int) := by omega
  have HW1 := Lib.hid (rwithout_c (cap := cap) (hrf.below (Below.refl _ _).drew) hN1 s hm)
  have HLL := Lib.hid (And.intro (without_len l s) (without_len (withoutF l s) t))
  have HLN := Lib.hid hlen
  have HC1 := Lib.hid c1
  have HIX := Lib.hid hix
  have HX12 := Lib.hid (And.intro x1 x2)
  clear h hN hb1 hh hrf hN1 hk hlk hlen hz hrb c0 x3 c1 hix x2
  go_enter Try.func87, Try.ntmps87
  go_upto_region 1 with fail
  rw [← hX]
  rw [← hw]
  clear hX hw
  go_wp2_with fail
  refine HFI.out.mono ?_
  rintro e2 w4 ⟨rfl, rfl⟩
  have c1 := HC1.out
  have hix := HIX.out
  clear x0 x1
  go_wp2_with fail
  obtain ⟨x1, x2⟩ := HX12.out
  clear c1 hix
  (try dsimp only [Act.put, List.setIfInBounds_toArray, List.set_cons_zero, List.set_cons_succ])
  have HS := Lib.hid (show World.cell? (World.drew w4) ⟨X, 1, none⟩ = some (.string s) ∧ World.cell? (World.drew w4) ⟨X, 2, none⟩ = some (.string t) from ⟨x1, x2⟩)
  refine anyH_begin (S := fun W => World.cell? W ⟨X, 1, none⟩ = some (.string s) ∧ World.cell? W ⟨X, 2, none⟩ = some (.string t)) (by kernel_rfl) ?_
  have HL1 := Lib.hid (fun W (hW : World.cell? W ⟨X, 1, none⟩ = some (.string s) ∧ World.cell? W ⟨X, 2, none⟩ = some (.string t)) => run_cell_s W ⟨X, 1, none⟩ _ hW.1)
  have HL2 := Lib.hid (fun W (hW : World.cell? W ⟨X, 1, none⟩ = some (.string s) ∧ World.cell? W ⟨X, 2, none⟩ = some (.string t)) => run_cell_s W ⟨X, 2, none⟩ _ hW.2)
  have hXs := (Array.getElem?_eq_some_iff.1 HH.out).1
  refine anyH_pureG 0 (d := 58) (op := .move (.tmp 0)) (gd := none) (.slice (some ⟨b, o, none⟩) len cap) (by rfl) (fun o ho => wanted_plain ho _) (by kernel_rfl) (by kernel_rfl) (by kernel_rfl) (fun _ _ _ h => h) (fun o ho W hW => by unfold execOp; simp only [ho]; go_simp) HS.out ?_
  simp only [Act.put, List.setIfInBounds_toArray, List.set_cons_zero, List.set_cons_succ]
  refine anyH_pureG 1 (d := 59) (op := .fieldAddr 94 (.tmp 3) 1) (gd := none) (.pointer (some ⟨X, 1, none⟩)) (by rfl) (fun o ho => wanted_plain ho _) (by kernel_rfl) (by kernel_rfl) (by kernel_rfl) (fun _ _ _ h => h) (fun o ho W hW => by unfold execOp; simp only [ho]; go_simp) HS.out ?_
  simp only [Act.put, List.setIfInBounds_toArray, List.set_cons_zero, List.set_cons_succ]
  refine anyH_loadG 2 (d := 60) (ty := 9) (x := (.tmp 59)) (gd := none) (p := .pointer (some ⟨X, 1, none⟩)) (.string s) (by rfl) (fun o ho => wanted_plain ho _) (by kernel_rfl) (by kernel_rfl) (by kernel_rfl) (fun _ _ _ h => h) (by rfl) HL1.out HS.out ?_
  simp only [Act.put, List.setIfInBounds_toArray, List.set_cons_zero, List.set_cons_succ]
  refine anyH_pureG 4 (d := 62) (op := .fieldAddr 94 (.tmp 3) 2) (gd := none) (.pointer (some ⟨X, 2, none⟩)) (by rfl) (fun o ho => wanted_plain ho _) (by kernel_rfl) (by kernel_rfl) (by kernel_rfl) (fun _ _ _ h => h) (fun o ho W hW => by unfold execOp; simp only [ho]; go_simp) HS.out ?_
  simp only [Act.put, List.setIfInBounds_toArray, List.set_cons_zero, List.set_cons_succ]
  refine anyH_loadG 5 (d := 63) (ty := 9) (x := (.tmp 62)) (gd := none) (p := .pointer (some ⟨X, 2, none⟩)) (.string t) (by rfl) (fun o ho => wanted_plain ho _) (by kernel_rfl) (by kernel_rfl) (by kernel_rfl) (fun _ _ _ h => h) (by rfl) HL2.out HS.out ?_
  simp only [Act.put, List.setIfInBounds_toArray, List.set_cons_zero, List.set_cons_succ]
  refine anyH_pureG 7 (d := 65) (op := .fieldAddr 94 (.tmp 3) 2) (gd := none) (.pointer (some ⟨X, 2, none⟩)) (by rfl) (fun o ho => wanted_plain ho _) (by kernel_rfl) (by kernel_rfl) (by kernel_rfl) (fun _ _ _ h => h) (fun o ho W hW => by unfold execOp; simp only [ho]; go_simp) HS.out ?_
  simp only [Act.put, List.setIfInBounds_toArray, List.set_cons_zero, List.set_cons_succ]
  refine anyH_loadG 8 (d := 66) (ty := 9) (x := (.tmp 65)) (gd := none) (p := .pointer (some ⟨X, 2, none⟩)) (.string t) (by rfl) (fun o ho => wanted_plain ho _) (by kernel_rfl) (by kernel_rfl) (by kernel_rfl) (fun _ _ _ h => h) (by rfl) HL2.out HS.out ?_
  simp only [Act.put, List.setIfInBounds_toArray, List.set_cons_zero, List.set_cons_succ]
  refine anyH_pureG 9 (d := 67) (op := .move (.tmp 8)) (gd := none) (.slice ra rn rc) (by rfl) (fun o ho => wanted_plain ho _) (by kernel_rfl) (by kernel_rfl) (by kernel_rfl) (fun _ _ _ h => h) (fun o ho W hW => by unfold execOp; simp only [ho]; go_simp) HS.out ?_
  simp only [Act.put, List.setIfInBounds_toArray, List.set_cons_zero, List.set_cons_succ]
  refine anyH_pureG 10 (d := 68) (op := .build 100 #[(0, (.tmp 66)), (1, (.tmp 67))]) (gd := none) (.agg #[.string t, .slice ra rn rc]) (by rfl) (fun o ho => wanted_plain ho _) (by kernel_rfl) (by kernel_rfl) (by kernel_rfl) (fun _ _ _ h => h) (fun o ho W hW => by unfold execOp; simp only [ho]; go_simp) HS.out ?_
  simp only [Act.put, List.setIfInBounds_toArray, List.set_cons_zero, List.set_cons_succ]
  refine anyH_callG 3 (d := some 61) (f := 115) (xs := #[(.tmp 58), (.tmp 60)]) (ts := #[88, 9]) (gd := none) (vs := #[.slice (some ⟨b, o, none⟩) len cap, .string s]) (by kernel_rfl) (by rfl) (fun o ho => wanted_plain ho _) (by go_simp) (by go_simp) (HW1.out) ?_
  rintro e5 w5 ⟨a5, l5, k5, rfl, h5, hb5⟩
  have HS := Lib.hid (show World.cell? w5 ⟨X, 1, none⟩ = some (.string s) ∧ World.cell? w5 ⟨X, 2, none⟩ = some (.string t) from ⟨(hb5.cell (p := ⟨X, 1, none⟩) hXs).trans HS.out.1, (hb5.cell (p := ⟨X, 2, none⟩) hXs).trans HS.out.2⟩)
  have H5 := Lib.hid h5
  have HB5 := Lib.hid hb5
  clear h5 hb5
  refine ⟨_, rfl, HS.out, fun _ => ?_⟩
  have hX5 := Nat.lt_of_lt_of_le hXs HB5.out.size
  have HW2 := Lib.hid (rwithout_c (cap := k5) H5.out (fun k hk => Nat.lt_of_lt_of_le (HN1.out k hk) HB5.out.size) t (by have := H5.out.ln; have := HLL.out; have := HLN.out; omega))
  simp only [Act.put, List.setIfInBounds_toArray, List.set_cons_zero, List.set_cons_succ]
  refine anyH_callG 6 (d := some 64) (f := 115) (xs := #[(.tmp 61), (.tmp 63)]) (ts := #[88, 9]) (gd := none) (vs := #[.slice a5 l5 k5, .string t]) (by kernel_rfl) (by rfl) (fun o ho => wanted_plain ho _) (by go_simp) (by go_simp) (HW2.out) ?_
  rintro e6 w6 ⟨a6, l6, k6, rfl, h6, hb6⟩
  have HS := Lib.hid (show World.cell? w6 ⟨X, 1, none⟩ = some (.string s) ∧ World.cell? w6 ⟨X, 2, none⟩ = some (.string t) from ⟨(hb6.cell (p := ⟨X, 1, none⟩) hX5).trans HS.out.1, (hb6.cell (p := ⟨X, 2, none⟩) hX5).trans HS.out.2⟩)
  have H6 := Lib.hid h6
  have HB6 := Lib.hid hb6
  clear h6 hb6
  refine ⟨_, rfl, HS.out, fun _ => ?_⟩
  have hX6 := Nat.lt_of_lt_of_le hX5 HB6.out.size
  have HW3 := Lib.hid (rwith_c (f := (t, z)) (cap := k6) H6.out (fun k hk => Nat.lt_of_lt_of_le (Nat.lt_of_lt_of_le (HN1.out k hk) HB5.out.size) HB6.out.size) (((HRB4.out.below (Below.refl _ _).drew).below HB5.out).below HB6.out) (by have := H6.out.ln; have := HLL.out; have := HLN.out; omega))
  simp only [Act.put, List.setIfInBounds_toArray, List.set_cons_zero, List.set_cons_succ]
  refine anyH_callG 11 (d := some 69) (f := 114) (xs := #[(.tmp 64), (.tmp 68)]) (ts := #[88, 100]) (gd := none) (vs := #[.slice a6 l6 k6, .agg #[.string t, .slice ra rn rc]]) (by kernel_rfl) (by rfl) (fun o ho => wanted_plain ho _) (by go_simp) (by go_simp) (HW3.out) ?_
  rintro e7 w7 ⟨a7, l7, k7, rfl, h7, hb7⟩
  have HS := Lib.hid (show World.cell? w7 ⟨X, 1, none⟩ = some (.string s) ∧ World.cell? w7 ⟨X, 2, none⟩ = some (.string t) from ⟨(hb7.cell (p := ⟨X, 1, none⟩) hX6).trans HS.out.1, (hb7.cell (p := ⟨X, 2, none⟩) hX6).trans HS.out.2⟩)
  have H7 := Lib.hid h7
  have HB7 := Lib.hid hb7
  clear h7 hb7
  refine ⟨_, rfl, HS.out, fun _ => ?_⟩
  simp only [Act.put, List.setIfInBounds_toArray, List.set_cons_zero, List.set_cons_succ]
  refine anyH_pureG 12 (d := 4) (op := .assign (.tmp 69)) (gd := none) (.slice a7 l7 k7) (by rfl) (fun o ho => wanted_plain ho _) (by kernel_rfl) (by kernel_rfl) (by kernel_rfl) (fun _ _ _ h => h) (fun o ho W hW => by unfold execOp; simp only [ho]; go_simp) HS.out ?_
  simp only [Act.put, List.setIfInBounds_toArray, List.set_cons_zero, List.set_cons_succ]
  refine wpAnyH_done (by kernel_rfl) ?_ _
  clear HS HL1 HL2
  go_wp2_with fail
  go_ret
  refine ⟨_, _, _, rfl, H7.out, ?_⟩
  have q2 : Below w.heap.size w w5 := HB1.out.drew.trans (HB5.out.mono HB1.out.size)
  have q3 : Below w.heap.size w w6 := q2.trans (HB6.out.mono q2.size)
  exact q3.trans (HB7.out.mono q3.size)
end Go.Proofs.Ytcjlbonflecbkaa
