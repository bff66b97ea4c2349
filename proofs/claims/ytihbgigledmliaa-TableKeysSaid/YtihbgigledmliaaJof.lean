/-
  A journal: Open, Append, Sync, Rewrite.
-/
import Derived.Test.YtihbgigledmliaaJoe
namespace Go.Proofs.Ytihbgigledmliaa
open Go.RowKit
set_option linter.unusedVariables false
/-- what Open leaves -/
def OpenR (X : Nat → Prop) (B d N : Nat) (nm : ByteArray) (w : World) (sz : Int) (rs : List (List Nat)) (r : Ad × Int) (e : Ending) (w' : World) : Prop :=
  ∃ (Y : Nat → Prop) (jb : Nat) (a : Option Addr) (n c : Nat), ((r.2 = 0 ∧ e = .returned (.tuple #[.pointer (some ⟨jb, 0, none⟩), .slice a n c, .int .i64 0])) ∨ (r.2 ≠ 0 ∧ e = .returned (.tuple #[.pointer none, .slice none 0 0, .int .i64 r.2]))) ∧ (∀ j, X j → Y j) ∧ (∀ j, Y j → X j ∨ w.heap.size ≤ j) ∧ Jn Y B d jb nm sz N r.1 w' ∧ Rcd Y B w' a n rs ∧ OwA Y B jb w' (.slice a n c) rs ∧ n ≤ c ∧ c ≤ 9223372036854775807 ∧ w.heap.size ≤ jb ∧ Below B w w' ∧ KpD X w w'
set_option maxRecDepth 100000 in
set_option maxHeartbeats 8000000 in
theorem jopen_c {X : Nat → Prop} {B d N : Nat} {A : Ad} {w : World} (h : Dx X B d N A w) (hN : N < 100000000) (nm : ByteArray) (h1 : 1 ≤ nm.size) (h2 : nm.size ≤ 159) (hzl : ∀ z, lookF A.now nm = some z → z.length < 1048576) :
    Calls Try.prog 17 #[.pointer (some ⟨d, 0, none⟩), .string nm] w (OpenR X B d (N + 24) nm w (usedA A nm : Nat) (recsA A nm) (A.load nm)) := by
  have hss : (nm ++ ⟨#[43]⟩ : ByteArray).size = nm.size + 1 := by rw [ByteArray.size_append]; rfl
  have HI1 := Lib.hid (fun W => isname_c nm W (by unfold maxLen; omega))
  rw [show (decide (1 ≤ nm.size) && decide (nm.size ≤ 160)) = true from by simp; omega] at HI1
  have HI2 := Lib.hid (fun W => isname_c (nm ++ ⟨#[43]⟩) W (by unfold maxLen; omega))
  rw [show (decide (1 ≤ (nm ++ ⟨#[43]⟩ : ByteArray).size) && decide ((nm ++ ⟨#[43]⟩ : ByteArray).size ≤ 160)) = true from by rw [hss]; simp; omega] at HI2
  have HCL := Lib.hid (fun W => clone_c nm W (by unfold maxLen; omega) (by omega))
  have hadd : ¬ 9223372036854775807 < nm.size + 1 := by omega
  have HH := Lib.hid h
  have HLD := Lib.hid (fun (Y : Nat → Prop) (jb : Nat) (W : World) (hj : Jn Y B d jb nm 0 N A W) => jload_c hj hN (by omega) hzl)
  obtain ⟨us, hus⟩ : ∃ us, us = usedA A nm := ⟨_, rfl⟩
  obtain ⟨rs, hrs⟩ : ∃ rs, rs = recsA A nm := ⟨_, rfl⟩
  obtain ⟨r, hr⟩ : ∃ r, r = A.load nm := ⟨_, rfl⟩
  rw [← hus, ← hrs, ← hr] at HLD ⊢
  have HXB := Lib.hid (show B ≤ w.heap.size from Nat.le_of_lt (Nat.lt_of_le_of_lt h.base.1 h.base.2))
  clear h hzl hss hus hrs hr h1 h2
  go_enter Try.func17, Try.ntmps17
  go_wp2_with fail
  refine (HI1.out _).mono ?_
  rintro e1 w1 ⟨rfl, rfl⟩
  go_wp2_with fail
  refine (HI2.out _).mono ?_
  rintro e2 w2 ⟨rfl, rfl⟩
  go_wp2_with fail
  refine (HCL.out _).mono ?_
  rintro e3 w3 ⟨rfl, hb3⟩
  obtain ⟨jb, hjb⟩ : ∃ jb, jb = w3.heap.size := ⟨_, rfl⟩
  obtain ⟨w4, hw4⟩ : ∃ w4, w4 = w3.alloc (.cells #[.pointer (some ⟨d, 0, none⟩), .string nm, .int .i64 0] 82) := ⟨_, rfl⟩
  have q4 : Below w3.heap.size w3 w4 := by rw [hw4]; exact (Below.refl _ _).alloc (Nat.le_refl _) _
  have z4 : w4.heap.size = jb + 1 := by rw [hw4, hjb]; simp
  have hb4 := hb3.trans (q4.mono hb3.size)
  have hsz3 := hb3.size
  have HJ := Lib.hid (show Jn (fun j => X j ∨ j = jb) B d jb nm 0 N A w4 from ⟨HH.out.belowY hb4 (fun j hj => hj.imp id fun e => by omega) (fun j hj => by
    rcases hj with hj | hj
    · exact Nat.lt_of_lt_of_le (HH.out.lt j hj) hb4.size
    · omega), .inr rfl, by have := HXB.out; omega, by rw [hw4, hjb]; exact heap_alloc_new w3 _⟩)
  have HB4 := Lib.hid hb4
  have HJL := Lib.hid (show w2.heap.size ≤ jb from by omega)
  have HL := Lib.hid (HLD.out _ _ _ HJ.out)
  clear hb3 hb4 q4 z4 HLD HI1 HI2 HCL hsz3
  go_wp2_with fail
  rw [← hjb, ← hw4]
  clear hjb hw4 hadd
  refine HL.out.mono ?_
  rintro e5 w5 ⟨Y, a, n, c, rfl, y1, y2, y3, y4, y0, y5, y6, y7, y8⟩
  have HE := Lib.hid (show (∀ j, X j → Y j) ∧ (∀ j, Y j → X j ∨ w2.heap.size ≤ j) ∧ Jn Y B d jb nm (us : Int) (N + 24) r.1 w5 ∧ Rcd Y B w5 a n rs ∧ OwA Y B jb w5 (.slice a n c) rs ∧ n ≤ c ∧ c ≤ 9223372036854775807 ∧ w2.heap.size ≤ jb ∧ Below B w2 w5 ∧ KpD X w2 w5 from ⟨fun j hj => y1 j (.inl hj), fun j hj => by
    rcases y2 j hj with (e | e) | e
    · exact .inl e
    · exact .inr (by rw [e]; exact HJL.out)
    · exact .inr (Nat.le_trans HB4.out.size e), y3, y4, y0, y5, y6, HJL.out, (HB4.out.mono HXB.out).trans y7, fun j hj => (y8 j (.inl hj) fun e => by have := HH.out.lt j hj; have := HJL.out; omega).trans (HB4.out.block j (HH.out.lt j hj))⟩)
  clear y0 y1 y2 y3 y4 y5 y6 y7 y8 HL HJ HB4
  obtain ⟨A', x⟩ := r
  by_cases h0 : x = 0
  · subst h0
    have HF := Lib.hid (show OpenR X B d (N + 24) nm w2 (us : Int) rs (A', 0) (.returned (.tuple #[.pointer (some ⟨jb, 0, none⟩), .slice a n c, .int .i64 0])) w5 from ⟨Y, jb, a, n, c, .inl ⟨rfl, rfl⟩, HE.out⟩)
    go_wp2_with fail
    go_ret3
    exact HF.out
  · have hx0 : (x != 0) = true := by simp [h0]
    have HF := Lib.hid (show OpenR X B d (N + 24) nm w2 (us : Int) rs (A', x) (.returned (.tuple #[.pointer none, .slice none 0 0, .int .i64 x])) w5 from ⟨Y, jb, a, n, c, .inr ⟨h0, rfl⟩, HE.out⟩)
    go_wp2_with fail
    go_ret3
    exact HF.out
set_option maxRecDepth 100000 in
set_option maxHeartbeats 8000000 in
theorem jsync_c {X : Nat → Prop} {B d jb N : Nat} {nm : ByteArray} {sz : Int} {A : Ad} {w : World} (h : Jn X B d jb nm sz N A w) :
    Calls Try.prog 41 #[.pointer (some ⟨jb, 0, none⟩)] w fun e w' => e = .returned (.int .i64 A.sync.2) ∧ Jn X B d jb nm sz (N + 3) A.sync.1 w' ∧ Below B w w' ∧ KpD X w w' := by
  obtain ⟨y1, y2, y3⟩ := h.cells
  have HC := Lib.hid (h.dx.sync)
  have HH := Lib.hid h
  obtain ⟨r, hr⟩ : ∃ r, A.sync = r := ⟨_, rfl⟩
  rw [hr] at HC ⊢
  clear h hr
  go_enter Try.func41, Try.ntmps41
  go_wp2_with fail
  refine HC.out.mono ?_
  rintro e1 w1 ⟨rfl, g1, g2, g3⟩
  have HE := Lib.hid (And.intro (HH.out.kp g1 g3 (Y := X)) (And.intro g2 g3))
  clear g1 g2 g3 HC y1 y2 y3
  go_wp2_with fail
  go_ret
  exact ⟨rfl, HE.out⟩
/-- what Append leaves -/
def AppR (X : Nat → Prop) (B d jb N : Nat) (nm : ByteArray) (w : World) (sz len : Nat) (r : Ad × Int) (e : Ending) (w' : World) : Prop :=
  e = .returned (.int .i64 r.2) ∧ Jn X B d jb nm ((if r.2 = 0 then sz + (8 + len) else sz : Nat) : Int) N r.1 w' ∧ Below B w w' ∧ ∀ j, X j → j ≠ jb → w'.heap[j]? = w.heap[j]?
set_option maxRecDepth 100000 in
set_option maxHeartbeats 8000000 in
theorem jappend_c {X : Nat → Prop} {B d jb N sz : Nat} {nm : ByteArray} {A : Ad} {w : World} (h : Jn X B d jb nm (sz : Int) N A w) (hN : N < 100000000) (hn : nm.size ≤ 1000) (hsz : sz ≤ 1000000000000) (pa : Option Addr) (pn pc : Nat) (p : List Nat) (hr : Rd w pa pn p) (hnil : pa = none → pc = 0) (hpn : pn ≤ 1048568) :
    Calls Try.prog 40 #[.pointer (some ⟨jb, 0, none⟩), .slice pa pn pc] w (AppR X B d jb (N + 3) nm w sz pn (A.step ⟨1, nm, ⟨#[]⟩, Frm.frameL p⟩)) := by
  have hpl := hr.1
  have hfit : (pn : Int) ≤ 1048568 := by omega
  have hfd : decide ((pn : Int) ≤ 1048568) = true := decide_eq_true hfit
  have HFR := Lib.hid ((frame_c pa pn pc p w hr hnil (by omega)).mono (RetB.form (Frm.frame_byte p hr.2.1)))
  have HH := Lib.hid h
  have HFI := Lib.hid (show Calls Try.prog 55 #[.slice pa pn pc] w fun e w' => e = .returned (.bool true) ∧ w' = w from by
    clear HFR HH h hr hnil hpn hpl
    go_enter Try.func55, Try.ntmps55
    go_wp2_with fail
    go_ret
    exact ⟨rfl, rfl⟩)
  have hnl : nm.size ≤ maxLen := by unfold maxLen; omega
  have HPL := Lib.hid hpl
  have HNL := Lib.hid hnl
  have HXB := Lib.hid (show B ≤ w.heap.size from Nat.le_of_lt (Nat.lt_of_le_of_lt h.dx.base.1 h.dx.base.2))
  have HPN := Lib.hid hpn
  clear h hr hnil hpn hpl hfit hfd hnl
  go_enter Try.func40, Try.ntmps40
  go_wp2_with fail
  refine HFI.out.mono ?_
  rintro e1 w1 ⟨rfl, rfl⟩
  go_wp2_with fail
  refine HFR.out.mono ?_
  rintro e3 w3 ⟨a3, L3, c3, rfl, hl3, hlc3, hcm3, hn3, hr3, ho3, hb3⟩
  have hbd : Below w3.heap.size w3 (World.drew w3) := below_drewN' _ w3 1
  have hb4 := hb3.trans (hbd.mono hb3.size)
  have HJ := Lib.hid (HH.out.below hb4)
  have hd4 : Dx (fun j => X j ∨ ∃ o s, a3 = some ⟨j, o, s⟩) B d N A (World.drew w3) := HH.out.dx.belowY hb4 (fun j hj => hj.imp id fun ⟨o, s, e⟩ => (own_blk ho3 j o s e).1) (fun j hj => hj.elim (fun e => Nat.lt_of_lt_of_le (HH.out.dx.lt j e) hb4.size) fun ⟨o, s, e⟩ => (own_blk ho3 j o s e).2)
  have HC := Lib.hid (hd4.append nm HNL.out a3 L3 c3 (Frm.frameL p) (hr3.below hbd) (fun b o sp e _ => .inr (.inr ⟨o, sp, e⟩)) hn3 (by omega))
  have HL3 := Lib.hid (show L3 = 8 + pn from by rw [← hl3, Frm.frame_len, HPL.out])
  have HB4 := Lib.hid hb4
  obtain ⟨r, hrr⟩ : ∃ r, A.step ⟨1, nm, ⟨#[]⟩, Frm.frameL p⟩ = r := ⟨_, rfl⟩
  rw [hrr] at HC
  have HRR := Lib.hid hrr
  obtain ⟨A', x⟩ := r
  clear hl3 hlc3 hcm3 hn3 hr3 ho3 hb3 hbd hb4 hd4 HFR HFI hrr
  go_upto_region 6 with fail
  have HS := Lib.hid (show HasC [(⟨jb, 0, none⟩, .pointer (some ⟨d, 0, none⟩)), (⟨jb, 1, none⟩, .string nm)] (World.drew w3) from by
    obtain ⟨g1, g2, g3⟩ := HJ.out.cells
    intro p hp
    simp only [List.mem_cons, List.not_mem_nil, or_false] at hp
    rcases hp with rfl | rfl
    · exact g1
    · exact g2)
  have HL1 := Lib.hid (fun W (hW : HasC [(⟨jb, 0, none⟩, .pointer (some ⟨d, 0, none⟩)), (⟨jb, 1, none⟩, .string nm)] W) => run_cell_disk W ⟨jb, 0, none⟩ _ (hW (⟨jb, 0, none⟩, .pointer (some ⟨d, 0, none⟩)) (by simp)))
  have HL2 := Lib.hid (fun W (hW : HasC [(⟨jb, 0, none⟩, .pointer (some ⟨d, 0, none⟩)), (⟨jb, 1, none⟩, .string nm)] W) => run_cell_s W ⟨jb, 1, none⟩ nm (hW (⟨jb, 1, none⟩, .string nm) (by simp)))
  refine anyH_begin (S := HasC [(⟨jb, 0, none⟩, .pointer (some ⟨d, 0, none⟩)), (⟨jb, 1, none⟩, .string nm)]) (by kernel_rfl) ?_
  refine anyH_pureG 0 (d := 16) (op := .move (.tmp 0)) (gd := none) (.pointer (some ⟨jb, 0, none⟩)) (by rfl) (fun o ho => wanted_plain ho _) (by kernel_rfl) (by kernel_rfl) (by kernel_rfl) (fun _ _ _ h => h) (fun o ho W hW => by unfold execOp; simp only [ho]; go_simp) HS.out ?_
  simp only [Act.put, List.setIfInBounds_toArray, List.set_cons_zero, List.set_cons_succ]
  refine anyH_pureG 1 (d := 17) (op := .nilCheck (.tmp 16)) (gd := none) (.pointer (some ⟨jb, 0, none⟩)) (by rfl) (fun o ho => wanted_plain ho _) (by kernel_rfl) (by kernel_rfl) (by kernel_rfl) (fun _ _ _ h => h) (fun o ho W hW => by unfold execOp; simp only [ho]; go_simp) HS.out ?_
  simp only [Act.put, List.setIfInBounds_toArray, List.set_cons_zero, List.set_cons_succ]
  refine anyH_pureG 2 (d := 18) (op := .fieldAddr 82 (.tmp 17) 0) (gd := none) (.pointer (some ⟨jb, 0, none⟩)) (by rfl) (fun o ho => wanted_plain ho _) (by kernel_rfl) (by kernel_rfl) (by kernel_rfl) (fun _ _ _ h => h) (fun o ho W hW => by unfold execOp; simp only [ho]; go_simp) HS.out ?_
  simp only [Act.put, List.setIfInBounds_toArray, List.set_cons_zero, List.set_cons_succ]
  refine anyH_loadG 3 (d := 19) (ty := 24) (x := (.tmp 18)) (gd := none) (p := .pointer (some ⟨jb, 0, none⟩)) (.pointer (some ⟨d, 0, none⟩)) (by rfl) (fun o ho => wanted_plain ho _) (by kernel_rfl) (by kernel_rfl) (by kernel_rfl) (fun _ _ _ h => h) (by rfl) HL1.out HS.out ?_
  simp only [Act.put, List.setIfInBounds_toArray, List.set_cons_zero, List.set_cons_succ]
  refine anyH_pureG 4 (d := 20) (op := .move (.tmp 0)) (gd := none) (.pointer (some ⟨jb, 0, none⟩)) (by rfl) (fun o ho => wanted_plain ho _) (by kernel_rfl) (by kernel_rfl) (by kernel_rfl) (fun _ _ _ h => h) (fun o ho W hW => by unfold execOp; simp only [ho]; go_simp) HS.out ?_
  simp only [Act.put, List.setIfInBounds_toArray, List.set_cons_zero, List.set_cons_succ]
  refine anyH_pureG 5 (d := 21) (op := .nilCheck (.tmp 20)) (gd := none) (.pointer (some ⟨jb, 0, none⟩)) (by rfl) (fun o ho => wanted_plain ho _) (by kernel_rfl) (by kernel_rfl) (by kernel_rfl) (fun _ _ _ h => h) (fun o ho W hW => by unfold execOp; simp only [ho]; go_simp) HS.out ?_
  simp only [Act.put, List.setIfInBounds_toArray, List.set_cons_zero, List.set_cons_succ]
  refine anyH_pureG 6 (d := 22) (op := .fieldAddr 82 (.tmp 21) 1) (gd := none) (.pointer (some ⟨jb, 1, none⟩)) (by rfl) (fun o ho => wanted_plain ho _) (by kernel_rfl) (by kernel_rfl) (by kernel_rfl) (fun _ _ _ h => h) (fun o ho W hW => by unfold execOp; simp only [ho]; go_simp) HS.out ?_
  simp only [Act.put, List.setIfInBounds_toArray, List.set_cons_zero, List.set_cons_succ]
  refine anyH_loadG 7 (d := 23) (ty := 9) (x := (.tmp 22)) (gd := none) (p := .pointer (some ⟨jb, 1, none⟩)) (.string nm) (by rfl) (fun o ho => wanted_plain ho _) (by kernel_rfl) (by kernel_rfl) (by kernel_rfl) (fun _ _ _ h => h) (by rfl) HL2.out HS.out ?_
  simp only [Act.put, List.setIfInBounds_toArray, List.set_cons_zero, List.set_cons_succ]
  refine anyH_pureG 8 (d := 24) (op := .move (.tmp 5)) (gd := none) (.slice a3 L3 c3) (by rfl) (fun o ho => wanted_plain ho _) (by kernel_rfl) (by kernel_rfl) (by kernel_rfl) (fun _ _ _ h => h) (fun o ho W hW => by unfold execOp; simp only [ho]; go_simp) HS.out ?_
  simp only [Act.put, List.setIfInBounds_toArray, List.set_cons_zero, List.set_cons_succ]
  refine anyH_callG 9 (d := some 25) (f := 57) (xs := #[(.tmp 19), (.tmp 23), (.tmp 24)]) (ts := #[24, 9, 41]) (gd := none) (vs := #[.pointer (some ⟨d, 0, none⟩), .string nm, .slice a3 L3 c3]) (by kernel_rfl) (by rfl) (fun o ho => wanted_plain ho _) (by go_simp) (by go_simp) (HC.out) ?_
  rintro e5 w5 ⟨rfl, g1, g2, g3⟩
  have HS5 := Lib.hid (show HasC [(⟨jb, 0, none⟩, .pointer (some ⟨d, 0, none⟩)), (⟨jb, 1, none⟩, .string nm)] w5 from HS.out.kp g3 (by simp [HH.out.xj]))
  have HG := Lib.hid (And.intro g1 (And.intro g2 g3))
  clear g1 g2 g3
  refine ⟨_, rfl, HS5.out, fun hS => ?_⟩
  clear hS
  simp only [Act.put, List.setIfInBounds_toArray, List.set_cons_zero, List.set_cons_succ]
  refine anyH_pureG 10 (d := 6) (op := .assign (.tmp 25)) (gd := none) (.int .i64 x) (by rfl) (fun o ho => wanted_plain ho _) (by kernel_rfl) (by kernel_rfl) (by kernel_rfl) (fun _ _ _ h => h) (fun o ho W hW => by unfold execOp; simp only [ho]; go_simp) HS5.out ?_
  simp only [Act.put, List.setIfInBounds_toArray, List.set_cons_zero, List.set_cons_succ]
  refine wpAnyH_done (by kernel_rfl) ?_ _
  clear HL1 HL2 HS HS5 HC
  obtain ⟨g1, g2, g3⟩ := HG.out
  have hj5 : Jn X B d jb nm (sz : Int) (N + 3) A' w5 := ⟨g1.less fun j hj => .inl hj, HH.out.xj, HH.out.bj, (g3 jb (.inl HH.out.xj)).trans HJ.out.row⟩
  have HJ5 := Lib.hid hj5
  have hb5 : Below B w1 w5 := (HB4.out.mono HXB.out).trans g2
  have HB5 := Lib.hid hb5
  have HK5 := Lib.hid (show ∀ j, X j → w5.heap[j]? = w1.heap[j]? from fun j hj => (g3 j (.inl hj)).trans (HB4.out.block j (HH.out.dx.lt j hj)))
  clear g1 g2 g3 hj5 hb5 HG
  by_cases h0 : x = 0
  · subst h0
    obtain ⟨z1, z2, z3⟩ := HJ5.out.cells
    have z4 := HJ5.out.frozen
    have hw : wrap64 ((sz : Int) + (L3 : Int)) = ((sz + (8 + pn) : Nat) : Int) := by have := HL3.out; have := HPN.out; rw [wrap64_id (by omega) (by omega)]; omega
    have HE := Lib.hid (show AppR X B d jb (N + 3) nm w1 sz pn (A.step ⟨1, nm, ⟨#[]⟩, Frm.frameL p⟩) (.returned (.int .i64 0)) (w5.setCell ⟨jb, 2, none⟩ (.int .i64 (wrap64 ((sz : Int) + (L3 : Int))))) from by
      rw [HRR.out, hw]
      obtain ⟨s1, s2, s3, s4⟩ := HJ5.out.set ((sz + (8 + pn) : Nat) : Int)
      refine ⟨rfl, ?_, HB5.out.trans s4, fun j hj hne => (s3 j hne).trans (HK5.out j hj)⟩
      rw [if_pos rfl]
      exact s1)
    clear hw
    go_wp2_with fail
    go_ret
    exact HE.out
  · have hx0 : (x != 0) = true := by simp [h0]
    have HE := Lib.hid (show AppR X B d jb (N + 3) nm w1 sz pn (A.step ⟨1, nm, ⟨#[]⟩, Frm.frameL p⟩) (.returned (.int .i64 x)) w5 from by
      rw [HRR.out]
      refine ⟨rfl, ?_, HB5.out, fun j hj _ => HK5.out j hj⟩
      rw [if_neg h0]
      exact HJ5.out)
    go_wp2_with fail
    go_ret
    exact HE.out
/-- what Rewrite leaves -/
def RwR (X : Nat → Prop) (B d jb N : Nat) (nm : ByteArray) (w : World) (sz : Int) (len : Nat) (r : Ad × Int) (e : Ending) (w' : World) : Prop :=
  e = .returned (.int .i64 r.2) ∧ Jn X B d jb nm (if r.2 = 0 then (len : Int) else sz) N r.1 w' ∧ Below B w w' ∧ ∀ j, X j → j ≠ jb → w'.heap[j]? = w.heap[j]?
end Go.Proofs.Ytihbgigledmliaa
