/-
  A journal's steps in order, each a function value: up to the first one that has an error. A journal's steps on the abstract disk, plain; the closures of rewrite and load. A journal appends the frames of records to a file. A journal is rewritten.
-/
import Derived.Test.YtihbgigledmliaaBib
import Derived.Test.YtihbgigledmliaaJpk
import Derived.Test.YtihbgigledmliaaDcg
namespace Go.Proofs.Ytihbgigledmliaa
open Go.RowKit
set_option linter.unusedVariables false
theorem run_jstep_idx (W : World) (b len cap i : Nat) (hi : i < len) : (Instr.indexAt 127 (.slice (some ⟨b, 0, none⟩) len cap) (.int .i64 (i : Int))).run Try.prog W = .ok (.pointer (some ⟨b, i, none⟩)) W := by
  rw [run_indexAt_slice W 127 ⟨b, 0, none⟩ len cap .i64 (i : Int) (by kernel_rfl)]
  have h1 : (0 : Int) ≤ (i : Int) ∧ (i : Int) < (len : Int) := by omega
  rw [if_pos h1, show (Go.sizeOf (Try.prog.elem 127)).run Try.prog W = .ok 1 W from by kernel_rfl]
  simp [Result.andThen, Addr.add]
  exact fun h => h.symm
set_option maxRecDepth 100000 in
set_option maxHeartbeats 4000000 in
theorem jorder_c (b n : Nat) (S : Nat → Stp) (Q : Nat → World → Prop) (Fin : Int → World → Prop) (w : World) (hn : n ≤ 1000) (h0 : Q 0 w)
    (hent : ∀ i, i < n → ∀ args W, (callFunc (S i).f args).run Try.prog W = .ok (.enter (S i).f args) W)
    (hcell : ∀ i, i < n → ∀ W, Q i W → W.cell? ⟨b, i, none⟩ = some (S i).val)
    (hstep : ∀ i, i < n → ∀ W, Q i W → Calls Try.prog (S i).f ((S i).A ++ (S i).C) W fun e w' => ∃ x, e = .returned (.int .i64 x) ∧ (x = 0 ∧ Q (i + 1) w' ∨ x ≠ 0 ∧ Fin x w')) :
    Calls Try.prog 49 #[.slice (some ⟨b, 0, none⟩) n n] w fun e w' => ∃ x, e = .returned (.int .i64 x) ∧ (x = 0 ∧ Q n w' ∨ x ≠ 0 ∧ Fin x w') := by
  have HC := Lib.hid hcell
  have HE := Lib.hid hent
  have HS := Lib.hid hstep
  have H0 := Lib.hid h0
  clear hcell hstep h0 hent
  go_enter Try.func49, Try.ntmps49
  go_wp2_with fail
  go_loopw [8] (fun i wr => ∃ k : Nat, k ≤ n ∧ i = .int .i64 k ∧ Hid (Q k wr)) (fun i _ => n - (intOf i).toNat)
  case atStart => exact ⟨0, Nat.zero_le _, rfl, H0⟩
  case round =>
    clear H0
    obtain ⟨k, hk, rfl, HQ⟩ := hrel
    by_cases hkn : k < n
    · have c0 := HC.out k hkn wr HQ.out
      have hst := HS.out k hkn wr HQ.out
      have hen := HE.out k hkn
      generalize S k = s at c0 hst hen
      obtain ⟨f, A, C⟩ := s
      have c1 : wr.cell? ⟨b, k, none⟩ = some (.func (.func f) A C) := c0
      clear c0
      have hst : Calls Try.prog f (A ++ C) wr fun e w' => ∃ x, e = .returned (.int .i64 x) ∧ (x = 0 ∧ Q (k + 1) w' ∨ x ≠ 0 ∧ Fin x w') := hst
      have hen : ∀ args W, (callFunc f args).run Try.prog W = .ok (.enter f args) W := hen
      have hix := fun W => run_jstep_idx W b n n k hkn
      have HST := Lib.hid hst
      clear hst HQ
      go_wp2_with fail
      refine HST.out.mono ?_
      rintro e w' ⟨x, rfl, hx⟩
      rcases hx with ⟨rfl, hq⟩ | ⟨hx, hf⟩
      · have HQ1 := Lib.hid hq
        clear hq HST c1 hix
        go_wp2_with fail
        go_roundw
        case rel => exact ⟨k + 1, by omega, by go_num, HQ1⟩
        case measure => simp [intOf]; omega
      · have HF := Lib.hid hf
        have hxx : (x != 0) = true := by simp [hx]
        clear hf HST c1 hix
        go_wp2_with fail
        go_ret
        exact ⟨x, rfl, .inr ⟨hx, HF.out⟩⟩
    · obtain rfl : k = n := by omega
      have HQ2 := Lib.hid HQ.out
      clear HQ
      go_wp2_with fail
      go_ret
      exact ⟨0, rfl, .inl ⟨rfl, HQ2.out⟩⟩
/-- steps of a journal, in order, on a disk -/
theorem jorder_ad {X : Nat → Prop} {B d N : Nat} {A : Ad} {w : World} (h : Dx X B d N A w) (b n : Nat) (S : Nat → Stp) (fs : List (Ad → Ad × Int)) (hn : fs.length = n) (hn1 : n ≤ 1000)
    (hb : X b) (hcell : ∀ i, i < n → w.cell? ⟨b, i, none⟩ = some (S i).val)
    (hent : ∀ i, i < n → ∀ args W, (callFunc (S i).f args).run Try.prog W = .ok (.enter (S i).f args) W)
    (hstep : ∀ i f, fs[i]? = some f → ∀ A1 W, Dx X B d (N + 3 * i) A1 W → Below B w W → KpD X w W → Calls Try.prog (S i).f ((S i).A ++ (S i).C) W (DxR X B d (N + 3 * i + 3) W (f A1))) :
    Calls Try.prog 49 #[.slice (some ⟨b, 0, none⟩) n n] w (DxR X B d (N + 3 * n) w (runA fs A)) := by
  refine (jorder_c b n S (fun i W => ∃ A1, runA (fs.take i) A = (A1, 0) ∧ Dx X B d (N + 3 * i) A1 W ∧ Below B w W ∧ KpD X w W) (fun x W => ∃ A1, runA fs A = (A1, x) ∧ Dx X B d (N + 3 * n) A1 W ∧ Below B w W ∧ KpD X w W) w hn1 ⟨A, rfl, h, Below.refl _ _, KpD.refl _ _⟩ hent ?_ ?_).mono ?_
  · rintro i hi W ⟨A1, h1, h2, h3, h4⟩
    rw [World.cell?_of_block (h4 b hb)]
    exact hcell i hi
  · rintro i hi W ⟨A1, h1, h2, h3, h4⟩
    obtain ⟨f, hf⟩ : ∃ f, fs[i]? = some f := ⟨_, List.getElem?_eq_getElem (by omega)⟩
    obtain ⟨r1, r2⟩ := runA_at hf h1
    refine (hstep i f hf A1 W h2 h3 h4).mono ?_
    rintro e w' ⟨rfl, k1, k2, k3⟩
    refine ⟨_, rfl, ?_⟩
    by_cases h0 : (f A1).2 = 0
    · exact .inl ⟨h0, _, r1 h0, k1.mono (by omega), h3.trans k2, h4.trans k3⟩
    · exact .inr ⟨h0, (f A1).1, r2 h0, k1.mono (by omega), h3.trans k2, h4.trans k3⟩
  · rintro e w' ⟨x, rfl, h1⟩
    rcases h1 with ⟨rfl, A1, h2, h3, h4, h5⟩ | ⟨hx, A1, h2, h3, h4, h5⟩
    · have h6 : fs.take n = fs := List.take_of_length_le (by omega)
      rw [h6] at h2
      rw [h2]
      exact ⟨rfl, h3, h4, h5⟩
    · rw [h2]
      exact ⟨rfl, h3, h4, h5⟩
end Go.Proofs.Ytihbgigledmliaa
namespace Go.Proofs.Ytihbgigledmliaa
open Go.RowKit
set_option linter.unusedVariables false
/-- cells that hold what they held -/
def HasC (L : List (Addr × Value)) (W : World) : Prop := ∀ p ∈ L, W.cell? p.1 = some p.2
theorem HasC.kp {L : List (Addr × Value)} {X : Nat → Prop} {W W' : World} (h : HasC L W) (hk : KpD X W W') (hx : ∀ p ∈ L, X p.1.block) : HasC L W' := fun p hp => (World.cell?_of_block (hk p.1.block (hx p hp))).trans (h p hp)
theorem HasC.below {L : List (Addr × Value)} {W W' : World} (h : HasC L W) (hb : Below W.heap.size W W') (hx : ∀ p ∈ L, p.1.block < W.heap.size) : HasC L W' := fun p hp => (hb.cell (p := p.1) (hx p hp)).trans (h p hp)
theorem run_cell_jn (W : World) (a : Addr) (v : Option Addr) (hc : W.cell? a = some (.pointer v)) : (Instr.loadAt 54 (.pointer (some a))).run Try.prog W = .ok (.pointer v) W := by go_simp
theorem run_cell_bb (W : World) (a : Addr) (v : Option Addr) (l c : Nat) (hc : W.cell? a = some (.slice v l c)) : (Instr.loadAt 55 (.pointer (some a))).run Try.prog W = .ok (.slice v l c) W := by go_simp
def rmA (s : ByteArray) (A : Ad) : Ad × Int := ((A.step ⟨2, s, ⟨#[]⟩, []⟩).1, if (A.step ⟨2, s, ⟨#[]⟩, []⟩).2 = 6 then 0 else (A.step ⟨2, s, ⟨#[]⟩, []⟩).2)
def mkA (s : ByteArray) (A : Ad) : Ad × Int := A.step ⟨0, s, ⟨#[]⟩, []⟩
/-- bytes that are appended at once, if there are some -/
def apF (s : ByteArray) (z : List Nat) (A : Ad) : Ad × Int := if z = [] then (A, 0) else A.step ⟨1, s, ⟨#[]⟩, z⟩
def mvA (s t : ByteArray) (A : Ad) : Ad × Int := A.step ⟨3, s, t, []⟩
set_option maxRecDepth 100000 in
set_option maxHeartbeats 8000000 in
theorem rmany_c {X : Nat → Prop} {B d N : Nat} {A : Ad} {W : World} (h : Dx X B d N A W) (hN : N < 1000000000) (s : ByteArray) (hs : s.size ≤ maxLen) :
    Calls Try.prog 75 #[.pointer (some ⟨d, 0, none⟩), .string s] W (DxR X B d (N + 3) W (rmA s A)) := by
  have HC := Lib.hid (h.remove s hs hN)
  unfold rmA
  obtain ⟨r, hr⟩ : ∃ r, A.step ⟨2, s, ⟨#[]⟩, []⟩ = r := ⟨_, rfl⟩
  rw [hr] at HC ⊢
  obtain ⟨A', x⟩ := r
  clear h hr
  by_cases hx : x = 6
  · subst hx
    go_enter Try.func75, Try.ntmps75
    go_wp2_with fail
    refine HC.out.mono ?_
    rintro e w' ⟨rfl, h2, h3⟩
    have HE := Lib.hid (And.intro h2 h3)
    clear h2 h3 HC
    go_wp2_with fail
    go_ret
    exact ⟨rfl, HE.out⟩
  · have hxx : (x == 6) = false := by simp [hx]
    simp only [if_neg hx]
    go_enter Try.func75, Try.ntmps75
    go_wp2_with fail
    refine HC.out.mono ?_
    rintro e w' ⟨rfl, h2, h3⟩
    have HE := Lib.hid (And.intro h2 h3)
    clear h2 h3 HC
    go_wp2_with fail
    go_ret
    exact ⟨rfl, HE.out⟩
set_option maxRecDepth 100000 in
set_option maxHeartbeats 8000000 in
theorem jrm_c {X : Nat → Prop} {B d N b2 b5 jb : Nat} {A : Ad} {W : World} (h : Dx X B d N A W) (hN : N < 1000000000) (sp : ByteArray) (hs : sp.size ≤ maxLen) (he : HasC [(⟨b2, 0, none⟩, .pointer (some ⟨jb, 0, none⟩)), (⟨jb, 0, none⟩, .pointer (some ⟨d, 0, none⟩)), (⟨b5, 0, none⟩, .string sp)] W) (hx : ∀ p ∈ ([(⟨b2, 0, none⟩, .pointer (some ⟨jb, 0, none⟩)), (⟨jb, 0, none⟩, .pointer (some ⟨d, 0, none⟩)), (⟨b5, 0, none⟩, .string sp)] : List (Addr × Value)), X p.1.block) :
    Calls Try.prog 74 #[.pointer (some ⟨b2, 0, none⟩), .pointer (some ⟨b5, 0, none⟩)] W (DxR X B d (N + 3) W (rmA sp A)) := by
  have h3d : Below B W (World.drew W) := below_drewN' _ W 1
  have hd := h.below (w' := World.drew W) (below_drewN' _ W 1)
  have HC := Lib.hid (show Calls Try.prog _ _ (World.drew W) (DxR X B d (N + 3) (World.drew W) (rmA sp A)) from rmany_c hd hN sp hs)
  unfold DxR at HC
  obtain ⟨x, hxx⟩ : ∃ x, (rmA sp A).2 = x := ⟨_, rfl⟩
  rw [hxx] at HC
  have HX := Lib.hid hxx
  have HXL := Lib.hid hx
  have HBD := Lib.hid h3d
  have HS := Lib.hid (show HasC [(⟨b2, 0, none⟩, .pointer (some ⟨jb, 0, none⟩)), (⟨jb, 0, none⟩, .pointer (some ⟨d, 0, none⟩)), (⟨b5, 0, none⟩, .string sp)] (World.drew W) from fun p hp => he p hp)
  clear h hd hxx he h3d hx
  go_enter Try.func74, Try.ntmps74
  go_upto_region 1 with fail
  have HL0 := Lib.hid (fun W (hW : HasC [(⟨b2, 0, none⟩, .pointer (some ⟨jb, 0, none⟩)), (⟨jb, 0, none⟩, .pointer (some ⟨d, 0, none⟩)), (⟨b5, 0, none⟩, .string sp)] W) => run_cell_jn W ⟨b2, 0, none⟩ _ (hW (⟨b2, 0, none⟩, .pointer (some ⟨jb, 0, none⟩)) (by simp)))
  have HL1 := Lib.hid (fun W (hW : HasC [(⟨b2, 0, none⟩, .pointer (some ⟨jb, 0, none⟩)), (⟨jb, 0, none⟩, .pointer (some ⟨d, 0, none⟩)), (⟨b5, 0, none⟩, .string sp)] W) => run_cell_disk W ⟨jb, 0, none⟩ _ (hW (⟨jb, 0, none⟩, .pointer (some ⟨d, 0, none⟩)) (by simp)))
  have HL2 := Lib.hid (fun W (hW : HasC [(⟨b2, 0, none⟩, .pointer (some ⟨jb, 0, none⟩)), (⟨jb, 0, none⟩, .pointer (some ⟨d, 0, none⟩)), (⟨b5, 0, none⟩, .string sp)] W) => run_cell_s W ⟨b5, 0, none⟩ sp (hW (⟨b5, 0, none⟩, .string sp) (by simp)))
  have h3d := HBD.out
  refine anyH_begin (S := HasC [(⟨b2, 0, none⟩, .pointer (some ⟨jb, 0, none⟩)), (⟨jb, 0, none⟩, .pointer (some ⟨d, 0, none⟩)), (⟨b5, 0, none⟩, .string sp)]) (by kernel_rfl) ?_
  refine anyH_loadG 0 (d := 3) (ty := 54) (x := (.tmp 0)) (gd := none) (p := .pointer (some ⟨b2, 0, none⟩)) (.pointer (some ⟨jb, 0, none⟩)) (by rfl) (fun o ho => wanted_plain ho _) (by kernel_rfl) (by kernel_rfl) (by kernel_rfl) (fun _ _ _ h => h) (by rfl) HL0.out HS.out ?_
  simp only [Act.put, List.setIfInBounds_toArray, List.set_cons_zero, List.set_cons_succ]
  refine anyH_pureG 1 (d := 4) (op := .nilCheck (.tmp 3)) (gd := none) (.pointer (some ⟨jb, 0, none⟩)) (by rfl) (fun o ho => wanted_plain ho _) (by kernel_rfl) (by kernel_rfl) (by kernel_rfl) (fun _ _ _ h => h) (fun o ho W hW => by unfold execOp; simp only [ho]; go_simp) HS.out ?_
  simp only [Act.put, List.setIfInBounds_toArray, List.set_cons_zero, List.set_cons_succ]
  refine anyH_pureG 2 (d := 5) (op := .fieldAddr 82 (.tmp 4) 0) (gd := none) (.pointer (some ⟨jb, 0, none⟩)) (by rfl) (fun o ho => wanted_plain ho _) (by kernel_rfl) (by kernel_rfl) (by kernel_rfl) (fun _ _ _ h => h) (fun o ho W hW => by unfold execOp; simp only [ho]; go_simp) HS.out ?_
  simp only [Act.put, List.setIfInBounds_toArray, List.set_cons_zero, List.set_cons_succ]
  refine anyH_loadG 3 (d := 6) (ty := 24) (x := (.tmp 5)) (gd := none) (p := .pointer (some ⟨jb, 0, none⟩)) (.pointer (some ⟨d, 0, none⟩)) (by rfl) (fun o ho => wanted_plain ho _) (by kernel_rfl) (by kernel_rfl) (by kernel_rfl) (fun _ _ _ h => h) (by rfl) HL1.out HS.out ?_
  simp only [Act.put, List.setIfInBounds_toArray, List.set_cons_zero, List.set_cons_succ]
  refine anyH_loadG 4 (d := 7) (ty := 9) (x := (.tmp 1)) (gd := none) (p := .pointer (some ⟨b5, 0, none⟩)) (.string sp) (by rfl) (fun o ho => wanted_plain ho _) (by kernel_rfl) (by kernel_rfl) (by kernel_rfl) (fun _ _ _ h => h) (by rfl) HL2.out HS.out ?_
  simp only [Act.put, List.setIfInBounds_toArray, List.set_cons_zero, List.set_cons_succ]
  refine anyH_callG 5 (d := some 8) (f := 75) (xs := #[(.tmp 6), (.tmp 7)]) (ts := #[24, 9]) (gd := none) (vs := #[.pointer (some ⟨d, 0, none⟩), .string sp]) (by kernel_rfl) (by rfl) (fun o ho => wanted_plain ho _) (by go_simp) (by go_simp) (HC.out) ?_
  rintro e2 w2 ⟨rfl, h2, h3, h4⟩
  have HE := Lib.hid (show DxR X B d (N + 3) W (rmA sp A) (.returned (.int .i64 x)) w2 from ⟨by rw [HX.out], h2, h3d.trans h3, fun j hj => (h4 j hj).trans rfl⟩)
  have HS2 := Lib.hid (show HasC [(⟨b2, 0, none⟩, .pointer (some ⟨jb, 0, none⟩)), (⟨jb, 0, none⟩, .pointer (some ⟨d, 0, none⟩)), (⟨b5, 0, none⟩, .string sp)] w2 from HS.out.kp h4 HXL.out)
  clear h2 h3 h4
  refine ⟨_, rfl, HS2.out, fun hS => ?_⟩
  clear hS
  simp only [Act.put, List.setIfInBounds_toArray, List.set_cons_zero, List.set_cons_succ]
  refine anyH_pureG 6 (d := 2) (op := .assign (.tmp 8)) (gd := none) (.int .i64 x) (by rfl) (fun o ho => wanted_plain ho _) (by kernel_rfl) (by kernel_rfl) (by kernel_rfl) (fun _ _ _ h => h) (fun o ho W hW => by unfold execOp; simp only [ho]; go_simp) HS2.out ?_
  simp only [Act.put, List.setIfInBounds_toArray, List.set_cons_zero, List.set_cons_succ]
  refine wpAnyH_done (by kernel_rfl) ?_ _
  clear HS HS2 HC HL0 HL1 HL2
  go_wp2_with fail
  go_ret
  exact HE.out
set_option maxRecDepth 100000 in
set_option maxHeartbeats 8000000 in
theorem jmk_c {X : Nat → Prop} {B d N b2 b5 jb : Nat} {A : Ad} {W : World} (h : Dx X B d N A W) (hN : N < 1000000000) (sp : ByteArray) (hs : sp.size ≤ maxLen) (he : HasC [(⟨b2, 0, none⟩, .pointer (some ⟨jb, 0, none⟩)), (⟨jb, 0, none⟩, .pointer (some ⟨d, 0, none⟩)), (⟨b5, 0, none⟩, .string sp)] W) (hx : ∀ p ∈ ([(⟨b2, 0, none⟩, .pointer (some ⟨jb, 0, none⟩)), (⟨jb, 0, none⟩, .pointer (some ⟨d, 0, none⟩)), (⟨b5, 0, none⟩, .string sp)] : List (Addr × Value)), X p.1.block) :
    Calls Try.prog 76 #[.pointer (some ⟨b2, 0, none⟩), .pointer (some ⟨b5, 0, none⟩)] W (DxR X B d (N + 3) W (mkA sp A)) := by
  have h3d : Below B W (World.drew W) := below_drewN' _ W 1
  have hd := h.below (w' := World.drew W) (below_drewN' _ W 1)
  have HC := Lib.hid (show Calls Try.prog _ _ (World.drew W) (DxR X B d (N + 3) (World.drew W) (mkA sp A)) from hd.create sp hs hN)
  unfold DxR at HC
  obtain ⟨x, hxx⟩ : ∃ x, (mkA sp A).2 = x := ⟨_, rfl⟩
  rw [hxx] at HC
  have HX := Lib.hid hxx
  have HXL := Lib.hid hx
  have HBD := Lib.hid h3d
  have HS := Lib.hid (show HasC [(⟨b2, 0, none⟩, .pointer (some ⟨jb, 0, none⟩)), (⟨jb, 0, none⟩, .pointer (some ⟨d, 0, none⟩)), (⟨b5, 0, none⟩, .string sp)] (World.drew W) from fun p hp => he p hp)
  clear h hd hxx he h3d hx
  go_enter Try.func76, Try.ntmps76
  go_upto_region 1 with fail
  have HL0 := Lib.hid (fun W (hW : HasC [(⟨b2, 0, none⟩, .pointer (some ⟨jb, 0, none⟩)), (⟨jb, 0, none⟩, .pointer (some ⟨d, 0, none⟩)), (⟨b5, 0, none⟩, .string sp)] W) => run_cell_jn W ⟨b2, 0, none⟩ _ (hW (⟨b2, 0, none⟩, .pointer (some ⟨jb, 0, none⟩)) (by simp)))
  have HL1 := Lib.hid (fun W (hW : HasC [(⟨b2, 0, none⟩, .pointer (some ⟨jb, 0, none⟩)), (⟨jb, 0, none⟩, .pointer (some ⟨d, 0, none⟩)), (⟨b5, 0, none⟩, .string sp)] W) => run_cell_disk W ⟨jb, 0, none⟩ _ (hW (⟨jb, 0, none⟩, .pointer (some ⟨d, 0, none⟩)) (by simp)))
  have HL2 := Lib.hid (fun W (hW : HasC [(⟨b2, 0, none⟩, .pointer (some ⟨jb, 0, none⟩)), (⟨jb, 0, none⟩, .pointer (some ⟨d, 0, none⟩)), (⟨b5, 0, none⟩, .string sp)] W) => run_cell_s W ⟨b5, 0, none⟩ sp (hW (⟨b5, 0, none⟩, .string sp) (by simp)))
  have h3d := HBD.out
  refine anyH_begin (S := HasC [(⟨b2, 0, none⟩, .pointer (some ⟨jb, 0, none⟩)), (⟨jb, 0, none⟩, .pointer (some ⟨d, 0, none⟩)), (⟨b5, 0, none⟩, .string sp)]) (by kernel_rfl) ?_
  refine anyH_loadG 0 (d := 3) (ty := 54) (x := (.tmp 0)) (gd := none) (p := .pointer (some ⟨b2, 0, none⟩)) (.pointer (some ⟨jb, 0, none⟩)) (by rfl) (fun o ho => wanted_plain ho _) (by kernel_rfl) (by kernel_rfl) (by kernel_rfl) (fun _ _ _ h => h) (by rfl) HL0.out HS.out ?_
  simp only [Act.put, List.setIfInBounds_toArray, List.set_cons_zero, List.set_cons_succ]
  refine anyH_pureG 1 (d := 4) (op := .nilCheck (.tmp 3)) (gd := none) (.pointer (some ⟨jb, 0, none⟩)) (by rfl) (fun o ho => wanted_plain ho _) (by kernel_rfl) (by kernel_rfl) (by kernel_rfl) (fun _ _ _ h => h) (fun o ho W hW => by unfold execOp; simp only [ho]; go_simp) HS.out ?_
  simp only [Act.put, List.setIfInBounds_toArray, List.set_cons_zero, List.set_cons_succ]
  refine anyH_pureG 2 (d := 5) (op := .fieldAddr 82 (.tmp 4) 0) (gd := none) (.pointer (some ⟨jb, 0, none⟩)) (by rfl) (fun o ho => wanted_plain ho _) (by kernel_rfl) (by kernel_rfl) (by kernel_rfl) (fun _ _ _ h => h) (fun o ho W hW => by unfold execOp; simp only [ho]; go_simp) HS.out ?_
  simp only [Act.put, List.setIfInBounds_toArray, List.set_cons_zero, List.set_cons_succ]
  refine anyH_loadG 3 (d := 6) (ty := 24) (x := (.tmp 5)) (gd := none) (p := .pointer (some ⟨jb, 0, none⟩)) (.pointer (some ⟨d, 0, none⟩)) (by rfl) (fun o ho => wanted_plain ho _) (by kernel_rfl) (by kernel_rfl) (by kernel_rfl) (fun _ _ _ h => h) (by rfl) HL1.out HS.out ?_
  simp only [Act.put, List.setIfInBounds_toArray, List.set_cons_zero, List.set_cons_succ]
  refine anyH_loadG 4 (d := 7) (ty := 9) (x := (.tmp 1)) (gd := none) (p := .pointer (some ⟨b5, 0, none⟩)) (.string sp) (by rfl) (fun o ho => wanted_plain ho _) (by kernel_rfl) (by kernel_rfl) (by kernel_rfl) (fun _ _ _ h => h) (by rfl) HL2.out HS.out ?_
  simp only [Act.put, List.setIfInBounds_toArray, List.set_cons_zero, List.set_cons_succ]
  refine anyH_callG 5 (d := some 8) (f := 48) (xs := #[(.tmp 6), (.tmp 7)]) (ts := #[24, 9]) (gd := none) (vs := #[.pointer (some ⟨d, 0, none⟩), .string sp]) (by kernel_rfl) (by rfl) (fun o ho => wanted_plain ho _) (by go_simp) (by go_simp) (HC.out) ?_
  rintro e2 w2 ⟨rfl, h2, h3, h4⟩
  have HE := Lib.hid (show DxR X B d (N + 3) W (mkA sp A) (.returned (.int .i64 x)) w2 from ⟨by rw [HX.out], h2, h3d.trans h3, fun j hj => (h4 j hj).trans rfl⟩)
  have HS2 := Lib.hid (show HasC [(⟨b2, 0, none⟩, .pointer (some ⟨jb, 0, none⟩)), (⟨jb, 0, none⟩, .pointer (some ⟨d, 0, none⟩)), (⟨b5, 0, none⟩, .string sp)] w2 from HS.out.kp h4 HXL.out)
  clear h2 h3 h4
  refine ⟨_, rfl, HS2.out, fun hS => ?_⟩
  clear hS
  simp only [Act.put, List.setIfInBounds_toArray, List.set_cons_zero, List.set_cons_succ]
  refine anyH_pureG 6 (d := 2) (op := .assign (.tmp 8)) (gd := none) (.int .i64 x) (by rfl) (fun o ho => wanted_plain ho _) (by kernel_rfl) (by kernel_rfl) (by kernel_rfl) (fun _ _ _ h => h) (fun o ho W hW => by unfold execOp; simp only [ho]; go_simp) HS2.out ?_
  simp only [Act.put, List.setIfInBounds_toArray, List.set_cons_zero, List.set_cons_succ]
  refine wpAnyH_done (by kernel_rfl) ?_ _
  clear HS HS2 HC HL0 HL1 HL2
  go_wp2_with fail
  go_ret
  exact HE.out
set_option maxRecDepth 100000 in
set_option maxHeartbeats 8000000 in
theorem jmv_c {X : Nat → Prop} {B d N b2 b5 jb : Nat} {A : Ad} {W : World} (h : Dx X B d N A W) (hN : N < 1000000000) (nm sp : ByteArray) (hn : nm.size ≤ maxLen) (hs : sp.size ≤ maxLen) (he : HasC [(⟨b2, 0, none⟩, .pointer (some ⟨jb, 0, none⟩)), (⟨jb, 0, none⟩, .pointer (some ⟨d, 0, none⟩)), (⟨jb, 1, none⟩, .string nm), (⟨b5, 0, none⟩, .string sp)] W) (hx : ∀ p ∈ ([(⟨b2, 0, none⟩, .pointer (some ⟨jb, 0, none⟩)), (⟨jb, 0, none⟩, .pointer (some ⟨d, 0, none⟩)), (⟨jb, 1, none⟩, .string nm), (⟨b5, 0, none⟩, .string sp)] : List (Addr × Value)), X p.1.block) :
    Calls Try.prog 79 #[.pointer (some ⟨b2, 0, none⟩), .pointer (some ⟨b5, 0, none⟩)] W (DxR X B d (N + 3) W (mvA sp nm A)) := by
  have h3d : Below B W (World.drew W) := below_drewN' _ W 1
  have hd := h.below (w' := World.drew W) (below_drewN' _ W 1)
  have HC := Lib.hid (show Calls Try.prog _ _ (World.drew W) (DxR X B d (N + 3) (World.drew W) (mvA sp nm A)) from hd.rename sp nm hs hn hN)
  unfold DxR at HC
  obtain ⟨x, hxx⟩ : ∃ x, (mvA sp nm A).2 = x := ⟨_, rfl⟩
  rw [hxx] at HC
  have HX := Lib.hid hxx
  have HXL := Lib.hid hx
  have HBD := Lib.hid h3d
  have HS := Lib.hid (show HasC [(⟨b2, 0, none⟩, .pointer (some ⟨jb, 0, none⟩)), (⟨jb, 0, none⟩, .pointer (some ⟨d, 0, none⟩)), (⟨jb, 1, none⟩, .string nm), (⟨b5, 0, none⟩, .string sp)] (World.drew W) from fun p hp => he p hp)
  clear h hd hxx he h3d hx
  go_enter Try.func79, Try.ntmps79
  go_upto_region 1 with fail
  have HL0 := Lib.hid (fun W (hW : HasC [(⟨b2, 0, none⟩, .pointer (some ⟨jb, 0, none⟩)), (⟨jb, 0, none⟩, .pointer (some ⟨d, 0, none⟩)), (⟨jb, 1, none⟩, .string nm), (⟨b5, 0, none⟩, .string sp)] W) => run_cell_jn W ⟨b2, 0, none⟩ _ (hW (⟨b2, 0, none⟩, .pointer (some ⟨jb, 0, none⟩)) (by simp)))
  have HL1 := Lib.hid (fun W (hW : HasC [(⟨b2, 0, none⟩, .pointer (some ⟨jb, 0, none⟩)), (⟨jb, 0, none⟩, .pointer (some ⟨d, 0, none⟩)), (⟨jb, 1, none⟩, .string nm), (⟨b5, 0, none⟩, .string sp)] W) => run_cell_disk W ⟨jb, 0, none⟩ _ (hW (⟨jb, 0, none⟩, .pointer (some ⟨d, 0, none⟩)) (by simp)))
  have HL2 := Lib.hid (fun W (hW : HasC [(⟨b2, 0, none⟩, .pointer (some ⟨jb, 0, none⟩)), (⟨jb, 0, none⟩, .pointer (some ⟨d, 0, none⟩)), (⟨jb, 1, none⟩, .string nm), (⟨b5, 0, none⟩, .string sp)] W) => run_cell_s W ⟨jb, 1, none⟩ nm (hW (⟨jb, 1, none⟩, .string nm) (by simp)))
  have HL3 := Lib.hid (fun W (hW : HasC [(⟨b2, 0, none⟩, .pointer (some ⟨jb, 0, none⟩)), (⟨jb, 0, none⟩, .pointer (some ⟨d, 0, none⟩)), (⟨jb, 1, none⟩, .string nm), (⟨b5, 0, none⟩, .string sp)] W) => run_cell_s W ⟨b5, 0, none⟩ sp (hW (⟨b5, 0, none⟩, .string sp) (by simp)))
  have h3d := HBD.out
  refine anyH_begin (S := HasC [(⟨b2, 0, none⟩, .pointer (some ⟨jb, 0, none⟩)), (⟨jb, 0, none⟩, .pointer (some ⟨d, 0, none⟩)), (⟨jb, 1, none⟩, .string nm), (⟨b5, 0, none⟩, .string sp)]) (by kernel_rfl) ?_
  refine anyH_loadG 0 (d := 3) (ty := 54) (x := (.tmp 0)) (gd := none) (p := .pointer (some ⟨b2, 0, none⟩)) (.pointer (some ⟨jb, 0, none⟩)) (by rfl) (fun o ho => wanted_plain ho _) (by kernel_rfl) (by kernel_rfl) (by kernel_rfl) (fun _ _ _ h => h) (by rfl) HL0.out HS.out ?_
  simp only [Act.put, List.setIfInBounds_toArray, List.set_cons_zero, List.set_cons_succ]
  refine anyH_pureG 1 (d := 4) (op := .nilCheck (.tmp 3)) (gd := none) (.pointer (some ⟨jb, 0, none⟩)) (by rfl) (fun o ho => wanted_plain ho _) (by kernel_rfl) (by kernel_rfl) (by kernel_rfl) (fun _ _ _ h => h) (fun o ho W hW => by unfold execOp; simp only [ho]; go_simp) HS.out ?_
  simp only [Act.put, List.setIfInBounds_toArray, List.set_cons_zero, List.set_cons_succ]
  refine anyH_pureG 2 (d := 5) (op := .fieldAddr 82 (.tmp 4) 0) (gd := none) (.pointer (some ⟨jb, 0, none⟩)) (by rfl) (fun o ho => wanted_plain ho _) (by kernel_rfl) (by kernel_rfl) (by kernel_rfl) (fun _ _ _ h => h) (fun o ho W hW => by unfold execOp; simp only [ho]; go_simp) HS.out ?_
  simp only [Act.put, List.setIfInBounds_toArray, List.set_cons_zero, List.set_cons_succ]
  refine anyH_loadG 3 (d := 6) (ty := 24) (x := (.tmp 5)) (gd := none) (p := .pointer (some ⟨jb, 0, none⟩)) (.pointer (some ⟨d, 0, none⟩)) (by rfl) (fun o ho => wanted_plain ho _) (by kernel_rfl) (by kernel_rfl) (by kernel_rfl) (fun _ _ _ h => h) (by rfl) HL1.out HS.out ?_
  simp only [Act.put, List.setIfInBounds_toArray, List.set_cons_zero, List.set_cons_succ]
  refine anyH_loadG 4 (d := 7) (ty := 9) (x := (.tmp 1)) (gd := none) (p := .pointer (some ⟨b5, 0, none⟩)) (.string sp) (by rfl) (fun o ho => wanted_plain ho _) (by kernel_rfl) (by kernel_rfl) (by kernel_rfl) (fun _ _ _ h => h) (by rfl) HL3.out HS.out ?_
  simp only [Act.put, List.setIfInBounds_toArray, List.set_cons_zero, List.set_cons_succ]
  refine anyH_loadG 5 (d := 8) (ty := 54) (x := (.tmp 0)) (gd := none) (p := .pointer (some ⟨b2, 0, none⟩)) (.pointer (some ⟨jb, 0, none⟩)) (by rfl) (fun o ho => wanted_plain ho _) (by kernel_rfl) (by kernel_rfl) (by kernel_rfl) (fun _ _ _ h => h) (by rfl) HL0.out HS.out ?_
  simp only [Act.put, List.setIfInBounds_toArray, List.set_cons_zero, List.set_cons_succ]
  refine anyH_pureG 6 (d := 9) (op := .nilCheck (.tmp 8)) (gd := none) (.pointer (some ⟨jb, 0, none⟩)) (by rfl) (fun o ho => wanted_plain ho _) (by kernel_rfl) (by kernel_rfl) (by kernel_rfl) (fun _ _ _ h => h) (fun o ho W hW => by unfold execOp; simp only [ho]; go_simp) HS.out ?_
  simp only [Act.put, List.setIfInBounds_toArray, List.set_cons_zero, List.set_cons_succ]
  refine anyH_pureG 7 (d := 10) (op := .fieldAddr 82 (.tmp 9) 1) (gd := none) (.pointer (some ⟨jb, 1, none⟩)) (by rfl) (fun o ho => wanted_plain ho _) (by kernel_rfl) (by kernel_rfl) (by kernel_rfl) (fun _ _ _ h => h) (fun o ho W hW => by unfold execOp; simp only [ho]; go_simp) HS.out ?_
  simp only [Act.put, List.setIfInBounds_toArray, List.set_cons_zero, List.set_cons_succ]
  refine anyH_loadG 8 (d := 11) (ty := 9) (x := (.tmp 10)) (gd := none) (p := .pointer (some ⟨jb, 1, none⟩)) (.string nm) (by rfl) (fun o ho => wanted_plain ho _) (by kernel_rfl) (by kernel_rfl) (by kernel_rfl) (fun _ _ _ h => h) (by rfl) HL2.out HS.out ?_
  simp only [Act.put, List.setIfInBounds_toArray, List.set_cons_zero, List.set_cons_succ]
  refine anyH_callG 9 (d := some 12) (f := 80) (xs := #[(.tmp 6), (.tmp 7), (.tmp 11)]) (ts := #[24, 9, 9]) (gd := none) (vs := #[.pointer (some ⟨d, 0, none⟩), .string sp, .string nm]) (by kernel_rfl) (by rfl) (fun o ho => wanted_plain ho _) (by go_simp) (by go_simp) (HC.out) ?_
  rintro e2 w2 ⟨rfl, h2, h3, h4⟩
  have HE := Lib.hid (show DxR X B d (N + 3) W (mvA sp nm A) (.returned (.int .i64 x)) w2 from ⟨by rw [HX.out], h2, h3d.trans h3, fun j hj => (h4 j hj).trans rfl⟩)
  have HS2 := Lib.hid (show HasC [(⟨b2, 0, none⟩, .pointer (some ⟨jb, 0, none⟩)), (⟨jb, 0, none⟩, .pointer (some ⟨d, 0, none⟩)), (⟨jb, 1, none⟩, .string nm), (⟨b5, 0, none⟩, .string sp)] w2 from HS.out.kp h4 HXL.out)
  clear h2 h3 h4
  refine ⟨_, rfl, HS2.out, fun hS => ?_⟩
  clear hS
  simp only [Act.put, List.setIfInBounds_toArray, List.set_cons_zero, List.set_cons_succ]
  refine anyH_pureG 10 (d := 2) (op := .assign (.tmp 12)) (gd := none) (.int .i64 x) (by rfl) (fun o ho => wanted_plain ho _) (by kernel_rfl) (by kernel_rfl) (by kernel_rfl) (fun _ _ _ h => h) (fun o ho W hW => by unfold execOp; simp only [ho]; go_simp) HS2.out ?_
  simp only [Act.put, List.setIfInBounds_toArray, List.set_cons_zero, List.set_cons_succ]
  refine wpAnyH_done (by kernel_rfl) ?_ _
  clear HS HS2 HC HL0 HL1 HL2 HL3
  go_wp2_with fail
  go_ret
  exact HE.out
set_option maxRecDepth 100000 in
set_option maxHeartbeats 8000000 in
theorem jcr_c {X : Nat → Prop} {B d N b2 jb : Nat} {A : Ad} {W : World} (h : Dx X B d N A W) (hN : N < 1000000000) (nm : ByteArray) (hs : nm.size ≤ maxLen) (he : HasC [(⟨b2, 0, none⟩, .pointer (some ⟨jb, 0, none⟩)), (⟨jb, 0, none⟩, .pointer (some ⟨d, 0, none⟩)), (⟨jb, 1, none⟩, .string nm)] W) (hx : ∀ p ∈ ([(⟨b2, 0, none⟩, .pointer (some ⟨jb, 0, none⟩)), (⟨jb, 0, none⟩, .pointer (some ⟨d, 0, none⟩)), (⟨jb, 1, none⟩, .string nm)] : List (Addr × Value)), X p.1.block) :
    Calls Try.prog 47 #[.pointer (some ⟨b2, 0, none⟩)] W (DxR X B d (N + 3) W (mkA nm A)) := by
  have h3d : Below B W (World.drew W) := below_drewN' _ W 1
  have hd := h.below (w' := World.drew W) (below_drewN' _ W 1)
  have HC := Lib.hid (show Calls Try.prog _ _ (World.drew W) (DxR X B d (N + 3) (World.drew W) (mkA nm A)) from hd.create nm hs hN)
  unfold DxR at HC
  obtain ⟨x, hxx⟩ : ∃ x, (mkA nm A).2 = x := ⟨_, rfl⟩
  rw [hxx] at HC
  have HX := Lib.hid hxx
  have HXL := Lib.hid hx
  have HBD := Lib.hid h3d
  have HS := Lib.hid (show HasC [(⟨b2, 0, none⟩, .pointer (some ⟨jb, 0, none⟩)), (⟨jb, 0, none⟩, .pointer (some ⟨d, 0, none⟩)), (⟨jb, 1, none⟩, .string nm)] (World.drew W) from fun p hp => he p hp)
  clear h hd hxx he h3d hx
  go_enter Try.func47, Try.ntmps47
  go_upto_region 1 with fail
  have HL0 := Lib.hid (fun W (hW : HasC [(⟨b2, 0, none⟩, .pointer (some ⟨jb, 0, none⟩)), (⟨jb, 0, none⟩, .pointer (some ⟨d, 0, none⟩)), (⟨jb, 1, none⟩, .string nm)] W) => run_cell_jn W ⟨b2, 0, none⟩ _ (hW (⟨b2, 0, none⟩, .pointer (some ⟨jb, 0, none⟩)) (by simp)))
  have HL1 := Lib.hid (fun W (hW : HasC [(⟨b2, 0, none⟩, .pointer (some ⟨jb, 0, none⟩)), (⟨jb, 0, none⟩, .pointer (some ⟨d, 0, none⟩)), (⟨jb, 1, none⟩, .string nm)] W) => run_cell_disk W ⟨jb, 0, none⟩ _ (hW (⟨jb, 0, none⟩, .pointer (some ⟨d, 0, none⟩)) (by simp)))
  have HL2 := Lib.hid (fun W (hW : HasC [(⟨b2, 0, none⟩, .pointer (some ⟨jb, 0, none⟩)), (⟨jb, 0, none⟩, .pointer (some ⟨d, 0, none⟩)), (⟨jb, 1, none⟩, .string nm)] W) => run_cell_s W ⟨jb, 1, none⟩ nm (hW (⟨jb, 1, none⟩, .string nm) (by simp)))
  have h3d := HBD.out
  refine anyH_begin (S := HasC [(⟨b2, 0, none⟩, .pointer (some ⟨jb, 0, none⟩)), (⟨jb, 0, none⟩, .pointer (some ⟨d, 0, none⟩)), (⟨jb, 1, none⟩, .string nm)]) (by kernel_rfl) ?_
  refine anyH_loadG 0 (d := 2) (ty := 54) (x := (.tmp 0)) (gd := none) (p := .pointer (some ⟨b2, 0, none⟩)) (.pointer (some ⟨jb, 0, none⟩)) (by rfl) (fun o ho => wanted_plain ho _) (by kernel_rfl) (by kernel_rfl) (by kernel_rfl) (fun _ _ _ h => h) (by rfl) HL0.out HS.out ?_
  simp only [Act.put, List.setIfInBounds_toArray, List.set_cons_zero, List.set_cons_succ]
  refine anyH_pureG 1 (d := 3) (op := .nilCheck (.tmp 2)) (gd := none) (.pointer (some ⟨jb, 0, none⟩)) (by rfl) (fun o ho => wanted_plain ho _) (by kernel_rfl) (by kernel_rfl) (by kernel_rfl) (fun _ _ _ h => h) (fun o ho W hW => by unfold execOp; simp only [ho]; go_simp) HS.out ?_
  simp only [Act.put, List.setIfInBounds_toArray, List.set_cons_zero, List.set_cons_succ]
  refine anyH_pureG 2 (d := 4) (op := .fieldAddr 82 (.tmp 3) 0) (gd := none) (.pointer (some ⟨jb, 0, none⟩)) (by rfl) (fun o ho => wanted_plain ho _) (by kernel_rfl) (by kernel_rfl) (by kernel_rfl) (fun _ _ _ h => h) (fun o ho W hW => by unfold execOp; simp only [ho]; go_simp) HS.out ?_
  simp only [Act.put, List.setIfInBounds_toArray, List.set_cons_zero, List.set_cons_succ]
  refine anyH_loadG 3 (d := 5) (ty := 24) (x := (.tmp 4)) (gd := none) (p := .pointer (some ⟨jb, 0, none⟩)) (.pointer (some ⟨d, 0, none⟩)) (by rfl) (fun o ho => wanted_plain ho _) (by kernel_rfl) (by kernel_rfl) (by kernel_rfl) (fun _ _ _ h => h) (by rfl) HL1.out HS.out ?_
  simp only [Act.put, List.setIfInBounds_toArray, List.set_cons_zero, List.set_cons_succ]
  refine anyH_loadG 4 (d := 6) (ty := 54) (x := (.tmp 0)) (gd := none) (p := .pointer (some ⟨b2, 0, none⟩)) (.pointer (some ⟨jb, 0, none⟩)) (by rfl) (fun o ho => wanted_plain ho _) (by kernel_rfl) (by kernel_rfl) (by kernel_rfl) (fun _ _ _ h => h) (by rfl) HL0.out HS.out ?_
  simp only [Act.put, List.setIfInBounds_toArray, List.set_cons_zero, List.set_cons_succ]
  refine anyH_pureG 5 (d := 7) (op := .nilCheck (.tmp 6)) (gd := none) (.pointer (some ⟨jb, 0, none⟩)) (by rfl) (fun o ho => wanted_plain ho _) (by kernel_rfl) (by kernel_rfl) (by kernel_rfl) (fun _ _ _ h => h) (fun o ho W hW => by unfold execOp; simp only [ho]; go_simp) HS.out ?_
  simp only [Act.put, List.setIfInBounds_toArray, List.set_cons_zero, List.set_cons_succ]
  refine anyH_pureG 6 (d := 8) (op := .fieldAddr 82 (.tmp 7) 1) (gd := none) (.pointer (some ⟨jb, 1, none⟩)) (by rfl) (fun o ho => wanted_plain ho _) (by kernel_rfl) (by kernel_rfl) (by kernel_rfl) (fun _ _ _ h => h) (fun o ho W hW => by unfold execOp; simp only [ho]; go_simp) HS.out ?_
  simp only [Act.put, List.setIfInBounds_toArray, List.set_cons_zero, List.set_cons_succ]
  refine anyH_loadG 7 (d := 9) (ty := 9) (x := (.tmp 8)) (gd := none) (p := .pointer (some ⟨jb, 1, none⟩)) (.string nm) (by rfl) (fun o ho => wanted_plain ho _) (by kernel_rfl) (by kernel_rfl) (by kernel_rfl) (fun _ _ _ h => h) (by rfl) HL2.out HS.out ?_
  simp only [Act.put, List.setIfInBounds_toArray, List.set_cons_zero, List.set_cons_succ]
  refine anyH_callG 8 (d := some 10) (f := 48) (xs := #[(.tmp 5), (.tmp 9)]) (ts := #[24, 9]) (gd := none) (vs := #[.pointer (some ⟨d, 0, none⟩), .string nm]) (by kernel_rfl) (by rfl) (fun o ho => wanted_plain ho _) (by go_simp) (by go_simp) (HC.out) ?_
  rintro e2 w2 ⟨rfl, h2, h3, h4⟩
  have HE := Lib.hid (show DxR X B d (N + 3) W (mkA nm A) (.returned (.int .i64 x)) w2 from ⟨by rw [HX.out], h2, h3d.trans h3, fun j hj => (h4 j hj).trans rfl⟩)
  have HS2 := Lib.hid (show HasC [(⟨b2, 0, none⟩, .pointer (some ⟨jb, 0, none⟩)), (⟨jb, 0, none⟩, .pointer (some ⟨d, 0, none⟩)), (⟨jb, 1, none⟩, .string nm)] w2 from HS.out.kp h4 HXL.out)
  clear h2 h3 h4
  refine ⟨_, rfl, HS2.out, fun hS => ?_⟩
  clear hS
  simp only [Act.put, List.setIfInBounds_toArray, List.set_cons_zero, List.set_cons_succ]
  refine anyH_pureG 9 (d := 1) (op := .assign (.tmp 10)) (gd := none) (.int .i64 x) (by rfl) (fun o ho => wanted_plain ho _) (by kernel_rfl) (by kernel_rfl) (by kernel_rfl) (fun _ _ _ h => h) (fun o ho W hW => by unfold execOp; simp only [ho]; go_simp) HS2.out ?_
  simp only [Act.put, List.setIfInBounds_toArray, List.set_cons_zero, List.set_cons_succ]
  refine wpAnyH_done (by kernel_rfl) ?_ _
  clear HS HS2 HC HL0 HL1 HL2
  go_wp2_with fail
  go_ret
  exact HE.out
set_option maxRecDepth 100000 in
theorem jfull_c (W : World) : Calls Try.prog 81 #[] W fun e w' => e = .returned (.int .i64 4) ∧ w' = W := by
  go_enter Try.func81, Try.ntmps81
  go_wp2_with fail
  go_ret
  exact ⟨rfl, rfl⟩
end Go.Proofs.Ytihbgigledmliaa
namespace Go.Proofs.Ytihbgigledmliaa
open Go.RowKit
set_option linter.unusedVariables false
/-- records in memory, in blocks below B or of X -/
structure Rcd (X : Nat → Prop) (B : Nat) (w : World) (a : Option Addr) (n : Nat) (ps : List (List Nat)) : Prop where
  ln : ps.length = n
  rc : ∀ (k : Nat) (p : List Nat), ps[k]? = some p → ∃ b o pa pc, a = some ⟨b, o, none⟩ ∧ (b < B ∨ X b) ∧ b < w.heap.size ∧ w.cell? ⟨b, o + k, none⟩ = some (.slice pa p.length pc) ∧ Rd w pa p.length p ∧ (∀ b' o' s, pa = some ⟨b', o', s⟩ → p.length ≠ 0 → b' < B ∨ X b') ∧ (pa = none → pc = 0) ∧ p.length ≤ pc ∧ pc ≤ 9223372036854775807
theorem rd_blkJ {W : World} {a : Option Addr} {n : Nat} {z : List Nat} (h : Rd W a n z) {b o : Nat} {s : Option _} (e : a = some ⟨b, o, s⟩) (hn : n ≠ 0) : b < W.heap.size := by
  obtain ⟨b', off, h1, h2, _⟩ := h.2.2.resolve_left hn
  rw [h1] at e
  cases e
  exact h2
theorem rd_stay {W W' : World} {a : Option Addr} {n : Nat} {z : List Nat} (h : Rd W a n z) (hz : W.heap.size ≤ W'.heap.size) (hk : ∀ b o s, a = some ⟨b, o, s⟩ → n ≠ 0 → W'.heap[b]? = W.heap[b]?) : Rd W' a n z := by
  obtain ⟨h1, h2, h3⟩ := h
  refine ⟨h1, h2, ?_⟩
  by_cases h0 : n = 0
  · exact .inl h0
  · obtain ⟨b, off, rfl, hb, hc⟩ := h3.resolve_left h0
    have hk' := hk b off none rfl h0
    exact .inr ⟨b, off, rfl, Nat.lt_of_lt_of_le hb hz, fun i hi => (World.cell?_of_block (a := ⟨b, off + i, none⟩) hk').trans (hc i hi)⟩
theorem Rcd.stay {X : Nat → Prop} {B : Nat} {w w' : World} {a : Option Addr} {n : Nat} {ps : List (List Nat)} (h : Rcd X B w a n ps) (hz : w.heap.size ≤ w'.heap.size) (hk : ∀ j, j < w.heap.size → (j < B ∨ X j) → w'.heap[j]? = w.heap[j]?) : Rcd X B w' a n ps :=
  ⟨h.ln, fun k p hp => by
    obtain ⟨b, o, pa, pc, h1, h2, h3, h4, h5, h6, h7, h8, h9⟩ := h.rc k p hp
    exact ⟨b, o, pa, pc, h1, h2, Nat.lt_of_lt_of_le h3 hz, (World.cell?_of_block (a := ⟨b, o + k, none⟩) (hk b h3 h2)).trans h4, rd_stay h5 hz (fun b' o' s e hn => hk b' (rd_blkJ h5 e hn) (h6 b' o' s e hn)), h6, h7, h8, h9⟩⟩
theorem Rcd.below {X : Nat → Prop} {B : Nat} {w w' : World} {a : Option Addr} {n : Nat} {ps : List (List Nat)} (h : Rcd X B w a n ps) (hb : Below w.heap.size w w') : Rcd X B w' a n ps := h.stay hb.size fun j hj _ => hb.block j hj
theorem Rcd.kp {X : Nat → Prop} {B : Nat} {w w' : World} {a : Option Addr} {n : Nat} {ps : List (List Nat)} (h : Rcd X B w a n ps) (hb : Below B w w') (hk : KpD X w w') : Rcd X B w' a n ps := h.stay hb.size fun j _ hj => hj.elim (fun e => hb.block j e) fun e => hk j e
theorem Rcd.more {X Y : Nat → Prop} {B : Nat} {w : World} {a : Option Addr} {n : Nat} {ps : List (List Nat)} (h : Rcd X B w a n ps) (hX : ∀ j, X j → Y j) : Rcd Y B w a n ps :=
  ⟨h.ln, fun k p hp => by
    obtain ⟨b, o, pa, pc, h1, h2, h3, h4, h5, h6, h7, h8, h9⟩ := h.rc k p hp
    exact ⟨b, o, pa, pc, h1, h2.imp id (hX _), h3, h4, h5, fun b' o' s e hn => (h6 b' o' s e hn).imp id (hX _), h7, h8, h9⟩⟩
theorem run_bidx (W : World) (b o len cap i : Nat) (hi : i < len) : (Instr.indexAt 55 (.slice (some ⟨b, o, none⟩) len cap) (.int .i64 (i : Int))).run Try.prog W = .ok (.pointer (some ⟨b, o + i, none⟩)) W := by
  rw [run_indexAt_slice W 55 ⟨b, o, none⟩ len cap .i64 (i : Int) (by kernel_rfl)]
  have h1 : (0 : Int) ≤ (i : Int) ∧ (i : Int) < (len : Int) := by omega
  rw [if_pos h1, show (Go.sizeOf (Try.prog.elem 55)).run Try.prog W = .ok 1 W from by kernel_rfl]
  simp [Result.andThen, Addr.add]
theorem flat_take_le (ps : List (List Nat)) (k : Nat) : (Frm.flatF (ps.take k)).length ≤ (Frm.flatF ps).length := by
  conv => rhs; rw [← List.take_append_drop k ps, Frm.flat_app, List.length_append]
  omega
theorem own_blk {w : World} {B : Nat} {a : Option Addr} {n c : Nat} {zs : List Nat} (h : Own w B (.slice a n c) zs) : ∀ b o s, a = some ⟨b, o, s⟩ → B ≤ b ∧ b < w.heap.size := fun b o s e => by
  have := World.ownsRow.lt h
  rcases h.2 with ⟨h1, _⟩ | ⟨g, cap, cur, h1, h2, h3, _⟩
  · cases (Value.slice.inj h1).1; cases e
  · have e1 := (Value.slice.inj h1).1
    rw [e1] at e
    cases e
    exact ⟨h2, (Array.getElem?_eq_some_iff.1 h3).1⟩
set_option maxRecDepth 100000 in
set_option maxHeartbeats 8000000 in
theorem japf_c {X : Nat → Prop} {B d N : Nat} {A : Ad} {w : World} (h : Dx X B d N A w) (hN : N < 1000000000) (s : ByteArray) (hs : s.size ≤ maxLen) (ra : Option Addr) (rn rc : Nat) (ps : List (List Nat)) (hr : Rcd X B w ra rn ps) (hrn : rn ≤ 1000000) (hfl : (Frm.flatF ps).length < 1048576) (hpb : ∀ p ∈ ps, ∀ z ∈ p, z < 256) :
    Calls Try.prog 78 #[.pointer (some ⟨d, 0, none⟩), .string s, .slice ra rn rc] w (DxR X B d (N + 3) w (apF s (Frm.flatF ps) A)) := by
  have HR := Lib.hid hr
  have HFL := Lib.hid (fun k => Nat.lt_of_le_of_lt (flat_take_le ps k) hfl)
  have HPB := Lib.hid hpb
  have HD := Lib.hid h
  have HBW := Lib.hid (Nat.le_of_lt (Nat.lt_of_le_of_lt h.base.1 h.base.2))
  obtain ⟨z, hz⟩ : ∃ z, z = Frm.flatF ps := ⟨_, rfl⟩
  rw [← hz]
  have HZ := Lib.hid hz
  clear hr hfl hpb h hz
  go_enter Try.func78, Try.ntmps78
  go_wp2_with fail
  go_loopw [7, 13] (fun v i wr => ∃ k : Nat, k ≤ rn ∧ i = .int .i64 k ∧ Hid (Own wr w.heap.size v (Frm.flatF (ps.take k))) ∧ Hid (Below w.heap.size w wr)) (fun _ i _ => rn - (intOf i).toNat)
  case atStart => exact ⟨0, Nat.zero_le _, rfl, by simpa [Frm.flatF, Hid] using Own.nil w w.heap.size, Below.refl _ _⟩
  case round =>
    obtain ⟨k, hk, rfl, HO, HB⟩ := hrel
    by_cases hkn : k < rn
    · obtain ⟨p, hp⟩ : ∃ p, ps[k]? = some p := ⟨_, List.getElem?_eq_getElem (by rw [HR.out.ln]; exact hkn)⟩
      have HSN := Lib.hid (Frm.flat_snoc ps k p hp)
      have hpl : p.length < 1048576 := by
        have h1 := HFL.out (k + 1)
        rw [HSN.out, List.length_append, Frm.frame_len] at h1
        omega
      obtain ⟨b, o, pa, pc, rfl, hb1, hb2, hc, hrd, _, hnil, hpc, hpm⟩ := HR.out.rc k p hp
      have hcr := (HB.out.cell (p := ⟨b, o + k, none⟩) hb2).trans hc
      have kI := fun W => run_bidx W b o rn rc k hkn
      have HPB1 := Lib.hid (HPB.out p (List.mem_of_getElem? hp))
      have HFR := Lib.hid ((frame_c pa p.length pc p wr (hrd.below HB.out) hnil (by omega)).mono (RetB.form (Frm.frame_byte p HPB1.out)))
      have HFB := Lib.hid (Frm.flat_byte (ps.take (k + 1)) (fun q hq => HPB.out q (List.mem_of_mem_take hq)))
      have hsz := HB.out.size
      obtain ⟨pn, hpn⟩ : ∃ pn, pn = p.length := ⟨_, rfl⟩
      rw [← hpn] at hcr HFR hpl
      clear hp hb1 hb2 hc hrd hnil hpc hpm hpn
      go_wp2_with fail
      refine HFR.out.mono ?_
      rintro e3 w3 ⟨a3, L3, c3, rfl, hl3, hlc3, hcm3, hn3, hr3, ho3, hb3⟩
      have HO3 := Lib.hid (show Own w3 w.heap.size u7 (Frm.flatF (ps.take k)) from row_keep HO.out fun j hj => hb3.block j (World.ownsRow.lt HO.out j hj).2)
      have HB3 := Lib.hid (HB.out.trans (hb3.mono hsz))
      have HR3 := Lib.hid hr3
      have hpos : 0 < L3 := by rw [← hl3, Frm.frame_len]; omega
      have HLE := Lib.hid (show (Frm.flatF (ps.take k)).length + (Frm.frameL p).length ≤ 140737488355328 from by
        have := HFL.out (k + 1)
        rw [HSN.out, List.length_append] at this
        omega)
      have hsz3 := HB3.out.size
      clear hl3 hlc3 hcm3 hn3 hr3 ho3 hb3 HO HFR hcr kI
      go_upto_region 6 with (at_builtin; (refine wpList_catG rfl (.tmp 17) (.tmp 19) rfl w.heap.size u7 (Frm.flatF (ps.take k)) (Frm.frameL p) rfl HO3.out hsz3 a3 L3 c3 rfl HR3.out hpos HLE.out ?_); intro v4 w4 g1 g2; have HO4 := Lib.hid (show Own w4 w.heap.size v4 (Frm.flatF (ps.take (k + 1))) from by rw [HSN.out]; exact g1); have HB4 := Lib.hid (HB3.out.grown g2 hsz3 (fun q hq => (World.ownsRow.lt HO3.out q hq).1)); clear g1 g2)
      obtain ⟨a4, L4, c4, rfl, hl4, hlc4, hcm4, hn4, hr4, _⟩ := HO4.out.form HFB.out
      have hL4 : decide ((1048576 : Int) ≤ (L4 : Int)) = false := decide_eq_false (by have := HFL.out (k + 1); omega)
      clear hl4 hlc4 hcm4 hn4 hr4 HO3 HB3
      go_wp2_with fail
      refine wp_loop_rounds 1 ?_
      rw [rounds_succ]
      go_wp2_with fail
      go_roundw
      case rel => exact ⟨k + 1, by omega, by go_num, HO4, HB4⟩
      case measure => simp [intOf]; omega
    · have hz := HZ.out
      have hzb : ∀ y ∈ z, y < 256 := by rw [hz]; exact Frm.flat_byte ps HPB.out
      have hoz : Own wr w.heap.size u7 z := by
        have := HO.out
        rwa [List.take_of_length_le (by rw [HR.out.ln]; omega), ← hz] at this
      have hzl : z.length < 1048576 := by have := HFL.out ps.length; rw [List.take_of_length_le (Nat.le_refl _), ← hz] at this; exact this
      clear hz HO HFL
      obtain ⟨a4, L4, c4, rfl, hl4, hlc4, hcm4, hn4, hr4, ho4⟩ := hoz.form hzb
      by_cases h0 : L4 = 0
      · subst h0
        have hz0 : z = [] := List.eq_nil_of_length_eq_zero hl4
        have HE := Lib.hid (show DxR X B d (N + 3) w (apF s z A) (.returned (.int .i64 0)) wr from by
          unfold apF
          rw [if_pos hz0]
          exact ⟨rfl, (HD.out.below HB.out).mono (by omega), HB.out.mono HBW.out, KpD.ofBelow HB.out HD.out.lt⟩)
        clear hoz hl4 hlc4 hcm4 hn4 hr4 ho4 hz0
        go_wp2_with fail
        go_ret
        exact HE.out
      · have hz0 : ¬ z = [] := fun e => h0 (by rw [← hl4, e]; rfl)
        have hL0 : ((L4 : Int) == 0) = false := by simp; omega
        have hL0' : ¬ (L4 : Int) = 0 := by omega
        have hd2 : Dx (fun j => X j ∨ ∃ o s, a4 = some ⟨j, o, s⟩) B d N A wr := HD.out.belowY HB.out (fun j hj => hj.imp id fun ⟨o, s, e⟩ => (own_blk ho4 j o s e).1) (fun j hj => hj.elim (fun e => Nat.lt_of_lt_of_le (HD.out.lt j e) HB.out.size) fun ⟨o, s, e⟩ => (own_blk ho4 j o s e).2)
        have HC := Lib.hid (hd2.append s hs a4 L4 c4 z (by rw [← hl4] at hr4 ⊢; exact hr4) (fun b o sp e _ => .inr (.inr ⟨o, sp, e⟩)) hn4 hN)
        have hap : apF s z A = A.step ⟨1, s, ⟨#[]⟩, z⟩ := by unfold apF; rw [if_neg hz0]
        obtain ⟨r, hr⟩ : ∃ r, A.step ⟨1, s, ⟨#[]⟩, z⟩ = r := ⟨_, rfl⟩
        rw [hr] at HC hap
        obtain ⟨A', x⟩ := r
        have HAP := Lib.hid hap
        clear hoz hl4 hlc4 hcm4 hn4 hr4 ho4 hz0 hd2 hap hr
        go_wp2_with fail
        refine HC.out.mono ?_
        rintro e5 w5 ⟨rfl, g1, g2, g3⟩
        have HE := Lib.hid (show DxR X B d (N + 3) w (apF s z A) (.returned (.int .i64 x)) w5 from by rw [HAP.out]; exact ⟨rfl, g1.less fun j hj => .inl hj, (HB.out.mono HBW.out).trans g2, fun j hj => (g3 j (.inl hj)).trans (HB.out.block j (HD.out.lt j hj))⟩)
        clear g1 g2 g3 HC
        go_wp2_with fail
        go_ret
        exact HE.out
end Go.Proofs.Ytihbgigledmliaa
namespace Go.Proofs.Ytihbgigledmliaa
open Go.RowKit
set_option linter.unusedVariables false
theorem HasC.sub {L M : List (Addr × Value)} {W : World} (h : HasC L W) (hs : ∀ p ∈ M, p ∈ L) : HasC M W := fun p hp => h p (hs p hp)
theorem wp_bsJ6 {w : World} {op : Oper} {a : Act} {K : Act → World → Prop} {Q : Exit → Act → World → Prop} (x0 x1 x2 x3 x4 x5 : Operand) (ho : op.op = .buildSlice 127 6 #[(0, x0), (1, x1), (2, x2), (3, x3), (4, x4), (5, x5)]) (v0 v1 v2 v3 v4 v5 : Stp)
    (h0 : a.eval x0 = .func (.func v0.f) v0.A v0.C) (h1 : a.eval x1 = .func (.func v1.f) v1.A v1.C) (h2 : a.eval x2 = .func (.func v2.f) v2.A v2.C) (h3 : a.eval x3 = .func (.func v3.f) v3.A v3.C) (h4 : a.eval x4 = .func (.func v4.f) v4.A v4.C) (h5 : a.eval x5 = .func (.func v5.f) v5.A v5.C)
    (k : K (a.put op.dst (.slice (some ⟨w.heap.size, 0, none⟩) 6 6)) (w.alloc (.cells #[.func (.func v0.f) v0.A v0.C, .func (.func v1.f) v1.A v1.C, .func (.func v2.f) v2.A v2.C, .func (.func v3.f) v3.A v3.C, .func (.func v4.f) v4.A v4.C, .func (.func v5.f) v5.A v5.C] 68))) : op.wp Try.prog a w K Q := by
  unfold Oper.wp execOp
  simp only [ho, List.map_toArray, List.map_cons, List.map_nil, h0, h1, h2, h3, h4, h5]
  go_simp
  exact k
set_option maxRecDepth 100000 in
set_option maxHeartbeats 8000000 in
theorem jap_c {X : Nat → Prop} {B d N b2 b3 b5 jb : Nat} {A : Ad} {W : World} (h : Dx X B d N A W) (hN : N < 1000000000) (sp : ByteArray) (hs : sp.size ≤ maxLen) (ra : Option Addr) (rn rc : Nat) (ps : List (List Nat)) (hr : Rcd X B W ra rn ps) (hrn : rn ≤ 1000000) (hfl : (Frm.flatF ps).length < 1048576) (hpb : ∀ p ∈ ps, ∀ z ∈ p, z < 256) (he : HasC [(⟨b2, 0, none⟩, .pointer (some ⟨jb, 0, none⟩)), (⟨jb, 0, none⟩, .pointer (some ⟨d, 0, none⟩)), (⟨b5, 0, none⟩, .string sp), (⟨b3, 0, none⟩, .slice ra rn rc)] W) (hx : ∀ p ∈ ([(⟨b2, 0, none⟩, .pointer (some ⟨jb, 0, none⟩)), (⟨jb, 0, none⟩, .pointer (some ⟨d, 0, none⟩)), (⟨b5, 0, none⟩, .string sp), (⟨b3, 0, none⟩, .slice ra rn rc)] : List (Addr × Value)), X p.1.block) :
    Calls Try.prog 77 #[.pointer (some ⟨b2, 0, none⟩), .pointer (some ⟨b5, 0, none⟩), .pointer (some ⟨b3, 0, none⟩)] W (DxR X B d (N + 3) W (apF sp (Frm.flatF ps) A)) := by
  have h3d : Below B W (World.drew W) := below_drewN' _ W 1
  have hd := h.below (w' := World.drew W) (below_drewN' _ W 1)
  have HC := Lib.hid (show Calls Try.prog _ _ (World.drew W) (DxR X B d (N + 3) (World.drew W) (apF sp (Frm.flatF ps) A)) from japf_c hd hN sp hs ra rn rc ps (hr.below (below_drewN' _ W 1)) hrn hfl hpb)
  unfold DxR at HC
  obtain ⟨x, hxx⟩ : ∃ x, (apF sp (Frm.flatF ps) A).2 = x := ⟨_, rfl⟩
  rw [hxx] at HC
  have HX := Lib.hid hxx
  have HXL := Lib.hid hx
  have HBD := Lib.hid h3d
  have HS := Lib.hid (show HasC [(⟨b2, 0, none⟩, .pointer (some ⟨jb, 0, none⟩)), (⟨jb, 0, none⟩, .pointer (some ⟨d, 0, none⟩)), (⟨b5, 0, none⟩, .string sp), (⟨b3, 0, none⟩, .slice ra rn rc)] (World.drew W) from fun p hp => he p hp)
  clear h hd hxx he h3d hx
  go_enter Try.func77, Try.ntmps77
  go_upto_region 1 with fail
  have HL0 := Lib.hid (fun W (hW : HasC [(⟨b2, 0, none⟩, .pointer (some ⟨jb, 0, none⟩)), (⟨jb, 0, none⟩, .pointer (some ⟨d, 0, none⟩)), (⟨b5, 0, none⟩, .string sp), (⟨b3, 0, none⟩, .slice ra rn rc)] W) => run_cell_jn W ⟨b2, 0, none⟩ _ (hW (⟨b2, 0, none⟩, .pointer (some ⟨jb, 0, none⟩)) (by simp)))
  have HL1 := Lib.hid (fun W (hW : HasC [(⟨b2, 0, none⟩, .pointer (some ⟨jb, 0, none⟩)), (⟨jb, 0, none⟩, .pointer (some ⟨d, 0, none⟩)), (⟨b5, 0, none⟩, .string sp), (⟨b3, 0, none⟩, .slice ra rn rc)] W) => run_cell_disk W ⟨jb, 0, none⟩ _ (hW (⟨jb, 0, none⟩, .pointer (some ⟨d, 0, none⟩)) (by simp)))
  have HL2 := Lib.hid (fun W (hW : HasC [(⟨b2, 0, none⟩, .pointer (some ⟨jb, 0, none⟩)), (⟨jb, 0, none⟩, .pointer (some ⟨d, 0, none⟩)), (⟨b5, 0, none⟩, .string sp), (⟨b3, 0, none⟩, .slice ra rn rc)] W) => run_cell_s W ⟨b5, 0, none⟩ sp (hW (⟨b5, 0, none⟩, .string sp) (by simp)))
  have HL3 := Lib.hid (fun W (hW : HasC [(⟨b2, 0, none⟩, .pointer (some ⟨jb, 0, none⟩)), (⟨jb, 0, none⟩, .pointer (some ⟨d, 0, none⟩)), (⟨b5, 0, none⟩, .string sp), (⟨b3, 0, none⟩, .slice ra rn rc)] W) => run_cell_bb W ⟨b3, 0, none⟩ ra rn rc (hW (⟨b3, 0, none⟩, .slice ra rn rc) (by simp)))
  have h3d := HBD.out
  refine anyH_begin (S := HasC [(⟨b2, 0, none⟩, .pointer (some ⟨jb, 0, none⟩)), (⟨jb, 0, none⟩, .pointer (some ⟨d, 0, none⟩)), (⟨b5, 0, none⟩, .string sp), (⟨b3, 0, none⟩, .slice ra rn rc)]) (by kernel_rfl) ?_
  refine anyH_loadG 0 (d := 4) (ty := 54) (x := (.tmp 0)) (gd := none) (p := .pointer (some ⟨b2, 0, none⟩)) (.pointer (some ⟨jb, 0, none⟩)) (by rfl) (fun o ho => wanted_plain ho _) (by kernel_rfl) (by kernel_rfl) (by kernel_rfl) (fun _ _ _ h => h) (by rfl) HL0.out HS.out ?_
  simp only [Act.put, List.setIfInBounds_toArray, List.set_cons_zero, List.set_cons_succ]
  refine anyH_pureG 1 (d := 5) (op := .nilCheck (.tmp 4)) (gd := none) (.pointer (some ⟨jb, 0, none⟩)) (by rfl) (fun o ho => wanted_plain ho _) (by kernel_rfl) (by kernel_rfl) (by kernel_rfl) (fun _ _ _ h => h) (fun o ho W hW => by unfold execOp; simp only [ho]; go_simp) HS.out ?_
  simp only [Act.put, List.setIfInBounds_toArray, List.set_cons_zero, List.set_cons_succ]
  refine anyH_pureG 2 (d := 6) (op := .fieldAddr 82 (.tmp 5) 0) (gd := none) (.pointer (some ⟨jb, 0, none⟩)) (by rfl) (fun o ho => wanted_plain ho _) (by kernel_rfl) (by kernel_rfl) (by kernel_rfl) (fun _ _ _ h => h) (fun o ho W hW => by unfold execOp; simp only [ho]; go_simp) HS.out ?_
  simp only [Act.put, List.setIfInBounds_toArray, List.set_cons_zero, List.set_cons_succ]
  refine anyH_loadG 3 (d := 7) (ty := 24) (x := (.tmp 6)) (gd := none) (p := .pointer (some ⟨jb, 0, none⟩)) (.pointer (some ⟨d, 0, none⟩)) (by rfl) (fun o ho => wanted_plain ho _) (by kernel_rfl) (by kernel_rfl) (by kernel_rfl) (fun _ _ _ h => h) (by rfl) HL1.out HS.out ?_
  simp only [Act.put, List.setIfInBounds_toArray, List.set_cons_zero, List.set_cons_succ]
  refine anyH_loadG 4 (d := 8) (ty := 9) (x := (.tmp 1)) (gd := none) (p := .pointer (some ⟨b5, 0, none⟩)) (.string sp) (by rfl) (fun o ho => wanted_plain ho _) (by kernel_rfl) (by kernel_rfl) (by kernel_rfl) (fun _ _ _ h => h) (by rfl) HL2.out HS.out ?_
  simp only [Act.put, List.setIfInBounds_toArray, List.set_cons_zero, List.set_cons_succ]
  refine anyH_loadG 5 (d := 9) (ty := 55) (x := (.tmp 2)) (gd := none) (p := .pointer (some ⟨b3, 0, none⟩)) (.slice ra rn rc) (by rfl) (fun o ho => wanted_plain ho _) (by kernel_rfl) (by kernel_rfl) (by kernel_rfl) (fun _ _ _ h => h) (by rfl) HL3.out HS.out ?_
  simp only [Act.put, List.setIfInBounds_toArray, List.set_cons_zero, List.set_cons_succ]
  refine anyH_callG 6 (d := some 10) (f := 78) (xs := #[(.tmp 7), (.tmp 8), (.tmp 9)]) (ts := #[24, 9, 55]) (gd := none) (vs := #[.pointer (some ⟨d, 0, none⟩), .string sp, .slice ra rn rc]) (by kernel_rfl) (by rfl) (fun o ho => wanted_plain ho _) (by go_simp) (by go_simp) (HC.out) ?_
  rintro e2 w2 ⟨rfl, h2, h3, h4⟩
  have HE := Lib.hid (show DxR X B d (N + 3) W (apF sp (Frm.flatF ps) A) (.returned (.int .i64 x)) w2 from ⟨by rw [HX.out], h2, h3d.trans h3, fun j hj => (h4 j hj).trans rfl⟩)
  have HS2 := Lib.hid (show HasC [(⟨b2, 0, none⟩, .pointer (some ⟨jb, 0, none⟩)), (⟨jb, 0, none⟩, .pointer (some ⟨d, 0, none⟩)), (⟨b5, 0, none⟩, .string sp), (⟨b3, 0, none⟩, .slice ra rn rc)] w2 from HS.out.kp h4 HXL.out)
  clear h2 h3 h4
  refine ⟨_, rfl, HS2.out, fun hS => ?_⟩
  clear hS
  simp only [Act.put, List.setIfInBounds_toArray, List.set_cons_zero, List.set_cons_succ]
  refine anyH_pureG 7 (d := 3) (op := .assign (.tmp 10)) (gd := none) (.int .i64 x) (by rfl) (fun o ho => wanted_plain ho _) (by kernel_rfl) (by kernel_rfl) (by kernel_rfl) (fun _ _ _ h => h) (fun o ho W hW => by unfold execOp; simp only [ho]; go_simp) HS2.out ?_
  simp only [Act.put, List.setIfInBounds_toArray, List.set_cons_zero, List.set_cons_succ]
  refine wpAnyH_done (by kernel_rfl) ?_ _
  clear HS HS2 HC HL0 HL1 HL2 HL3
  go_wp2_with fail
  go_ret
  exact HE.out
/-- the steps of a rewrite -/
def rwS (nm sp : ByteArray) (z : List Nat) : List (Ad → Ad × Int) := [rmA sp, mkA sp, apF sp z, Ad.sync, mvA sp nm, Ad.sync]
/-- where there was no room, what was begun is removed -/
def rwE (sp : ByteArray) (r : Ad × Int) : Ad × Int := if r.2 = 4 then runA [rmA sp, fun A => (A, 4)] r.1 else r
def Ad.rw (A : Ad) (nm sp : ByteArray) (z : List Nat) : Ad × Int := rwE sp (runA (rwS nm sp z) A)
set_option maxRecDepth 100000 in
set_option maxHeartbeats 8000000 in
theorem jrewrite_c {X : Nat → Prop} {B d N jb : Nat} {A : Ad} {w : World} {nm : ByteArray} (h : Dx X B d N A w) (hN : N < 100000000) (hxj : X jb) (hj : HasC [(⟨jb, 0, none⟩, .pointer (some ⟨d, 0, none⟩)), (⟨jb, 1, none⟩, .string nm)] w) (hn : nm.size ≤ 1000) (ra : Option Addr) (rn rc : Nat) (ps : List (List Nat)) (hr : Rcd X B w ra rn ps) (hrn : rn ≤ 1000000) (hfl : (Frm.flatF ps).length < 1048576) (hpb : ∀ p ∈ ps, ∀ z ∈ p, z < 256) :
    Calls Try.prog 52 #[.pointer (some ⟨jb, 0, none⟩), .slice ra rn rc] w (DxR X B d (N + 24) w (A.rw nm (nm ++ ⟨#[43]⟩) (Frm.flatF ps))) := by
  have hXB : B ≤ w.heap.size := Nat.le_of_lt (Nat.lt_of_le_of_lt h.base.1 h.base.2)
  have hjl : jb < w.heap.size := h.lt jb hxj
  have hss : (nm ++ ⟨#[43]⟩ : ByteArray).size = nm.size + 1 := by rw [ByteArray.size_append]; rfl
  have hs : (nm ++ ⟨#[43]⟩ : ByteArray).size ≤ maxLen := by rw [hss]; unfold maxLen; omega
  have hnl : nm.size ≤ maxLen := by unfold maxLen; omega
  have hadd : ¬ 9223372036854775807 < nm.size + 1 := by omega
  obtain ⟨b2, hb2⟩ : ∃ b2, b2 = w.heap.size := ⟨_, rfl⟩
  obtain ⟨w1, hw1⟩ : ∃ w1, w1 = w.alloc (.cells #[.pointer (some ⟨jb, 0, none⟩)] 54) := ⟨_, rfl⟩
  obtain ⟨b3, hb3⟩ : ∃ b3, b3 = w1.heap.size := ⟨_, rfl⟩
  obtain ⟨w2, hw2⟩ : ∃ w2, w2 = w1.alloc (.cells #[.slice ra rn rc] 55) := ⟨_, rfl⟩
  obtain ⟨b5, hb5⟩ : ∃ b5, b5 = w2.heap.size := ⟨_, rfl⟩
  obtain ⟨w3, hw3⟩ : ∃ w3, w3 = w2.alloc (.cells #[.string (nm ++ ⟨#[43]⟩)] 9) := ⟨_, rfl⟩
  obtain ⟨b7, hb7⟩ : ∃ b7, b7 = (World.drew w3).heap.size := ⟨_, rfl⟩
  obtain ⟨w7, hw7⟩ : ∃ w7, w7 = (World.drew w3).alloc (.cells #[.func (.func 74) #[] #[.pointer (some ⟨b2, 0, none⟩), .pointer (some ⟨b5, 0, none⟩)], .func (.func 76) #[] #[.pointer (some ⟨b2, 0, none⟩), .pointer (some ⟨b5, 0, none⟩)], .func (.func 77) #[] #[.pointer (some ⟨b2, 0, none⟩), .pointer (some ⟨b5, 0, none⟩), .pointer (some ⟨b3, 0, none⟩)], .func (.func 50) #[.pointer (some ⟨d, 0, none⟩)] #[], .func (.func 79) #[] #[.pointer (some ⟨b2, 0, none⟩), .pointer (some ⟨b5, 0, none⟩)], .func (.func 50) #[.pointer (some ⟨d, 0, none⟩)] #[]] 68) := ⟨_, rfl⟩
  have z1 : w1.heap.size = b2 + 1 := by rw [hw1, hb2]; simp
  have z2 : w2.heap.size = b3 + 1 := by rw [hw2, hb3]; simp
  have z3 : w3.heap.size = b5 + 1 := by rw [hw3, hb5]; simp
  have z7 : w7.heap.size = b7 + 1 := by rw [hw7, hb7]; simp
  have zb : b7 = w3.heap.size := hb7
  have q1 : Below w.heap.size w w1 := by rw [hw1]; exact (Below.refl _ _).alloc (Nat.le_refl _) _
  have q2 : Below w1.heap.size w1 w2 := by rw [hw2]; exact (Below.refl _ _).alloc (Nat.le_refl _) _
  have q3 : Below w2.heap.size w2 w3 := by rw [hw3]; exact (Below.refl _ _).alloc (Nat.le_refl _) _
  have q7 : Below w3.heap.size w3 w7 := Below.trans (b := World.drew w3) (below_drewN' _ w3 1) (show Below w3.heap.size (World.drew w3) w7 by rw [hw7]; exact (Below.refl (World.drew w3).heap.size (World.drew w3)).alloc (Nat.le_refl _) _)
  have r37 : Below w2.heap.size w2 w7 := q3.trans (q7.mono q3.size)
  have r27 : Below w1.heap.size w1 w7 := q2.trans (r37.mono q2.size)
  have r17 : Below w.heap.size w w7 := q1.trans (r27.mono q1.size)
  have k2 : w7.heap[b2]? = some (.cells #[.pointer (some ⟨jb, 0, none⟩)] 54 (0, 0)) := (r27.block b2 (by omega)).trans (by rw [hw1, hb2]; exact heap_alloc_new w _)
  have k3 : w7.heap[b3]? = some (.cells #[.slice ra rn rc] 55 (0, 0)) := (r37.block b3 (by omega)).trans (by rw [hw2, hb3]; exact heap_alloc_new w1 _)
  have k5 : w7.heap[b5]? = some (.cells #[.string (nm ++ ⟨#[43]⟩)] 9 (0, 0)) := (q7.block b5 (by omega)).trans (by rw [hw3, hb5]; exact heap_alloc_new w2 _)
  have k7 : w7.heap[b7]? = some (.cells #[.func (.func 74) #[] #[.pointer (some ⟨b2, 0, none⟩), .pointer (some ⟨b5, 0, none⟩)], .func (.func 76) #[] #[.pointer (some ⟨b2, 0, none⟩), .pointer (some ⟨b5, 0, none⟩)], .func (.func 77) #[] #[.pointer (some ⟨b2, 0, none⟩), .pointer (some ⟨b5, 0, none⟩), .pointer (some ⟨b3, 0, none⟩)], .func (.func 50) #[.pointer (some ⟨d, 0, none⟩)] #[], .func (.func 79) #[] #[.pointer (some ⟨b2, 0, none⟩), .pointer (some ⟨b5, 0, none⟩)], .func (.func 50) #[.pointer (some ⟨d, 0, none⟩)] #[]] 68 (0, 0)) := by rw [hw7, hb7]; exact heap_alloc_new _ _
  have hL7 : HasC [(⟨b2, 0, none⟩, .pointer (some ⟨jb, 0, none⟩)), (⟨jb, 0, none⟩, .pointer (some ⟨d, 0, none⟩)), (⟨jb, 1, none⟩, .string nm), (⟨b5, 0, none⟩, .string (nm ++ ⟨#[43]⟩)), (⟨b3, 0, none⟩, .slice ra rn rc)] w7 := by
    intro p hp
    simp only [List.mem_cons, List.not_mem_nil, or_false] at hp
    rcases hp with rfl | rfl | rfl | rfl | rfl
    · exact cell_of_row w7 b2 0 _ _ _ k2
    · exact (r17.cell (p := ⟨jb, 0, none⟩) hjl).trans (hj (⟨jb, 0, none⟩, .pointer (some ⟨d, 0, none⟩)) (by simp))
    · exact (r17.cell (p := ⟨jb, 1, none⟩) hjl).trans (hj (⟨jb, 1, none⟩, .string nm) (by simp))
    · exact cell_of_row w7 b5 0 _ _ _ k5
    · exact cell_of_row w7 b3 0 _ _ _ k3
  obtain ⟨X7, hX7⟩ : ∃ X7 : Nat → Prop, X7 = fun j => X j ∨ j = b2 ∨ j = b3 ∨ j = b5 ∨ j = b7 := ⟨_, rfl⟩
  have hXX : ∀ j, X j → X7 j := fun j hj => by rw [hX7]; exact .inl hj
  have hd7 : Dx X7 B d N A w7 := h.belowY r17 (fun j hj => by rw [hX7] at hj; rcases hj with hj | hj; exact .inl hj; exact .inr (by omega)) (fun j hj => by
    rw [hX7] at hj
    rcases hj with hj | hj
    · exact Nat.lt_of_lt_of_le (h.lt j hj) r17.size
    · omega)
  have hr7 : Rcd X7 B w7 ra rn ps := (hr.below r17).more hXX
  have x2 : X7 b2 := by rw [hX7]; exact .inr (.inl rfl)
  have x3 : X7 b3 := by rw [hX7]; exact .inr (.inr (.inl rfl))
  have x5 : X7 b5 := by rw [hX7]; exact .inr (.inr (.inr (.inl rfl)))
  have x7 : X7 b7 := by rw [hX7]; exact .inr (.inr (.inr (.inr rfl)))
  have xj : X7 jb := hXX jb hxj
  have hIN := jorder_ad hd7 b7 6 (fun i => match i with | 0 => ⟨74, #[], #[.pointer (some ⟨b2, 0, none⟩), .pointer (some ⟨b5, 0, none⟩)]⟩ | 1 => ⟨76, #[], #[.pointer (some ⟨b2, 0, none⟩), .pointer (some ⟨b5, 0, none⟩)]⟩ | 2 => ⟨77, #[], #[.pointer (some ⟨b2, 0, none⟩), .pointer (some ⟨b5, 0, none⟩), .pointer (some ⟨b3, 0, none⟩)]⟩ | 3 => ⟨50, #[.pointer (some ⟨d, 0, none⟩)], #[]⟩ | 4 => ⟨79, #[], #[.pointer (some ⟨b2, 0, none⟩), .pointer (some ⟨b5, 0, none⟩)]⟩ | _ => ⟨50, #[.pointer (some ⟨d, 0, none⟩)], #[]⟩) (rwS nm (nm ++ ⟨#[43]⟩) (Frm.flatF ps)) rfl (by omega) x7 (fun i hi => by
      rw [cell_of_row w7 b7 i _ _ _ k7]
      match i, hi with
      | 0, _ => rfl
      | 1, _ => rfl
      | 2, _ => rfl
      | 3, _ => rfl
      | 4, _ => rfl
      | 5, _ => rfl) (fun i hi => by
      match i, hi with
      | 0, _ => exact enters_of Try.func74 (by kernel_rfl) rfl
      | 1, _ => exact enters_of Try.func76 (by kernel_rfl) rfl
      | 2, _ => exact enters_of Try.func77 (by kernel_rfl) rfl
      | 3, _ => exact enters_of Try.func50 (by kernel_rfl) rfl
      | 4, _ => exact enters_of Try.func79 (by kernel_rfl) rfl
      | 5, _ => exact enters_of Try.func50 (by kernel_rfl) rfl) (fun i f hf A1 W g1 g2 g3 => by
      have yL : HasC [(⟨b2, 0, none⟩, .pointer (some ⟨jb, 0, none⟩)), (⟨jb, 0, none⟩, .pointer (some ⟨d, 0, none⟩)), (⟨jb, 1, none⟩, .string nm), (⟨b5, 0, none⟩, .string (nm ++ ⟨#[43]⟩)), (⟨b3, 0, none⟩, .slice ra rn rc)] W := hL7.kp g3 (by simp [x2, x3, x5, xj])
      have hi : i < 6 := (List.getElem?_eq_some_iff.1 hf).1
      match i, hi, hf with
      | 0, _, hf => cases hf; exact jrm_c (b2 := b2) (b5 := b5) (jb := jb) g1 (by omega) _ hs (yL.sub (by simp)) (by simp [x2, x3, x5, xj])
      | 1, _, hf => cases hf; exact jmk_c (b2 := b2) (b5 := b5) (jb := jb) g1 (by omega) _ hs (yL.sub (by simp)) (by simp [x2, x3, x5, xj])
      | 2, _, hf => cases hf; exact jap_c (b2 := b2) (b3 := b3) (b5 := b5) (jb := jb) g1 (by omega) _ hs ra rn rc ps (hr7.kp g2 g3) hrn hfl hpb (yL.sub (by simp)) (by simp [x2, x3, x5, xj])
      | 3, _, hf => cases hf; exact g1.sync
      | 4, _, hf => cases hf; exact jmv_c (b2 := b2) (b5 := b5) (jb := jb) g1 (by omega) nm _ hnl hs (yL.sub (by simp)) (by simp [x2, x3, x5, xj])
      | 5, _, hf => cases hf; exact g1.sync)
  obtain ⟨r, hrr⟩ : ∃ r, runA (rwS nm (nm ++ ⟨#[43]⟩) (Frm.flatF ps)) A = r := ⟨_, rfl⟩
  have hrw : A.rw nm (nm ++ ⟨#[43]⟩) (Frm.flatF ps) = rwE (nm ++ ⟨#[43]⟩) r := by unfold Ad.rw; rw [hrr]
  rw [hrr] at hIN
  rw [hrw]
  obtain ⟨A', x⟩ := r
  have hIN2 : ∀ w8, Dx X7 B d (N + 3 * 6) A' w8 → Below B w7 w8 → KpD X7 w7 w8 → Calls Try.prog 49 #[.slice (some ⟨w8.heap.size, 0, none⟩) 2 2] (w8.alloc (.cells #[.func (.func 74) #[] #[.pointer (some ⟨b2, 0, none⟩), .pointer (some ⟨b5, 0, none⟩)], .func (.func 81) #[] #[]] 68)) (DxR (fun j => X7 j ∨ j = w8.heap.size) B d (N + 3 * 6 + 3 * 2) (w8.alloc (.cells #[.func (.func 74) #[] #[.pointer (some ⟨b2, 0, none⟩), .pointer (some ⟨b5, 0, none⟩)], .func (.func 81) #[] #[]] 68)) (runA [rmA (nm ++ ⟨#[43]⟩), fun A => (A, 4)] A')) := fun w8 g1 g2 g3 => by
    have q9 : Below w8.heap.size w8 (w8.alloc (.cells #[.func (.func 74) #[] #[.pointer (some ⟨b2, 0, none⟩), .pointer (some ⟨b5, 0, none⟩)], .func (.func 81) #[] #[]] 68)) := (Below.refl _ _).alloc (Nat.le_refl _) _
    have k9 : (w8.alloc (.cells #[.func (.func 74) #[] #[.pointer (some ⟨b2, 0, none⟩), .pointer (some ⟨b5, 0, none⟩)], .func (.func 81) #[] #[]] 68)).heap[w8.heap.size]? = some (.cells #[.func (.func 74) #[] #[.pointer (some ⟨b2, 0, none⟩), .pointer (some ⟨b5, 0, none⟩)], .func (.func 81) #[] #[]] 68 (0, 0)) := heap_alloc_new w8 _
    have hd9 : Dx (fun j => X7 j ∨ j = w8.heap.size) B d (N + 3 * 6) A' (w8.alloc (.cells #[.func (.func 74) #[] #[.pointer (some ⟨b2, 0, none⟩), .pointer (some ⟨b5, 0, none⟩)], .func (.func 81) #[] #[]] 68)) := g1.belowY q9 (fun j hj => hj.imp id fun e => by omega) (fun j hj => hj.elim (fun e => Nat.lt_of_lt_of_le (g1.lt j e) q9.size) fun e => by rw [e]; simp)
    have hL9 : HasC [(⟨b2, 0, none⟩, .pointer (some ⟨jb, 0, none⟩)), (⟨jb, 0, none⟩, .pointer (some ⟨d, 0, none⟩)), (⟨jb, 1, none⟩, .string nm), (⟨b5, 0, none⟩, .string (nm ++ ⟨#[43]⟩)), (⟨b3, 0, none⟩, .slice ra rn rc)] (w8.alloc (.cells #[.func (.func 74) #[] #[.pointer (some ⟨b2, 0, none⟩), .pointer (some ⟨b5, 0, none⟩)], .func (.func 81) #[] #[]] 68)) := (hL7.kp g3 (by simp [x2, x3, x5, xj])).below q9 (by simp [g1.lt _ x2, g1.lt _ x3, g1.lt _ x5, g1.lt _ xj])
    refine jorder_ad hd9 w8.heap.size 2 (fun i => match i with | 0 => ⟨74, #[], #[.pointer (some ⟨b2, 0, none⟩), .pointer (some ⟨b5, 0, none⟩)]⟩ | _ => ⟨81, #[], #[]⟩) _ rfl (by omega) (.inr rfl) (fun i hi => by
      rw [cell_of_row _ _ i _ _ _ k9]
      match i, hi with
      | 0, _ => rfl
      | 1, _ => rfl) (fun i hi => by
      match i, hi with
      | 0, _ => exact enters_of Try.func74 (by kernel_rfl) rfl
      | 1, _ => exact enters_of Try.func81 (by kernel_rfl) rfl) (fun i f hf A1 W g4 g5 g6 => by
      have yL : HasC [(⟨b2, 0, none⟩, .pointer (some ⟨jb, 0, none⟩)), (⟨jb, 0, none⟩, .pointer (some ⟨d, 0, none⟩)), (⟨jb, 1, none⟩, .string nm), (⟨b5, 0, none⟩, .string (nm ++ ⟨#[43]⟩)), (⟨b3, 0, none⟩, .slice ra rn rc)] W := hL9.kp g6 (by simp [x2, x3, x5, xj])
      have hi : i < 2 := (List.getElem?_eq_some_iff.1 hf).1
      match i, hi, hf with
      | 0, _, hf => cases hf; exact jrm_c (b2 := b2) (b5 := b5) (jb := jb) g4 (by omega) _ hs (yL.sub (by simp)) (by simp [x2, x3, x5, xj])
      | 1, _, hf =>
        cases hf
        refine (jfull_c W).mono ?_
        rintro e w' ⟨rfl, rfl⟩
        exact ⟨rfl, g4.mono (by omega), Below.refl _ _, KpD.refl _ _⟩)
  have HIN := Lib.hid hIN
  have HIN2 := Lib.hid hIN2
  have HB7 := Lib.hid hb7.symm
  have HW7 := Lib.hid hw7
  have HC7 := Lib.hid (show HasC [(⟨b2, 0, none⟩, .pointer (some ⟨jb, 0, none⟩)), (⟨jb, 0, none⟩, .pointer (some ⟨d, 0, none⟩))] w7 from hL7.sub (by simp))
  have HXS := Lib.hid (show ∀ p ∈ ([(⟨b2, 0, none⟩, .pointer (some ⟨jb, 0, none⟩)), (⟨jb, 0, none⟩, .pointer (some ⟨d, 0, none⟩))] : List (Addr × Value)), X7 p.1.block from by simp [x2, xj])
  have HW := Lib.hid r17
  have HBX := Lib.hid hXB
  have HLT := Lib.hid h.lt
  have HXI := Lib.hid hXX
  have s2 : w3.cell? ⟨b2, 0, none⟩ = some (.pointer (some ⟨jb, 0, none⟩)) := by rw [← q7.cell (p := ⟨b2, 0, none⟩) (by show b2 < _; omega)]; exact cell_of_row w7 b2 0 _ _ _ k2
  have sj : w3.cell? ⟨jb, 0, none⟩ = some (.pointer (some ⟨d, 0, none⟩)) := by rw [← q7.cell (p := ⟨jb, 0, none⟩) (by show jb < _; omega)]; exact hL7 (⟨jb, 0, none⟩, .pointer (some ⟨d, 0, none⟩)) (by simp)
  have HS3 := Lib.hid (show HasC [(⟨b2, 0, none⟩, .pointer (some ⟨jb, 0, none⟩)), (⟨jb, 0, none⟩, .pointer (some ⟨d, 0, none⟩))] (World.drew w3) from by
    intro p hp
    simp only [List.mem_cons, List.not_mem_nil, or_false] at hp
    rcases hp with rfl | rfl
    · exact s2
    · exact sj)
  have y2 : w2.cell? ⟨b2, 0, none⟩ = some (.pointer (some ⟨jb, 0, none⟩)) := by rw [← r37.cell (p := ⟨b2, 0, none⟩) (by show b2 < _; omega)]; exact cell_of_row w7 b2 0 _ _ _ k2
  have yj : w2.cell? ⟨jb, 1, none⟩ = some (.string nm) := by rw [← r37.cell (p := ⟨jb, 1, none⟩) (by show jb < _; omega)]; exact hL7 (⟨jb, 1, none⟩, .string nm) (by simp)
  have hmf : ∀ (fn : Fn) (first cap : Array Value) (w : World), (Instr.makeFunc fn first cap).run Try.prog w = .ok (.func fn first cap) w := fun _ _ _ _ => rfl
  have e3 : b2 + 1 = b3 := by omega
  clear hIN hIN2 hb7 hw7 z1 z2 z3 z7 zb q1 q2 q3 q7 r37 r27 r17 k2 k3 k5 k7 hL7 hd7 hr7 x2 x3 x5 x7 xj s2 sj hr h hj hXB hjl hss hs hnl hX7 hXX hrr hrw hrn hfl hpb
  go_enter Try.func52, Try.ntmps52
  go_upto_region 1 with fail
  rw [← hb2, ← hw1, e3, ← hw2]
  clear hw1 hw2 hb2 e3 hb3
  go_upto_region 3 with fail
  rw [← hb5, ← hw3]
  clear hw3 hb5 hadd hmf y2 yj
  have HS := HS3
  have HL1 := Lib.hid (fun W (hW : HasC [(⟨b2, 0, none⟩, .pointer (some ⟨jb, 0, none⟩)), (⟨jb, 0, none⟩, .pointer (some ⟨d, 0, none⟩))] W) => run_cell_jn W ⟨b2, 0, none⟩ _ (hW (⟨b2, 0, none⟩, .pointer (some ⟨jb, 0, none⟩)) (by simp)))
  have HL2 := Lib.hid (fun W (hW : HasC [(⟨b2, 0, none⟩, .pointer (some ⟨jb, 0, none⟩)), (⟨jb, 0, none⟩, .pointer (some ⟨d, 0, none⟩))] W) => run_cell_disk W ⟨jb, 0, none⟩ _ (hW (⟨jb, 0, none⟩, .pointer (some ⟨d, 0, none⟩)) (by simp)))
  refine anyH_begin (S := HasC [(⟨b2, 0, none⟩, .pointer (some ⟨jb, 0, none⟩)), (⟨jb, 0, none⟩, .pointer (some ⟨d, 0, none⟩))]) (by kernel_rfl) ?_
  refine anyH_pureG 0 (d := 14) (op := .move (.tmp 6)) (gd := none) (.func (.func 74) #[] #[.pointer (some ⟨b2, 0, none⟩), .pointer (some ⟨b5, 0, none⟩)]) (by rfl) (fun o ho => wanted_plain ho _) (by kernel_rfl) (by kernel_rfl) (by kernel_rfl) (fun _ _ _ h => h) (fun o ho W hW => by unfold execOp; simp only [ho]; go_simp) HS.out ?_
  simp only [Act.put, List.setIfInBounds_toArray, List.set_cons_zero, List.set_cons_succ]
  refine anyH_pureG 1 (d := 15) (op := .makeFunc (.func 76) #[] #[(.tmp 2), (.tmp 5)]) (gd := none) (.func (.func 76) #[] #[.pointer (some ⟨b2, 0, none⟩), .pointer (some ⟨b5, 0, none⟩)]) (by rfl) (fun o ho => wanted_plain ho _) (by kernel_rfl) (by kernel_rfl) (by kernel_rfl) (fun _ _ _ h => h) (fun o ho W hW => by unfold execOp; simp only [ho]; first | rfl | (go_simp; done) | simp [go_sem, Instr.makeFunc, Act.eval]) HS.out ?_
  simp only [Act.put, List.setIfInBounds_toArray, List.set_cons_zero, List.set_cons_succ]
  refine anyH_pureG 2 (d := 16) (op := .makeFunc (.func 77) #[] #[(.tmp 2), (.tmp 5), (.tmp 3)]) (gd := none) (.func (.func 77) #[] #[.pointer (some ⟨b2, 0, none⟩), .pointer (some ⟨b5, 0, none⟩), .pointer (some ⟨b3, 0, none⟩)]) (by rfl) (fun o ho => wanted_plain ho _) (by kernel_rfl) (by kernel_rfl) (by kernel_rfl) (fun _ _ _ h => h) (fun o ho W hW => by unfold execOp; simp only [ho]; first | rfl | (go_simp; done) | simp [go_sem, Instr.makeFunc, Act.eval]) HS.out ?_
  simp only [Act.put, List.setIfInBounds_toArray, List.set_cons_zero, List.set_cons_succ]
  refine anyH_loadG 3 (d := 17) (ty := 54) (x := (.tmp 2)) (gd := none) (p := .pointer (some ⟨b2, 0, none⟩)) (.pointer (some ⟨jb, 0, none⟩)) (by rfl) (fun o ho => wanted_plain ho _) (by kernel_rfl) (by kernel_rfl) (by kernel_rfl) (fun _ _ _ h => h) (by rfl) HL1.out HS.out ?_
  simp only [Act.put, List.setIfInBounds_toArray, List.set_cons_zero, List.set_cons_succ]
  refine anyH_pureG 4 (d := 18) (op := .nilCheck (.tmp 17)) (gd := none) (.pointer (some ⟨jb, 0, none⟩)) (by rfl) (fun o ho => wanted_plain ho _) (by kernel_rfl) (by kernel_rfl) (by kernel_rfl) (fun _ _ _ h => h) (fun o ho W hW => by unfold execOp; simp only [ho]; go_simp) HS.out ?_
  simp only [Act.put, List.setIfInBounds_toArray, List.set_cons_zero, List.set_cons_succ]
  refine anyH_pureG 5 (d := 19) (op := .fieldAddr 82 (.tmp 18) 0) (gd := none) (.pointer (some ⟨jb, 0, none⟩)) (by rfl) (fun o ho => wanted_plain ho _) (by kernel_rfl) (by kernel_rfl) (by kernel_rfl) (fun _ _ _ h => h) (fun o ho W hW => by unfold execOp; simp only [ho]; go_simp) HS.out ?_
  simp only [Act.put, List.setIfInBounds_toArray, List.set_cons_zero, List.set_cons_succ]
  refine anyH_loadG 6 (d := 20) (ty := 24) (x := (.tmp 19)) (gd := none) (p := .pointer (some ⟨jb, 0, none⟩)) (.pointer (some ⟨d, 0, none⟩)) (by rfl) (fun o ho => wanted_plain ho _) (by kernel_rfl) (by kernel_rfl) (by kernel_rfl) (fun _ _ _ h => h) (by rfl) HL2.out HS.out ?_
  simp only [Act.put, List.setIfInBounds_toArray, List.set_cons_zero, List.set_cons_succ]
  refine anyH_pureG 7 (d := 21) (op := .makeFunc (.func 50) #[(.tmp 20)] #[]) (gd := none) (.func (.func 50) #[.pointer (some ⟨d, 0, none⟩)] #[]) (by rfl) (fun o ho => wanted_plain ho _) (by kernel_rfl) (by kernel_rfl) (by kernel_rfl) (fun _ _ _ h => h) (fun o ho W hW => by unfold execOp; simp only [ho]; first | rfl | (go_simp; done) | simp [go_sem, Instr.makeFunc, Act.eval]) HS.out ?_
  simp only [Act.put, List.setIfInBounds_toArray, List.set_cons_zero, List.set_cons_succ]
  refine anyH_pureG 8 (d := 22) (op := .makeFunc (.func 79) #[] #[(.tmp 2), (.tmp 5)]) (gd := none) (.func (.func 79) #[] #[.pointer (some ⟨b2, 0, none⟩), .pointer (some ⟨b5, 0, none⟩)]) (by rfl) (fun o ho => wanted_plain ho _) (by kernel_rfl) (by kernel_rfl) (by kernel_rfl) (fun _ _ _ h => h) (fun o ho W hW => by unfold execOp; simp only [ho]; first | rfl | (go_simp; done) | simp [go_sem, Instr.makeFunc, Act.eval]) HS.out ?_
  simp only [Act.put, List.setIfInBounds_toArray, List.set_cons_zero, List.set_cons_succ]
  refine anyH_loadG 9 (d := 23) (ty := 54) (x := (.tmp 2)) (gd := none) (p := .pointer (some ⟨b2, 0, none⟩)) (.pointer (some ⟨jb, 0, none⟩)) (by rfl) (fun o ho => wanted_plain ho _) (by kernel_rfl) (by kernel_rfl) (by kernel_rfl) (fun _ _ _ h => h) (by rfl) HL1.out HS.out ?_
  simp only [Act.put, List.setIfInBounds_toArray, List.set_cons_zero, List.set_cons_succ]
  refine anyH_pureG 10 (d := 24) (op := .nilCheck (.tmp 23)) (gd := none) (.pointer (some ⟨jb, 0, none⟩)) (by rfl) (fun o ho => wanted_plain ho _) (by kernel_rfl) (by kernel_rfl) (by kernel_rfl) (fun _ _ _ h => h) (fun o ho W hW => by unfold execOp; simp only [ho]; go_simp) HS.out ?_
  simp only [Act.put, List.setIfInBounds_toArray, List.set_cons_zero, List.set_cons_succ]
  refine anyH_pureG 11 (d := 25) (op := .fieldAddr 82 (.tmp 24) 0) (gd := none) (.pointer (some ⟨jb, 0, none⟩)) (by rfl) (fun o ho => wanted_plain ho _) (by kernel_rfl) (by kernel_rfl) (by kernel_rfl) (fun _ _ _ h => h) (fun o ho W hW => by unfold execOp; simp only [ho]; go_simp) HS.out ?_
  simp only [Act.put, List.setIfInBounds_toArray, List.set_cons_zero, List.set_cons_succ]
  refine anyH_loadG 12 (d := 26) (ty := 24) (x := (.tmp 25)) (gd := none) (p := .pointer (some ⟨jb, 0, none⟩)) (.pointer (some ⟨d, 0, none⟩)) (by rfl) (fun o ho => wanted_plain ho _) (by kernel_rfl) (by kernel_rfl) (by kernel_rfl) (fun _ _ _ h => h) (by rfl) HL2.out HS.out ?_
  simp only [Act.put, List.setIfInBounds_toArray, List.set_cons_zero, List.set_cons_succ]
  refine anyH_pureG 13 (d := 27) (op := .makeFunc (.func 50) #[(.tmp 26)] #[]) (gd := none) (.func (.func 50) #[.pointer (some ⟨d, 0, none⟩)] #[]) (by rfl) (fun o ho => wanted_plain ho _) (by kernel_rfl) (by kernel_rfl) (by kernel_rfl) (fun _ _ _ h => h) (fun o ho W hW => by unfold execOp; simp only [ho]; first | rfl | (go_simp; done) | simp [go_sem, Instr.makeFunc, Act.eval]) HS.out ?_
  simp only [Act.put, List.setIfInBounds_toArray, List.set_cons_zero, List.set_cons_succ]
  refine wpAnyH_all (rs := [14]) (by kernel_rfl) (by simp) ?_
  intro k hk; simp only [List.mem_cons, List.not_mem_nil, or_false] at hk; subst hk
  refine op_atJ 14 (d := some 28) (op := .buildSlice 127 6 #[(0, (.tmp 14)), (1, (.tmp 15)), (2, (.tmp 16)), (3, (.tmp 21)), (4, (.tmp 22)), (5, (.tmp 27))]) (by rfl) ?_
  intro o5 hod5 hoo5
  refine wp_bsJ6 (.tmp 14) (.tmp 15) (.tmp 16) (.tmp 21) (.tmp 22) (.tmp 27) hoo5 ⟨74, #[], #[.pointer (some ⟨b2, 0, none⟩), .pointer (some ⟨b5, 0, none⟩)]⟩ ⟨76, #[], #[.pointer (some ⟨b2, 0, none⟩), .pointer (some ⟨b5, 0, none⟩)]⟩ ⟨77, #[], #[.pointer (some ⟨b2, 0, none⟩), .pointer (some ⟨b5, 0, none⟩), .pointer (some ⟨b3, 0, none⟩)]⟩ ⟨50, #[.pointer (some ⟨d, 0, none⟩)], #[]⟩ ⟨79, #[], #[.pointer (some ⟨b2, 0, none⟩), .pointer (some ⟨b5, 0, none⟩)]⟩ ⟨50, #[.pointer (some ⟨d, 0, none⟩)], #[]⟩ (by rfl) (by rfl) (by rfl) (by rfl) (by rfl) (by rfl) ?_
  rw [hod5]
  clear hod5 hoo5
  rw [HB7.out, ← HW7.out]
  have HS7 := Lib.hid (show HasC [(⟨b2, 0, none⟩, .pointer (some ⟨jb, 0, none⟩)), (⟨jb, 0, none⟩, .pointer (some ⟨d, 0, none⟩))] w7 from HC7.out)
  simp only [Act.put, List.setIfInBounds_toArray, List.set_cons_zero, List.set_cons_succ]
  refine ⟨HS7.out, ?_⟩
  clear HS
  refine anyH_callG 15 (d := some 29) (f := 49) (xs := #[(.tmp 28)]) (ts := #[127]) (gd := none) (vs := #[.slice (some ⟨b7, 0, none⟩) 6 6]) (by kernel_rfl) (by rfl) (fun o ho => wanted_plain ho _) (by go_simp) (by go_simp) (HIN.out) ?_
  rintro e8 w8 ⟨rfl, h82, h83, h84⟩
  have HS8 := Lib.hid (show HasC [(⟨b2, 0, none⟩, .pointer (some ⟨jb, 0, none⟩)), (⟨jb, 0, none⟩, .pointer (some ⟨d, 0, none⟩))] w8 from HS7.out.kp h84 HXS.out)
  have HD8 := Lib.hid h82
  have HB8 := Lib.hid h83
  have HK8 := Lib.hid h84
  clear h82 h83 h84
  refine ⟨_, rfl, HS8.out, fun hS => ?_⟩
  clear hS
  simp only [Act.put, List.setIfInBounds_toArray, List.set_cons_zero, List.set_cons_succ]
  refine anyH_pureG 16 (d := 7) (op := .assign (.tmp 29)) (gd := none) (.int .i64 x) (by rfl) (fun o ho => wanted_plain ho _) (by kernel_rfl) (by kernel_rfl) (by kernel_rfl) (fun _ _ _ h => h) (fun o ho W hW => by unfold execOp; simp only [ho]; go_simp) HS8.out ?_
  simp only [Act.put, List.setIfInBounds_toArray, List.set_cons_zero, List.set_cons_succ]
  refine wpAnyH_done (by kernel_rfl) ?_ _
  clear HS7 HS8 HL1 HL2 HIN HS3
  by_cases hx4 : x = 4
  · subst hx4
    have HI2 := Lib.hid (HIN2.out w8 HD8.out HB8.out HK8.out)
    clear HIN2
    go_wp2_with fail
    refine HI2.out.mono ?_
    rintro e9 w9 ⟨rfl, g1, g2, g3⟩
    have HE := Lib.hid (show DxR X B d (N + 24) w (rwE (nm ++ ⟨#[43]⟩) (A', 4)) (.returned (.int .i64 (runA [rmA (nm ++ ⟨#[43]⟩), fun A => (A, 4)] A').2)) w9 from by
      have q9 : Below w8.heap.size w8 (w8.alloc (.cells #[.func (.func 74) #[] #[.pointer (some ⟨b2, 0, none⟩), .pointer (some ⟨b5, 0, none⟩)], .func (.func 81) #[] #[]] 68)) := (Below.refl _ _).alloc (Nat.le_refl _) _
      unfold rwE
      rw [if_pos rfl]
      exact ⟨rfl, (g1.less fun j hj => .inl (HXI.out j hj)).mono (by omega), (HW.out.mono HBX.out).trans (HB8.out.trans ((q9.mono (Nat.le_trans HBX.out (Nat.le_trans HW.out.size HB8.out.size))).trans g2)), fun j hj => by
        have hjl := HLT.out j hj
        rw [g3 j (.inl (HXI.out j hj)), q9.block j (Nat.lt_of_lt_of_le hjl (Nat.le_trans HW.out.size HB8.out.size)), HK8.out j (HXI.out j hj)]
        exact HW.out.block j hjl⟩)
    clear g1 g2 g3 HI2
    go_wp2_with fail
    go_ret
    exact HE.out
  · have hxx : (x == 4) = false := by simp [hx4]
    have HE := Lib.hid (show DxR X B d (N + 24) w (rwE (nm ++ ⟨#[43]⟩) (A', x)) (.returned (.int .i64 x)) w8 from by
      unfold rwE
      rw [if_neg hx4]
      exact ⟨rfl, (HD8.out.less fun j hj => HXI.out j hj).mono (by omega), (HW.out.mono HBX.out).trans HB8.out, fun j hj => by
        rw [HK8.out j (HXI.out j hj)]
        exact HW.out.block j (HLT.out j hj)⟩)
    clear HIN2 HD8
    go_wp2_with fail
    go_ret
    exact HE.out
end Go.Proofs.Ytihbgigledmliaa
