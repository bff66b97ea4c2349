/-
  What is used of: Joad Jsc Joe Jof Doe Dof Isd Jpb Jrf Jrs.
-/
import Derived.Test.YtihbgigledmliaaGreatQLJournalPlays3
import Derived.WalkKit
import Derived.WalkSpells
import Derived.WalkLawsBesides
import Derived.Lib.Hide
import Derived.Laws.BitsAllLaws
import Derived.Laws.AppendOwnNone
import Derived.BigQuiet
import Derived.Deep.QuietTactic
import Derived.Deep.MidRow
import Derived.Deep.RegionWith
import Derived.OrdersHeld
import Derived.Deep.RegionHeld
import Derived.RowKit
import Derived.Deep.RegionHeld3
import Derived.Deep.DrawnRows
import Derived.ProofKit
import Derived.OpenShut
import Derived.ShutString
import Derived.ChangeOld
import Derived.SizedLaws
import Derived.Laws.CopyOwn
import Derived.Laws.Rows
import Derived.Laws.Tables
import Derived.StillTailTactics
import Derived.Deep.CutRange
import Derived.Great.BuildSlice
import Derived.Maps.OwnSet
import Derived.RangeFuncFrom
import Derived.RangeFuncCalls
import Derived.RangeFuncLeaves
import Derived.OwnWalkIn
import Derived.TacticsInMore
import Derived.LoopNIn
import Derived.LoopIn
import Derived.Shelf.LaysM
import Derived.Shelf.Strconv.Clone
import Derived.Shelf.Sort.Plain
import Derived.Shelf.Strings.Prefix
import Derived.Shelf.Slices.In.SortNone
import Derived.Shelf.Bytes.SlEqualAll
import Derived.Shelf.Bytes.Small
import Derived.Maps.AppendAt
import Derived.Orders
import Derived.Sort.OwnSorted
import Derived.Maps.RangeWalk
import Derived.Lib.AppendZerosOnto
import Derived.Deep.Slices
import Derived.Deep.Fields
import Derived.Deep.Upon
import Derived.Lib.SlBytesConst
import Derived.Deep.CutBlock
namespace Go.Proofs.YtihbgigledmliaaGreat
open Go.RowKit
set_option linter.unusedVariables false
theorem run_jstep_idx (W : World) (b len cap i : Nat) (hi : i < len) : (Instr.indexAt 174 (.slice (some ⟨b, 0, none⟩) len cap) (.int .i64 (i : Int))).run Tryz.prog W = .ok (.pointer (some ⟨b, i, none⟩)) W := by
 rw [run_indexAt_slice W 174 ⟨b, 0, none⟩ len cap .i64 (i : Int) (by kernel_rfl)]
 have h1 : (0 : Int) ≤ (i : Int) ∧ (i : Int) < (len : Int) := by omega
 rw [if_pos h1, show (Go.sizeOf (Tryz.prog.elem 174)).run Tryz.prog W = .ok 1 W from by kernel_rfl]
 simp [Result.andThen, Addr.add]
 exact fun h => h.symm
set_option maxRecDepth 100000 in
set_option maxHeartbeats 4000000 in
theorem jorder_c (b n : Nat) (S : Nat → Stp) (Q : Nat → World → Prop) (Fin : Int → World → Prop) (w : World) (hn : n ≤ 1000) (h0 : Q 0 w)
  (hent : ∀ i, i < n → ∀ args W, (callFunc (S i).f args).run Tryz.prog W = .ok (.enter (S i).f args) W)
  (hcell : ∀ i, i < n → ∀ W, Q i W → W.cell? ⟨b, i, none⟩ = some (S i).val)
  (hstep : ∀ i, i < n → ∀ W, Q i W → Calls Tryz.prog (S i).f ((S i).A ++ (S i).C) W fun e w' => ∃ x, e = .returned (.int .i64 x) ∧ (x = 0 ∧ Q (i + 1) w' ∨ x ≠ 0 ∧ Fin x w')) :
  Calls Tryz.prog 83 #[.slice (some ⟨b, 0, none⟩) n n] w fun e w' => ∃ x, e = .returned (.int .i64 x) ∧ (x = 0 ∧ Q n w' ∨ x ≠ 0 ∧ Fin x w') := by
 have HC := Lib.hid hcell
 have HE := Lib.hid hent
 have HS := Lib.hid hstep
 have H0 := Lib.hid h0
 clear hcell hstep h0 hent
 go_enter Tryz.func83, Tryz.ntmps83
 go_wp2_with fail
 go_loopw [8] (fun i wr => ∃ k : Nat, k ≤ n ∧ i = .int .i64 k ∧ Hid (Q k wr)) (fun i _ => n - (intOf i).toNat)
 case atStart => exact ⟨0, Nat.zero_le _, rfl, H0⟩
 case round =>
  clear H0
  obtain ⟨k, hk, rfl, HQ⟩ := hrel
  by_cases hkn : k < n
  ·
   have c0 := HC.out k hkn wr HQ.out
   have hst := HS.out k hkn wr HQ.out
   have hen := HE.out k hkn
   generalize S k = s at c0 hst hen
   obtain ⟨f, A, C⟩ := s
   have c1 : wr.cell? ⟨b, k, none⟩ = some (.func (.func f) A C) := c0
   clear c0
   have hst : Calls Tryz.prog f (A ++ C) wr fun e w' => ∃ x, e = .returned (.int .i64 x) ∧ (x = 0 ∧ Q (k + 1) w' ∨ x ≠ 0 ∧ Fin x w') := hst
   have hen : ∀ args W, (callFunc f args).run Tryz.prog W = .ok (.enter f args) W := hen
   have hix := fun W => run_jstep_idx W b n n k hkn
   have HST := Lib.hid hst
   clear hst HQ
   go_wp2_with fail
   refine HST.out.mono ?_
   rintro e w' ⟨x, rfl, hx⟩
   rcases hx with ⟨rfl, hq⟩ | ⟨hx, hf⟩
   ·
    have HQ1 := Lib.hid hq
    clear hq HST c1 hix
    go_wp2_with fail
    go_roundw
    case rel => exact ⟨k + 1, by omega, by go_num, HQ1⟩
    case measure => simp [intOf]; omega
   ·
    have HF := Lib.hid hf
    have hxx : (x != 0) = true := by simp [hx]
    clear hf HST c1 hix
    go_wp2_with fail
    go_ret
    exact ⟨x, rfl, .inr ⟨hx, HF.out⟩⟩
  ·
   obtain rfl : k = n := by omega
   have HQ2 := Lib.hid HQ.out
   clear HQ
   go_wp2_with fail
   go_ret
   exact ⟨0, rfl, .inl ⟨rfl, HQ2.out⟩⟩
/-- steps of a journal, in order, on a disk -/
theorem jorder_ad {X : Nat → Prop} {B d N : Nat} {A : Ad} {w : World} (h : Dx X B d N A w) (b n : Nat) (S : Nat → Stp) (fs : List (Ad → Ad × Int)) (hn : fs.length = n) (hn1 : n ≤ 1000)
  (hb : X b) (hcell : ∀ i, i < n → w.cell? ⟨b, i, none⟩ = some (S i).val)
  (hent : ∀ i, i < n → ∀ args W, (callFunc (S i).f args).run Tryz.prog W = .ok (.enter (S i).f args) W)
  (hstep : ∀ i f, fs[i]? = some f → ∀ A1 W, Dx X B d (N + 3 * i) A1 W → Below B w W → KpD X w W → Calls Tryz.prog (S i).f ((S i).A ++ (S i).C) W (DxR X B d (N + 3 * i + 3) W (f A1))) :
  Calls Tryz.prog 83 #[.slice (some ⟨b, 0, none⟩) n n] w (DxR X B d (N + 3 * n) w (runA fs A)) := by
 refine (jorder_c b n S (fun i W => ∃ A1, runA (fs.take i) A = (A1, 0) ∧ Dx X B d (N + 3 * i) A1 W ∧ Below B w W ∧ KpD X w W) (fun x W => ∃ A1, runA fs A = (A1, x) ∧ Dx X B d (N + 3 * n) A1 W ∧ Below B w W ∧ KpD X w W) w hn1 ⟨A, rfl, h, Below.refl _ _, KpD.refl _ _⟩ hent ?_ ?_).mono ?_
 ·
  rintro i hi W ⟨A1, h1, h2, h3, h4⟩
  rw [World.cell?_of_block (h4 b hb)]
  exact hcell i hi
 ·
  rintro i hi W ⟨A1, h1, h2, h3, h4⟩
  obtain ⟨f, hf⟩ : ∃ f, fs[i]? = some f := ⟨_, List.getElem?_eq_getElem (by omega)⟩
  obtain ⟨r1, r2⟩ := runA_at hf h1
  refine (hstep i f hf A1 W h2 h3 h4).mono ?_
  rintro e w' ⟨rfl, k1, k2, k3⟩
  refine ⟨_, rfl, ?_⟩
  by_cases h0 : (f A1).2 = 0
  ·
   exact .inl ⟨h0, _, r1 h0, k1.mono (by omega), h3.trans k2, h4.trans k3⟩
  ·
   exact .inr ⟨h0, (f A1).1, r2 h0, k1.mono (by omega), h3.trans k2, h4.trans k3⟩
 ·
  rintro e w' ⟨x, rfl, h1⟩
  rcases h1 with ⟨rfl, A1, h2, h3, h4, h5⟩ | ⟨hx, A1, h2, h3, h4, h5⟩
  ·
   have h6 : fs.take n = fs := List.take_of_length_le (by omega)
   rw [h6] at h2
   rw [h2]
   exact ⟨rfl, h3, h4, h5⟩
  ·
   rw [h2]
   exact ⟨rfl, h3, h4, h5⟩
end Go.Proofs.YtihbgigledmliaaGreat
namespace Go.Proofs.YtihbgigledmliaaGreat
open Go.RowKit
set_option linter.unusedVariables false
/-- cells that hold what they held -/
def HasC (L : List (Addr × Value)) (W : World) : Prop := ∀ p ∈ L, W.cell? p.1 = some p.2
theorem HasC.kp {L : List (Addr × Value)} {X : Nat → Prop} {W W' : World} (h : HasC L W) (hk : KpD X W W') (hx : ∀ p ∈ L, X p.1.block) : HasC L W' := fun p hp => (World.cell?_of_block (hk p.1.block (hx p hp))).trans (h p hp)
theorem HasC.below {L : List (Addr × Value)} {W W' : World} (h : HasC L W) (hb : Below W.heap.size W W') (hx : ∀ p ∈ L, p.1.block < W.heap.size) : HasC L W' := fun p hp => (hb.cell (p := p.1) (hx p hp)).trans (h p hp)
theorem run_cell_jn (W : World) (a : Addr) (v : Option Addr) (hc : W.cell? a = some (.pointer v)) : (Instr.loadAt 31 (.pointer (some a))).run Tryz.prog W = .ok (.pointer v) W := by go_simp
theorem run_cell_bb (W : World) (a : Addr) (v : Option Addr) (l c : Nat) (hc : W.cell? a = some (.slice v l c)) : (Instr.loadAt 32 (.pointer (some a))).run Tryz.prog W = .ok (.slice v l c) W := by go_simp
def rmA (s : ByteArray) (A : Ad) : Ad × Int := ((A.step ⟨2, s, ⟨#[]⟩, []⟩).1, if (A.step ⟨2, s, ⟨#[]⟩, []⟩).2 = 6 then 0 else (A.step ⟨2, s, ⟨#[]⟩, []⟩).2)
def mkA (s : ByteArray) (A : Ad) : Ad × Int := A.step ⟨0, s, ⟨#[]⟩, []⟩
/-- bytes that are appended at once, if there are some -/
def apF (s : ByteArray) (z : List Nat) (A : Ad) : Ad × Int := if z = [] then (A, 0) else A.step ⟨1, s, ⟨#[]⟩, z⟩
def mvA (s t : ByteArray) (A : Ad) : Ad × Int := A.step ⟨3, s, t, []⟩
set_option maxRecDepth 100000 in
set_option maxHeartbeats 8000000 in
theorem rmany_c {X : Nat → Prop} {B d N : Nat} {A : Ad} {W : World} (h : Dx X B d N A W) (hN : N < 1000000000) (s : ByteArray) (hs : s.size ≤ maxLen) :
  Calls Tryz.prog 96 #[.pointer (some ⟨d, 0, none⟩), .string s] W (DxR X B d (N + 3) W (rmA s A)) := by
 have HC := Lib.hid (h.remove s hs hN)
 unfold rmA
 obtain ⟨r, hr⟩ : ∃ r, A.step ⟨2, s, ⟨#[]⟩, []⟩ = r := ⟨_, rfl⟩
 rw [hr] at HC ⊢
 obtain ⟨A', x⟩ := r
 clear h hr
 by_cases hx : x = 6
 ·
  subst hx
  go_enter Tryz.func96, Tryz.ntmps96
  go_wp2_with fail
  refine HC.out.mono ?_
  rintro e w' ⟨rfl, h2, h3⟩
  have HE := Lib.hid (And.intro h2 h3)
  clear h2 h3 HC
  go_wp2_with fail
  go_ret
  exact ⟨rfl, HE.out⟩
 ·
  have hxx : (x == 6) = false := by simp [hx]
  simp only [if_neg hx]
  go_enter Tryz.func96, Tryz.ntmps96
  go_wp2_with fail
  refine HC.out.mono ?_
  rintro e w' ⟨rfl, h2, h3⟩
  have HE := Lib.hid (And.intro h2 h3)
  clear h2 h3 HC
  go_wp2_with fail
  go_ret
  exact ⟨rfl, HE.out⟩
set_option maxRecDepth 100000 in
set_option maxHeartbeats 8000000 in
theorem jrm_c {X : Nat → Prop} {B d N b2 b5 jb : Nat} {A : Ad} {W : World} (h : Dx X B d N A W) (hN : N < 1000000000) (sp : ByteArray) (hs : sp.size ≤ maxLen) (he : HasC [(⟨b2, 0, none⟩, .pointer (some ⟨jb, 0, none⟩)), (⟨jb, 0, none⟩, .pointer (some ⟨d, 0, none⟩)), (⟨b5, 0, none⟩, .string sp)] W) (hx : ∀ p ∈ ([(⟨b2, 0, none⟩, .pointer (some ⟨jb, 0, none⟩)), (⟨jb, 0, none⟩, .pointer (some ⟨d, 0, none⟩)), (⟨b5, 0, none⟩, .string sp)] : List (Addr × Value)), X p.1.block) :
  Calls Tryz.prog 95 #[.pointer (some ⟨b2, 0, none⟩), .pointer (some ⟨b5, 0, none⟩)] W (DxR X B d (N + 3) W (rmA sp A)) := by
 have h3d : Below B W (World.drew W) := below_drewN' _ W 1
 have hd := h.below (w' := World.drew W) (below_drewN' _ W 1)
 have HC := Lib.hid (show Calls Tryz.prog _ _ (World.drew W) (DxR X B d (N + 3) (World.drew W) (rmA sp A)) from rmany_c hd hN sp hs)
 unfold DxR at HC
 obtain ⟨x, hxx⟩ : ∃ x, (rmA sp A).2 = x := ⟨_, rfl⟩
 rw [hxx] at HC
 have HX := Lib.hid hxx
 have HXL := Lib.hid hx
 have HBD := Lib.hid h3d
 have HS := Lib.hid (show HasC [(⟨b2, 0, none⟩, .pointer (some ⟨jb, 0, none⟩)), (⟨jb, 0, none⟩, .pointer (some ⟨d, 0, none⟩)), (⟨b5, 0, none⟩, .string sp)] (World.drew W) from fun p hp => he p hp)
 clear h hd hxx he h3d hx
 go_enter Tryz.func95, Tryz.ntmps95
 go_upto_region 1 with fail
 have HL0 := Lib.hid (fun W (hW : HasC [(⟨b2, 0, none⟩, .pointer (some ⟨jb, 0, none⟩)), (⟨jb, 0, none⟩, .pointer (some ⟨d, 0, none⟩)), (⟨b5, 0, none⟩, .string sp)] W) => run_cell_jn W ⟨b2, 0, none⟩ _ (hW (⟨b2, 0, none⟩, .pointer (some ⟨jb, 0, none⟩)) (by simp)))
 have HL1 := Lib.hid (fun W (hW : HasC [(⟨b2, 0, none⟩, .pointer (some ⟨jb, 0, none⟩)), (⟨jb, 0, none⟩, .pointer (some ⟨d, 0, none⟩)), (⟨b5, 0, none⟩, .string sp)] W) => run_cell_disk W ⟨jb, 0, none⟩ _ (hW (⟨jb, 0, none⟩, .pointer (some ⟨d, 0, none⟩)) (by simp)))
 have HL2 := Lib.hid (fun W (hW : HasC [(⟨b2, 0, none⟩, .pointer (some ⟨jb, 0, none⟩)), (⟨jb, 0, none⟩, .pointer (some ⟨d, 0, none⟩)), (⟨b5, 0, none⟩, .string sp)] W) => run_cell_s W ⟨b5, 0, none⟩ sp (hW (⟨b5, 0, none⟩, .string sp) (by simp)))
 have h3d := HBD.out
 refine anyH_begin (S := HasC [(⟨b2, 0, none⟩, .pointer (some ⟨jb, 0, none⟩)), (⟨jb, 0, none⟩, .pointer (some ⟨d, 0, none⟩)), (⟨b5, 0, none⟩, .string sp)]) (by kernel_rfl) ?_
 refine aL 0 (d := 3) (ty := 31) (x := (.tmp 0)) (p := .pointer (some ⟨b2, 0, none⟩)) (.pointer (some ⟨jb, 0, none⟩)) HL0.out HS.out ?_
 simp only [Act.put, sT, sZ, sS]
 refine aP 1 (d := 4) (op := .nilCheck (.tmp 3)) (.pointer (some ⟨jb, 0, none⟩)) HS.out ?_
 simp only [Act.put, sT, sZ, sS]
 refine aP 2 (d := 5) (op := .fieldAddr 88 (.tmp 4) 0) (.pointer (some ⟨jb, 0, none⟩)) HS.out ?_
 simp only [Act.put, sT, sZ, sS]
 refine aL 3 (d := 6) (ty := 25) (x := (.tmp 5)) (p := .pointer (some ⟨jb, 0, none⟩)) (.pointer (some ⟨d, 0, none⟩)) HL1.out HS.out ?_
 simp only [Act.put, sT, sZ, sS]
 refine aL 4 (d := 7) (ty := 9) (x := (.tmp 1)) (p := .pointer (some ⟨b5, 0, none⟩)) (.string sp) HL2.out HS.out ?_
 simp only [Act.put, sT, sZ, sS]
 refine anyH_callG 5 (d := some 8) (f := 96) (xs := #[(.tmp 6), (.tmp 7)]) (ts := #[25, 9]) (gd := none) (vs := #[.pointer (some ⟨d, 0, none⟩), .string sp]) (by kernel_rfl) (by rfl) wantedP (by go_simp) (by go_simp) (HC.out) ?_
 rintro e2 w2 ⟨rfl, h2, h3, h4⟩
 have HE := Lib.hid (show DxR X B d (N + 3) W (rmA sp A) (.returned (.int .i64 x)) w2 from ⟨by rw [HX.out], h2, h3d.trans h3, fun j hj => (h4 j hj).trans rfl⟩)
 have HS2 := Lib.hid (show HasC [(⟨b2, 0, none⟩, .pointer (some ⟨jb, 0, none⟩)), (⟨jb, 0, none⟩, .pointer (some ⟨d, 0, none⟩)), (⟨b5, 0, none⟩, .string sp)] w2 from HS.out.kp h4 HXL.out)
 clear h2 h3 h4
 refine ⟨_, rfl, HS2.out, fun hS => ?_⟩
 clear hS
 simp only [Act.put, sT, sZ, sS]
 refine aP 6 (d := 2) (op := .assign (.tmp 8)) (.int .i64 x) HS2.out ?_
 simp only [Act.put, sT, sZ, sS]
 refine wpAnyH_done (by kernel_rfl) ?_ _
 clear HS HS2 HC HL0 HL1 HL2
 go_wp2_with fail
 go_ret
 exact HE.out
set_option maxRecDepth 100000 in
set_option maxHeartbeats 8000000 in
theorem jmk_c {X : Nat → Prop} {B d N b2 b5 jb : Nat} {A : Ad} {W : World} (h : Dx X B d N A W) (hN : N < 1000000000) (sp : ByteArray) (hs : sp.size ≤ maxLen) (he : HasC [(⟨b2, 0, none⟩, .pointer (some ⟨jb, 0, none⟩)), (⟨jb, 0, none⟩, .pointer (some ⟨d, 0, none⟩)), (⟨b5, 0, none⟩, .string sp)] W) (hx : ∀ p ∈ ([(⟨b2, 0, none⟩, .pointer (some ⟨jb, 0, none⟩)), (⟨jb, 0, none⟩, .pointer (some ⟨d, 0, none⟩)), (⟨b5, 0, none⟩, .string sp)] : List (Addr × Value)), X p.1.block) :
  Calls Tryz.prog 97 #[.pointer (some ⟨b2, 0, none⟩), .pointer (some ⟨b5, 0, none⟩)] W (DxR X B d (N + 3) W (mkA sp A)) := by
 have h3d : Below B W (World.drew W) := below_drewN' _ W 1
 have hd := h.below (w' := World.drew W) (below_drewN' _ W 1)
 have HC := Lib.hid (show Calls Tryz.prog _ _ (World.drew W) (DxR X B d (N + 3) (World.drew W) (mkA sp A)) from hd.create sp hs hN)
 unfold DxR at HC
 obtain ⟨x, hxx⟩ : ∃ x, (mkA sp A).2 = x := ⟨_, rfl⟩
 rw [hxx] at HC
 have HX := Lib.hid hxx
 have HXL := Lib.hid hx
 have HBD := Lib.hid h3d
 have HS := Lib.hid (show HasC [(⟨b2, 0, none⟩, .pointer (some ⟨jb, 0, none⟩)), (⟨jb, 0, none⟩, .pointer (some ⟨d, 0, none⟩)), (⟨b5, 0, none⟩, .string sp)] (World.drew W) from fun p hp => he p hp)
 clear h hd hxx he h3d hx
 go_enter Tryz.func97, Tryz.ntmps97
 go_upto_region 1 with fail
 have HL0 := Lib.hid (fun W (hW : HasC [(⟨b2, 0, none⟩, .pointer (some ⟨jb, 0, none⟩)), (⟨jb, 0, none⟩, .pointer (some ⟨d, 0, none⟩)), (⟨b5, 0, none⟩, .string sp)] W) => run_cell_jn W ⟨b2, 0, none⟩ _ (hW (⟨b2, 0, none⟩, .pointer (some ⟨jb, 0, none⟩)) (by simp)))
 have HL1 := Lib.hid (fun W (hW : HasC [(⟨b2, 0, none⟩, .pointer (some ⟨jb, 0, none⟩)), (⟨jb, 0, none⟩, .pointer (some ⟨d, 0, none⟩)), (⟨b5, 0, none⟩, .string sp)] W) => run_cell_disk W ⟨jb, 0, none⟩ _ (hW (⟨jb, 0, none⟩, .pointer (some ⟨d, 0, none⟩)) (by simp)))
 have HL2 := Lib.hid (fun W (hW : HasC [(⟨b2, 0, none⟩, .pointer (some ⟨jb, 0, none⟩)), (⟨jb, 0, none⟩, .pointer (some ⟨d, 0, none⟩)), (⟨b5, 0, none⟩, .string sp)] W) => run_cell_s W ⟨b5, 0, none⟩ sp (hW (⟨b5, 0, none⟩, .string sp) (by simp)))
 have h3d := HBD.out
 refine anyH_begin (S := HasC [(⟨b2, 0, none⟩, .pointer (some ⟨jb, 0, none⟩)), (⟨jb, 0, none⟩, .pointer (some ⟨d, 0, none⟩)), (⟨b5, 0, none⟩, .string sp)]) (by kernel_rfl) ?_
 refine aL 0 (d := 3) (ty := 31) (x := (.tmp 0)) (p := .pointer (some ⟨b2, 0, none⟩)) (.pointer (some ⟨jb, 0, none⟩)) HL0.out HS.out ?_
 simp only [Act.put, sT, sZ, sS]
 refine aP 1 (d := 4) (op := .nilCheck (.tmp 3)) (.pointer (some ⟨jb, 0, none⟩)) HS.out ?_
 simp only [Act.put, sT, sZ, sS]
 refine aP 2 (d := 5) (op := .fieldAddr 88 (.tmp 4) 0) (.pointer (some ⟨jb, 0, none⟩)) HS.out ?_
 simp only [Act.put, sT, sZ, sS]
 refine aL 3 (d := 6) (ty := 25) (x := (.tmp 5)) (p := .pointer (some ⟨jb, 0, none⟩)) (.pointer (some ⟨d, 0, none⟩)) HL1.out HS.out ?_
 simp only [Act.put, sT, sZ, sS]
 refine aL 4 (d := 7) (ty := 9) (x := (.tmp 1)) (p := .pointer (some ⟨b5, 0, none⟩)) (.string sp) HL2.out HS.out ?_
 simp only [Act.put, sT, sZ, sS]
 refine anyH_callG 5 (d := some 8) (f := 50) (xs := #[(.tmp 6), (.tmp 7)]) (ts := #[25, 9]) (gd := none) (vs := #[.pointer (some ⟨d, 0, none⟩), .string sp]) (by kernel_rfl) (by rfl) wantedP (by go_simp) (by go_simp) (HC.out) ?_
 rintro e2 w2 ⟨rfl, h2, h3, h4⟩
 have HE := Lib.hid (show DxR X B d (N + 3) W (mkA sp A) (.returned (.int .i64 x)) w2 from ⟨by rw [HX.out], h2, h3d.trans h3, fun j hj => (h4 j hj).trans rfl⟩)
 have HS2 := Lib.hid (show HasC [(⟨b2, 0, none⟩, .pointer (some ⟨jb, 0, none⟩)), (⟨jb, 0, none⟩, .pointer (some ⟨d, 0, none⟩)), (⟨b5, 0, none⟩, .string sp)] w2 from HS.out.kp h4 HXL.out)
 clear h2 h3 h4
 refine ⟨_, rfl, HS2.out, fun hS => ?_⟩
 clear hS
 simp only [Act.put, sT, sZ, sS]
 refine aP 6 (d := 2) (op := .assign (.tmp 8)) (.int .i64 x) HS2.out ?_
 simp only [Act.put, sT, sZ, sS]
 refine wpAnyH_done (by kernel_rfl) ?_ _
 clear HS HS2 HC HL0 HL1 HL2
 go_wp2_with fail
 go_ret
 exact HE.out
set_option maxRecDepth 100000 in
set_option maxHeartbeats 8000000 in
theorem jmv_c {X : Nat → Prop} {B d N b2 b5 jb : Nat} {A : Ad} {W : World} (h : Dx X B d N A W) (hN : N < 1000000000) (nm sp : ByteArray) (hn : nm.size ≤ maxLen) (hs : sp.size ≤ maxLen) (he : HasC [(⟨b2, 0, none⟩, .pointer (some ⟨jb, 0, none⟩)), (⟨jb, 0, none⟩, .pointer (some ⟨d, 0, none⟩)), (⟨jb, 1, none⟩, .string nm), (⟨b5, 0, none⟩, .string sp)] W) (hx : ∀ p ∈ ([(⟨b2, 0, none⟩, .pointer (some ⟨jb, 0, none⟩)), (⟨jb, 0, none⟩, .pointer (some ⟨d, 0, none⟩)), (⟨jb, 1, none⟩, .string nm), (⟨b5, 0, none⟩, .string sp)] : List (Addr × Value)), X p.1.block) :
  Calls Tryz.prog 100 #[.pointer (some ⟨b2, 0, none⟩), .pointer (some ⟨b5, 0, none⟩)] W (DxR X B d (N + 3) W (mvA sp nm A)) := by
 have h3d : Below B W (World.drew W) := below_drewN' _ W 1
 have hd := h.below (w' := World.drew W) (below_drewN' _ W 1)
 have HC := Lib.hid (show Calls Tryz.prog _ _ (World.drew W) (DxR X B d (N + 3) (World.drew W) (mvA sp nm A)) from hd.rename sp nm hs hn hN)
 unfold DxR at HC
 obtain ⟨x, hxx⟩ : ∃ x, (mvA sp nm A).2 = x := ⟨_, rfl⟩
 rw [hxx] at HC
 have HX := Lib.hid hxx
 have HXL := Lib.hid hx
 have HBD := Lib.hid h3d
 have HS := Lib.hid (show HasC [(⟨b2, 0, none⟩, .pointer (some ⟨jb, 0, none⟩)), (⟨jb, 0, none⟩, .pointer (some ⟨d, 0, none⟩)), (⟨jb, 1, none⟩, .string nm), (⟨b5, 0, none⟩, .string sp)] (World.drew W) from fun p hp => he p hp)
 clear h hd hxx he h3d hx
 go_enter Tryz.func100, Tryz.ntmps100
 go_upto_region 1 with fail
 have HL0 := Lib.hid (fun W (hW : HasC [(⟨b2, 0, none⟩, .pointer (some ⟨jb, 0, none⟩)), (⟨jb, 0, none⟩, .pointer (some ⟨d, 0, none⟩)), (⟨jb, 1, none⟩, .string nm), (⟨b5, 0, none⟩, .string sp)] W) => run_cell_jn W ⟨b2, 0, none⟩ _ (hW (⟨b2, 0, none⟩, .pointer (some ⟨jb, 0, none⟩)) (by simp)))
 have HL1 := Lib.hid (fun W (hW : HasC [(⟨b2, 0, none⟩, .pointer (some ⟨jb, 0, none⟩)), (⟨jb, 0, none⟩, .pointer (some ⟨d, 0, none⟩)), (⟨jb, 1, none⟩, .string nm), (⟨b5, 0, none⟩, .string sp)] W) => run_cell_disk W ⟨jb, 0, none⟩ _ (hW (⟨jb, 0, none⟩, .pointer (some ⟨d, 0, none⟩)) (by simp)))
 have HL2 := Lib.hid (fun W (hW : HasC [(⟨b2, 0, none⟩, .pointer (some ⟨jb, 0, none⟩)), (⟨jb, 0, none⟩, .pointer (some ⟨d, 0, none⟩)), (⟨jb, 1, none⟩, .string nm), (⟨b5, 0, none⟩, .string sp)] W) => run_cell_s W ⟨jb, 1, none⟩ nm (hW (⟨jb, 1, none⟩, .string nm) (by simp)))
 have HL3 := Lib.hid (fun W (hW : HasC [(⟨b2, 0, none⟩, .pointer (some ⟨jb, 0, none⟩)), (⟨jb, 0, none⟩, .pointer (some ⟨d, 0, none⟩)), (⟨jb, 1, none⟩, .string nm), (⟨b5, 0, none⟩, .string sp)] W) => run_cell_s W ⟨b5, 0, none⟩ sp (hW (⟨b5, 0, none⟩, .string sp) (by simp)))
 have h3d := HBD.out
 refine anyH_begin (S := HasC [(⟨b2, 0, none⟩, .pointer (some ⟨jb, 0, none⟩)), (⟨jb, 0, none⟩, .pointer (some ⟨d, 0, none⟩)), (⟨jb, 1, none⟩, .string nm), (⟨b5, 0, none⟩, .string sp)]) (by kernel_rfl) ?_
 refine aL 0 (d := 3) (ty := 31) (x := (.tmp 0)) (p := .pointer (some ⟨b2, 0, none⟩)) (.pointer (some ⟨jb, 0, none⟩)) HL0.out HS.out ?_
 simp only [Act.put, sT, sZ, sS]
 refine aP 1 (d := 4) (op := .nilCheck (.tmp 3)) (.pointer (some ⟨jb, 0, none⟩)) HS.out ?_
 simp only [Act.put, sT, sZ, sS]
 refine aP 2 (d := 5) (op := .fieldAddr 88 (.tmp 4) 0) (.pointer (some ⟨jb, 0, none⟩)) HS.out ?_
 simp only [Act.put, sT, sZ, sS]
 refine aL 3 (d := 6) (ty := 25) (x := (.tmp 5)) (p := .pointer (some ⟨jb, 0, none⟩)) (.pointer (some ⟨d, 0, none⟩)) HL1.out HS.out ?_
 simp only [Act.put, sT, sZ, sS]
 refine aL 4 (d := 7) (ty := 9) (x := (.tmp 1)) (p := .pointer (some ⟨b5, 0, none⟩)) (.string sp) HL3.out HS.out ?_
 simp only [Act.put, sT, sZ, sS]
 refine aL 5 (d := 8) (ty := 31) (x := (.tmp 0)) (p := .pointer (some ⟨b2, 0, none⟩)) (.pointer (some ⟨jb, 0, none⟩)) HL0.out HS.out ?_
 simp only [Act.put, sT, sZ, sS]
 refine aP 6 (d := 9) (op := .nilCheck (.tmp 8)) (.pointer (some ⟨jb, 0, none⟩)) HS.out ?_
 simp only [Act.put, sT, sZ, sS]
 refine aP 7 (d := 10) (op := .fieldAddr 88 (.tmp 9) 1) (.pointer (some ⟨jb, 1, none⟩)) HS.out ?_
 simp only [Act.put, sT, sZ, sS]
 refine aL 8 (d := 11) (ty := 9) (x := (.tmp 10)) (p := .pointer (some ⟨jb, 1, none⟩)) (.string nm) HL2.out HS.out ?_
 simp only [Act.put, sT, sZ, sS]
 refine anyH_callG 9 (d := some 12) (f := 52) (xs := #[(.tmp 6), (.tmp 7), (.tmp 11)]) (ts := #[25, 9, 9]) (gd := none) (vs := #[.pointer (some ⟨d, 0, none⟩), .string sp, .string nm]) (by kernel_rfl) (by rfl) wantedP (by go_simp) (by go_simp) (HC.out) ?_
 rintro e2 w2 ⟨rfl, h2, h3, h4⟩
 have HE := Lib.hid (show DxR X B d (N + 3) W (mvA sp nm A) (.returned (.int .i64 x)) w2 from ⟨by rw [HX.out], h2, h3d.trans h3, fun j hj => (h4 j hj).trans rfl⟩)
 have HS2 := Lib.hid (show HasC [(⟨b2, 0, none⟩, .pointer (some ⟨jb, 0, none⟩)), (⟨jb, 0, none⟩, .pointer (some ⟨d, 0, none⟩)), (⟨jb, 1, none⟩, .string nm), (⟨b5, 0, none⟩, .string sp)] w2 from HS.out.kp h4 HXL.out)
 clear h2 h3 h4
 refine ⟨_, rfl, HS2.out, fun hS => ?_⟩
 clear hS
 simp only [Act.put, sT, sZ, sS]
 refine aP 10 (d := 2) (op := .assign (.tmp 12)) (.int .i64 x) HS2.out ?_
 simp only [Act.put, sT, sZ, sS]
 refine wpAnyH_done (by kernel_rfl) ?_ _
 clear HS HS2 HC HL0 HL1 HL2 HL3
 go_wp2_with fail
 go_ret
 exact HE.out
set_option maxRecDepth 100000 in
set_option maxHeartbeats 8000000 in
theorem jcr_c {X : Nat → Prop} {B d N b2 jb : Nat} {A : Ad} {W : World} (h : Dx X B d N A W) (hN : N < 1000000000) (nm : ByteArray) (hs : nm.size ≤ maxLen) (he : HasC [(⟨b2, 0, none⟩, .pointer (some ⟨jb, 0, none⟩)), (⟨jb, 0, none⟩, .pointer (some ⟨d, 0, none⟩)), (⟨jb, 1, none⟩, .string nm)] W) (hx : ∀ p ∈ ([(⟨b2, 0, none⟩, .pointer (some ⟨jb, 0, none⟩)), (⟨jb, 0, none⟩, .pointer (some ⟨d, 0, none⟩)), (⟨jb, 1, none⟩, .string nm)] : List (Addr × Value)), X p.1.block) :
  Calls Tryz.prog 82 #[.pointer (some ⟨b2, 0, none⟩)] W (DxR X B d (N + 3) W (mkA nm A)) := by
 have h3d : Below B W (World.drew W) := below_drewN' _ W 1
 have hd := h.below (w' := World.drew W) (below_drewN' _ W 1)
 have HC := Lib.hid (show Calls Tryz.prog _ _ (World.drew W) (DxR X B d (N + 3) (World.drew W) (mkA nm A)) from hd.create nm hs hN)
 unfold DxR at HC
 obtain ⟨x, hxx⟩ : ∃ x, (mkA nm A).2 = x := ⟨_, rfl⟩
 rw [hxx] at HC
 have HX := Lib.hid hxx
 have HXL := Lib.hid hx
 have HBD := Lib.hid h3d
 have HS := Lib.hid (show HasC [(⟨b2, 0, none⟩, .pointer (some ⟨jb, 0, none⟩)), (⟨jb, 0, none⟩, .pointer (some ⟨d, 0, none⟩)), (⟨jb, 1, none⟩, .string nm)] (World.drew W) from fun p hp => he p hp)
 clear h hd hxx he h3d hx
 go_enter Tryz.func82, Tryz.ntmps82
 go_upto_region 1 with fail
 have HL0 := Lib.hid (fun W (hW : HasC [(⟨b2, 0, none⟩, .pointer (some ⟨jb, 0, none⟩)), (⟨jb, 0, none⟩, .pointer (some ⟨d, 0, none⟩)), (⟨jb, 1, none⟩, .string nm)] W) => run_cell_jn W ⟨b2, 0, none⟩ _ (hW (⟨b2, 0, none⟩, .pointer (some ⟨jb, 0, none⟩)) (by simp)))
 have HL1 := Lib.hid (fun W (hW : HasC [(⟨b2, 0, none⟩, .pointer (some ⟨jb, 0, none⟩)), (⟨jb, 0, none⟩, .pointer (some ⟨d, 0, none⟩)), (⟨jb, 1, none⟩, .string nm)] W) => run_cell_disk W ⟨jb, 0, none⟩ _ (hW (⟨jb, 0, none⟩, .pointer (some ⟨d, 0, none⟩)) (by simp)))
 have HL2 := Lib.hid (fun W (hW : HasC [(⟨b2, 0, none⟩, .pointer (some ⟨jb, 0, none⟩)), (⟨jb, 0, none⟩, .pointer (some ⟨d, 0, none⟩)), (⟨jb, 1, none⟩, .string nm)] W) => run_cell_s W ⟨jb, 1, none⟩ nm (hW (⟨jb, 1, none⟩, .string nm) (by simp)))
 have h3d := HBD.out
 refine anyH_begin (S := HasC [(⟨b2, 0, none⟩, .pointer (some ⟨jb, 0, none⟩)), (⟨jb, 0, none⟩, .pointer (some ⟨d, 0, none⟩)), (⟨jb, 1, none⟩, .string nm)]) (by kernel_rfl) ?_
 refine aL 0 (d := 2) (ty := 31) (x := (.tmp 0)) (p := .pointer (some ⟨b2, 0, none⟩)) (.pointer (some ⟨jb, 0, none⟩)) HL0.out HS.out ?_
 simp only [Act.put, sT, sZ, sS]
 refine aP 1 (d := 3) (op := .nilCheck (.tmp 2)) (.pointer (some ⟨jb, 0, none⟩)) HS.out ?_
 simp only [Act.put, sT, sZ, sS]
 refine aP 2 (d := 4) (op := .fieldAddr 88 (.tmp 3) 0) (.pointer (some ⟨jb, 0, none⟩)) HS.out ?_
 simp only [Act.put, sT, sZ, sS]
 refine aL 3 (d := 5) (ty := 25) (x := (.tmp 4)) (p := .pointer (some ⟨jb, 0, none⟩)) (.pointer (some ⟨d, 0, none⟩)) HL1.out HS.out ?_
 simp only [Act.put, sT, sZ, sS]
 refine aL 4 (d := 6) (ty := 31) (x := (.tmp 0)) (p := .pointer (some ⟨b2, 0, none⟩)) (.pointer (some ⟨jb, 0, none⟩)) HL0.out HS.out ?_
 simp only [Act.put, sT, sZ, sS]
 refine aP 5 (d := 7) (op := .nilCheck (.tmp 6)) (.pointer (some ⟨jb, 0, none⟩)) HS.out ?_
 simp only [Act.put, sT, sZ, sS]
 refine aP 6 (d := 8) (op := .fieldAddr 88 (.tmp 7) 1) (.pointer (some ⟨jb, 1, none⟩)) HS.out ?_
 simp only [Act.put, sT, sZ, sS]
 refine aL 7 (d := 9) (ty := 9) (x := (.tmp 8)) (p := .pointer (some ⟨jb, 1, none⟩)) (.string nm) HL2.out HS.out ?_
 simp only [Act.put, sT, sZ, sS]
 refine anyH_callG 8 (d := some 10) (f := 50) (xs := #[(.tmp 5), (.tmp 9)]) (ts := #[25, 9]) (gd := none) (vs := #[.pointer (some ⟨d, 0, none⟩), .string nm]) (by kernel_rfl) (by rfl) wantedP (by go_simp) (by go_simp) (HC.out) ?_
 rintro e2 w2 ⟨rfl, h2, h3, h4⟩
 have HE := Lib.hid (show DxR X B d (N + 3) W (mkA nm A) (.returned (.int .i64 x)) w2 from ⟨by rw [HX.out], h2, h3d.trans h3, fun j hj => (h4 j hj).trans rfl⟩)
 have HS2 := Lib.hid (show HasC [(⟨b2, 0, none⟩, .pointer (some ⟨jb, 0, none⟩)), (⟨jb, 0, none⟩, .pointer (some ⟨d, 0, none⟩)), (⟨jb, 1, none⟩, .string nm)] w2 from HS.out.kp h4 HXL.out)
 clear h2 h3 h4
 refine ⟨_, rfl, HS2.out, fun hS => ?_⟩
 clear hS
 simp only [Act.put, sT, sZ, sS]
 refine aP 9 (d := 1) (op := .assign (.tmp 10)) (.int .i64 x) HS2.out ?_
 simp only [Act.put, sT, sZ, sS]
 refine wpAnyH_done (by kernel_rfl) ?_ _
 clear HS HS2 HC HL0 HL1 HL2
 go_wp2_with fail
 go_ret
 exact HE.out
set_option maxRecDepth 100000 in
theorem jfull_c (W : World) : Calls Tryz.prog 101 #[] W fun e w' => e = .returned (.int .i64 4) ∧ w' = W := by
 go_enter Tryz.func101, Tryz.ntmps101
 go_wp2_with fail
 go_ret
 exact ⟨rfl, rfl⟩
end Go.Proofs.YtihbgigledmliaaGreat
namespace Go.Proofs.YtihbgigledmliaaGreat
open Go.RowKit
set_option linter.unusedVariables false
/-- records in memory, in blocks below B or of X -/
structure Rcd (X : Nat → Prop) (B : Nat) (w : World) (a : Option Addr) (n : Nat) (ps : List (List Nat)) : Prop where
 ln : ps.length = n
 rc : ∀ (k : Nat) (p : List Nat), ps[k]? = some p → ∃ b o pa pc, a = some ⟨b, o, none⟩ ∧ (b < B ∨ X b) ∧ b < w.heap.size ∧ w.cell? ⟨b, o + k, none⟩ = some (.slice pa p.length pc) ∧ Rd w pa p.length p ∧ (∀ b' o' s, pa = some ⟨b', o', s⟩ → p.length ≠ 0 → b' < B ∨ X b') ∧ (pa = none → pc = 0) ∧ p.length ≤ pc ∧ pc ≤ 9223372036854775807
theorem rd_blkJ {W : World} {a : Option Addr} {n : Nat} {z : List Nat} (h : Rd W a n z) {b o : Nat} {s : Option _} (e : a = some ⟨b, o, s⟩) (hn : n ≠ 0) : b < W.heap.size := by
 obtain ⟨b', off, h1, h2, _⟩ := h.2.2.resolve_left hn
 rw [h1] at e
 cases e
 exact h2
theorem rd_stay {W W' : World} {a : Option Addr} {n : Nat} {z : List Nat} (h : Rd W a n z) (hz : W.heap.size ≤ W'.heap.size) (hk : ∀ b o s, a = some ⟨b, o, s⟩ → n ≠ 0 → W'.heap[b]? = W.heap[b]?) : Rd W' a n z := by
 obtain ⟨h1, h2, h3⟩ := h
 refine ⟨h1, h2, ?_⟩
 by_cases h0 : n = 0
 ·
  exact .inl h0
 ·
  obtain ⟨b, off, rfl, hb, hc⟩ := h3.resolve_left h0
  have hk' := hk b off none rfl h0
  exact .inr ⟨b, off, rfl, Nat.lt_of_lt_of_le hb hz, fun i hi => (World.cell?_of_block (a := ⟨b, off + i, none⟩) hk').trans (hc i hi)⟩
theorem Rcd.stay {X : Nat → Prop} {B : Nat} {w w' : World} {a : Option Addr} {n : Nat} {ps : List (List Nat)} (h : Rcd X B w a n ps) (hz : w.heap.size ≤ w'.heap.size) (hk : ∀ j, j < w.heap.size → (j < B ∨ X j) → w'.heap[j]? = w.heap[j]?) : Rcd X B w' a n ps :=
 ⟨h.ln, fun k p hp => by
  obtain ⟨b, o, pa, pc, h1, h2, h3, h4, h5, h6, h7, h8, h9⟩ := h.rc k p hp
  exact ⟨b, o, pa, pc, h1, h2, Nat.lt_of_lt_of_le h3 hz, (World.cell?_of_block (a := ⟨b, o + k, none⟩) (hk b h3 h2)).trans h4, rd_stay h5 hz (fun b' o' s e hn => hk b' (rd_blkJ h5 e hn) (h6 b' o' s e hn)), h6, h7, h8, h9⟩⟩
theorem Rcd.below {X : Nat → Prop} {B : Nat} {w w' : World} {a : Option Addr} {n : Nat} {ps : List (List Nat)} (h : Rcd X B w a n ps) (hb : Below w.heap.size w w') : Rcd X B w' a n ps := h.stay hb.size fun j hj _ => hb.block j hj
theorem Rcd.kp {X : Nat → Prop} {B : Nat} {w w' : World} {a : Option Addr} {n : Nat} {ps : List (List Nat)} (h : Rcd X B w a n ps) (hb : Below B w w') (hk : KpD X w w') : Rcd X B w' a n ps := h.stay hb.size fun j _ hj => hj.elim (fun e => hb.block j e) fun e => hk j e
theorem Rcd.more {X Y : Nat → Prop} {B : Nat} {w : World} {a : Option Addr} {n : Nat} {ps : List (List Nat)} (h : Rcd X B w a n ps) (hX : ∀ j, X j → Y j) : Rcd Y B w a n ps :=
 ⟨h.ln, fun k p hp => by
  obtain ⟨b, o, pa, pc, h1, h2, h3, h4, h5, h6, h7, h8, h9⟩ := h.rc k p hp
  exact ⟨b, o, pa, pc, h1, h2.imp id (hX _), h3, h4, h5, fun b' o' s e hn => (h6 b' o' s e hn).imp id (hX _), h7, h8, h9⟩⟩
theorem run_bidx (W : World) (b o len cap i : Nat) (hi : i < len) : (Instr.indexAt 32 (.slice (some ⟨b, o, none⟩) len cap) (.int .i64 (i : Int))).run Tryz.prog W = .ok (.pointer (some ⟨b, o + i, none⟩)) W := by
 rw [run_indexAt_slice W 32 ⟨b, o, none⟩ len cap .i64 (i : Int) (by kernel_rfl)]
 have h1 : (0 : Int) ≤ (i : Int) ∧ (i : Int) < (len : Int) := by omega
 rw [if_pos h1, show (Go.sizeOf (Tryz.prog.elem 32)).run Tryz.prog W = .ok 1 W from by kernel_rfl]
 simp [Result.andThen, Addr.add]
theorem flat_take_le (ps : List (List Nat)) (k : Nat) : (Frm.flatF (ps.take k)).length ≤ (Frm.flatF ps).length := by
 conv => rhs; rw [← List.take_append_drop k ps, Frm.flat_app, List.length_append]
 omega
theorem own_blk {w : World} {B : Nat} {a : Option Addr} {n c : Nat} {zs : List Nat} (h : Own w B (.slice a n c) zs) : ∀ b o s, a = some ⟨b, o, s⟩ → B ≤ b ∧ b < w.heap.size := fun b o s e => by
 have := World.ownsRow.lt h
 rcases h.2 with ⟨h1, _⟩ | ⟨g, cap, cur, h1, h2, h3, _⟩
 ·
  cases (Value.slice.inj h1).1; cases e
 ·
  have e1 := (Value.slice.inj h1).1
  rw [e1] at e
  cases e
  exact ⟨h2, (Array.getElem?_eq_some_iff.1 h3).1⟩
set_option maxRecDepth 100000 in
set_option maxHeartbeats 8000000 in
theorem japf_c {X : Nat → Prop} {B d N : Nat} {A : Ad} {w : World} (h : Dx X B d N A w) (hN : N < 1000000000) (s : ByteArray) (hs : s.size ≤ maxLen) (ra : Option Addr) (rn rc : Nat) (ps : List (List Nat)) (hr : Rcd X B w ra rn ps) (hrn : rn ≤ 1000000) (hfl : (Frm.flatF ps).length < 1048576) (hpb : ∀ p ∈ ps, ∀ z ∈ p, z < 256) :
  Calls Tryz.prog 99 #[.pointer (some ⟨d, 0, none⟩), .string s, .slice ra rn rc] w (DxR X B d (N + 3) w (apF s (Frm.flatF ps) A)) := by
 have HR := Lib.hid hr
 have HFL := Lib.hid (fun k => Nat.lt_of_le_of_lt (flat_take_le ps k) hfl)
 have HPB := Lib.hid hpb
 have HD := Lib.hid h
 have HBW := Lib.hid (Nat.le_of_lt (Nat.lt_of_le_of_lt h.base.1 h.base.2))
 obtain ⟨z, hz⟩ : ∃ z, z = Frm.flatF ps := ⟨_, rfl⟩
 rw [← hz]
 have HZ := Lib.hid hz
 clear hr hfl hpb h hz
 go_enter Tryz.func99, Tryz.ntmps99
 go_wp2_with fail
 go_loopw [7, 13] (fun v i wr => ∃ k : Nat, k ≤ rn ∧ i = .int .i64 k ∧ Hid (Own wr w.heap.size v (Frm.flatF (ps.take k))) ∧ Hid (Below w.heap.size w wr)) (fun _ i _ => rn - (intOf i).toNat)
 case atStart => exact ⟨0, Nat.zero_le _, rfl, by simpa [Frm.flatF, Hid] using Own.nil w w.heap.size, Below.refl _ _⟩
 case round =>
  obtain ⟨k, hk, rfl, HO, HB⟩ := hrel
  by_cases hkn : k < rn
  ·
   obtain ⟨p, hp⟩ : ∃ p, ps[k]? = some p := ⟨_, List.getElem?_eq_getElem (by rw [HR.out.ln]; exact hkn)⟩
   have HSN := Lib.hid (Frm.flat_snoc ps k p hp)
   have hpl : p.length < 1048576 := by
    have h1 := HFL.out (k + 1)
    rw [HSN.out, List.length_append, Frm.frame_len] at h1
    omega
   obtain ⟨b, o, pa, pc, rfl, hb1, hb2, hc, hrd, _, hnil, hpc, hpm⟩ := HR.out.rc k p hp
   have hcr := (HB.out.cell (p := ⟨b, o + k, none⟩) hb2).trans hc
   have kI := fun W => run_bidx W b o rn rc k hkn
   have HPB1 := Lib.hid (HPB.out p (List.mem_of_getElem? hp))
   have HFR := Lib.hid ((frame_c pa p.length pc p wr (hrd.below HB.out) hnil (by omega)).mono (RetB.form (Frm.frame_byte p HPB1.out)))
   have HFB := Lib.hid (Frm.flat_byte (ps.take (k + 1)) (fun q hq => HPB.out q (List.mem_of_mem_take hq)))
   have hsz := HB.out.size
   obtain ⟨pn, hpn⟩ : ∃ pn, pn = p.length := ⟨_, rfl⟩
   rw [← hpn] at hcr HFR hpl
   clear hp hb1 hb2 hc hrd hnil hpc hpm hpn
   go_wp2_with fail
   refine HFR.out.mono ?_
   rintro e3 w3 ⟨a3, L3, c3, rfl, hl3, hlc3, hcm3, hn3, hr3, ho3, hb3⟩
   have HO3 := Lib.hid (show Own w3 w.heap.size u7 (Frm.flatF (ps.take k)) from row_keep HO.out fun j hj => hb3.block j (World.ownsRow.lt HO.out j hj).2)
   have HB3 := Lib.hid (HB.out.trans (hb3.mono hsz))
   have HR3 := Lib.hid hr3
   have hpos : 0 < L3 := by rw [← hl3, Frm.frame_len]; omega
   have HLE := Lib.hid (show (Frm.flatF (ps.take k)).length + (Frm.frameL p).length ≤ 140737488355328 from by
    have := HFL.out (k + 1)
    rw [HSN.out, List.length_append] at this
    omega)
   have hsz3 := HB3.out.size
   clear hl3 hlc3 hcm3 hn3 hr3 ho3 hb3 HO HFR hcr kI
   go_upto_region 6 with (at_builtin; (refine wpList_catG rfl (.tmp 17) (.tmp 19) rfl w.heap.size u7 (Frm.flatF (ps.take k)) (Frm.frameL p) rfl HO3.out hsz3 a3 L3 c3 rfl HR3.out hpos HLE.out ?_); intro v4 w4 g1 g2; have HO4 := Lib.hid (show Own w4 w.heap.size v4 (Frm.flatF (ps.take (k + 1))) from by rw [HSN.out]; exact g1); have HB4 := Lib.hid (HB3.out.grown g2 hsz3 (fun q hq => (World.ownsRow.lt HO3.out q hq).1)); clear g1 g2)
   obtain ⟨a4, L4, c4, rfl, hl4, hlc4, hcm4, hn4, hr4, _⟩ := HO4.out.form HFB.out
   have hL4 : decide ((1048576 : Int) ≤ (L4 : Int)) = false := decide_eq_false (by have := HFL.out (k + 1); omega)
   clear hl4 hlc4 hcm4 hn4 hr4 HO3 HB3
   go_wp2_with fail
   refine wp_loop_rounds 1 ?_
   rw [rounds_succ]
   go_wp2_with fail
   go_roundw
   case rel => exact ⟨k + 1, by omega, by go_num, HO4, HB4⟩
   case measure => simp [intOf]; omega
  ·
   have hz := HZ.out
   have hzb : ∀ y ∈ z, y < 256 := by rw [hz]; exact Frm.flat_byte ps HPB.out
   have hoz : Own wr w.heap.size u7 z := by
    have := HO.out
    rwa [List.take_of_length_le (by rw [HR.out.ln]; omega), ← hz] at this
   have hzl : z.length < 1048576 := by have := HFL.out ps.length; rw [List.take_of_length_le (Nat.le_refl _), ← hz] at this; exact this
   clear hz HO HFL
   obtain ⟨a4, L4, c4, rfl, hl4, hlc4, hcm4, hn4, hr4, ho4⟩ := hoz.form hzb
   by_cases h0 : L4 = 0
   ·
    subst h0
    have hz0 : z = [] := List.eq_nil_of_length_eq_zero hl4
    have HE := Lib.hid (show DxR X B d (N + 3) w (apF s z A) (.returned (.int .i64 0)) wr from by
     unfold apF
     rw [if_pos hz0]
     exact ⟨rfl, (HD.out.below HB.out).mono (by omega), HB.out.mono HBW.out, KpD.ofBelow HB.out HD.out.lt⟩)
    clear hoz hl4 hlc4 hcm4 hn4 hr4 ho4 hz0
    go_wp2_with fail
    go_ret
    exact HE.out
   ·
    have hz0 : ¬ z = [] := fun e => h0 (by rw [← hl4, e]; rfl)
    have hL0 : ((L4 : Int) == 0) = false := by simp; omega
    have hL0' : ¬ (L4 : Int) = 0 := by omega
    have hd2 : Dx (fun j => X j ∨ ∃ o s, a4 = some ⟨j, o, s⟩) B d N A wr := HD.out.belowY HB.out (fun j hj => hj.imp id fun ⟨o, s, e⟩ => (own_blk ho4 j o s e).1) (fun j hj => hj.elim (fun e => Nat.lt_of_lt_of_le (HD.out.lt j e) HB.out.size) fun ⟨o, s, e⟩ => (own_blk ho4 j o s e).2)
    have HC := Lib.hid (hd2.append s hs a4 L4 c4 z (by rw [← hl4] at hr4 ⊢; exact hr4) (fun b o sp e _ => .inr (.inr ⟨o, sp, e⟩)) hn4 hN)
    have hap : apF s z A = A.step ⟨1, s, ⟨#[]⟩, z⟩ := by unfold apF; rw [if_neg hz0]
    obtain ⟨r, hr⟩ : ∃ r, A.step ⟨1, s, ⟨#[]⟩, z⟩ = r := ⟨_, rfl⟩
    rw [hr] at HC hap
    obtain ⟨A', x⟩ := r
    have HAP := Lib.hid hap
    clear hoz hl4 hlc4 hcm4 hn4 hr4 ho4 hz0 hd2 hap hr
    go_wp2_with fail
    refine HC.out.mono ?_
    rintro e5 w5 ⟨rfl, g1, g2, g3⟩
    have HE := Lib.hid (show DxR X B d (N + 3) w (apF s z A) (.returned (.int .i64 x)) w5 from by rw [HAP.out]; exact ⟨rfl, g1.less fun j hj => .inl hj, (HB.out.mono HBW.out).trans g2, fun j hj => (g3 j (.inl hj)).trans (HB.out.block j (HD.out.lt j hj))⟩)
    clear g1 g2 g3 HC
    go_wp2_with fail
    go_ret
    exact HE.out
end Go.Proofs.YtihbgigledmliaaGreat
namespace Go.Proofs.YtihbgigledmliaaGreat
open Go.RowKit
set_option linter.unusedVariables false
theorem HasC.sub {L M : List (Addr × Value)} {W : World} (h : HasC L W) (hs : ∀ p ∈ M, p ∈ L) : HasC M W := fun p hp => h p (hs p hp)
theorem wp_bsJ6 {w : World} {op : Oper} {a : Act} {K : Act → World → Prop} {Q : Exit → Act → World → Prop} (x0 x1 x2 x3 x4 x5 : Operand) (ho : op.op = .buildSlice 174 6 #[(0, x0), (1, x1), (2, x2), (3, x3), (4, x4), (5, x5)]) (v0 v1 v2 v3 v4 v5 : Stp)
  (h0 : a.eval x0 = .func (.func v0.f) v0.A v0.C) (h1 : a.eval x1 = .func (.func v1.f) v1.A v1.C) (h2 : a.eval x2 = .func (.func v2.f) v2.A v2.C) (h3 : a.eval x3 = .func (.func v3.f) v3.A v3.C) (h4 : a.eval x4 = .func (.func v4.f) v4.A v4.C) (h5 : a.eval x5 = .func (.func v5.f) v5.A v5.C)
  (k : K (a.put op.dst (.slice (some ⟨w.heap.size, 0, none⟩) 6 6)) (w.alloc (.cells #[.func (.func v0.f) v0.A v0.C, .func (.func v1.f) v1.A v1.C, .func (.func v2.f) v2.A v2.C, .func (.func v3.f) v3.A v3.C, .func (.func v4.f) v4.A v4.C, .func (.func v5.f) v5.A v5.C] 44))) : op.wp Tryz.prog a w K Q := by
 unfold Oper.wp execOp
 simp only [ho, List.map_toArray, List.map_cons, List.map_nil, h0, h1, h2, h3, h4, h5]
 go_simp
 exact k
set_option maxRecDepth 100000 in
set_option maxHeartbeats 8000000 in
theorem jap_c {X : Nat → Prop} {B d N b2 b3 b5 jb : Nat} {A : Ad} {W : World} (h : Dx X B d N A W) (hN : N < 1000000000) (sp : ByteArray) (hs : sp.size ≤ maxLen) (ra : Option Addr) (rn rc : Nat) (ps : List (List Nat)) (hr : Rcd X B W ra rn ps) (hrn : rn ≤ 1000000) (hfl : (Frm.flatF ps).length < 1048576) (hpb : ∀ p ∈ ps, ∀ z ∈ p, z < 256) (he : HasC [(⟨b2, 0, none⟩, .pointer (some ⟨jb, 0, none⟩)), (⟨jb, 0, none⟩, .pointer (some ⟨d, 0, none⟩)), (⟨b5, 0, none⟩, .string sp), (⟨b3, 0, none⟩, .slice ra rn rc)] W) (hx : ∀ p ∈ ([(⟨b2, 0, none⟩, .pointer (some ⟨jb, 0, none⟩)), (⟨jb, 0, none⟩, .pointer (some ⟨d, 0, none⟩)), (⟨b5, 0, none⟩, .string sp), (⟨b3, 0, none⟩, .slice ra rn rc)] : List (Addr × Value)), X p.1.block) :
  Calls Tryz.prog 98 #[.pointer (some ⟨b2, 0, none⟩), .pointer (some ⟨b5, 0, none⟩), .pointer (some ⟨b3, 0, none⟩)] W (DxR X B d (N + 3) W (apF sp (Frm.flatF ps) A)) := by
 have h3d : Below B W (World.drew W) := below_drewN' _ W 1
 have hd := h.below (w' := World.drew W) (below_drewN' _ W 1)
 have HC := Lib.hid (show Calls Tryz.prog _ _ (World.drew W) (DxR X B d (N + 3) (World.drew W) (apF sp (Frm.flatF ps) A)) from japf_c hd hN sp hs ra rn rc ps (hr.below (below_drewN' _ W 1)) hrn hfl hpb)
 unfold DxR at HC
 obtain ⟨x, hxx⟩ : ∃ x, (apF sp (Frm.flatF ps) A).2 = x := ⟨_, rfl⟩
 rw [hxx] at HC
 have HX := Lib.hid hxx
 have HXL := Lib.hid hx
 have HBD := Lib.hid h3d
 have HS := Lib.hid (show HasC [(⟨b2, 0, none⟩, .pointer (some ⟨jb, 0, none⟩)), (⟨jb, 0, none⟩, .pointer (some ⟨d, 0, none⟩)), (⟨b5, 0, none⟩, .string sp), (⟨b3, 0, none⟩, .slice ra rn rc)] (World.drew W) from fun p hp => he p hp)
 clear h hd hxx he h3d hx
 go_enter Tryz.func98, Tryz.ntmps98
 go_upto_region 1 with fail
 have HL0 := Lib.hid (fun W (hW : HasC [(⟨b2, 0, none⟩, .pointer (some ⟨jb, 0, none⟩)), (⟨jb, 0, none⟩, .pointer (some ⟨d, 0, none⟩)), (⟨b5, 0, none⟩, .string sp), (⟨b3, 0, none⟩, .slice ra rn rc)] W) => run_cell_jn W ⟨b2, 0, none⟩ _ (hW (⟨b2, 0, none⟩, .pointer (some ⟨jb, 0, none⟩)) (by simp)))
 have HL1 := Lib.hid (fun W (hW : HasC [(⟨b2, 0, none⟩, .pointer (some ⟨jb, 0, none⟩)), (⟨jb, 0, none⟩, .pointer (some ⟨d, 0, none⟩)), (⟨b5, 0, none⟩, .string sp), (⟨b3, 0, none⟩, .slice ra rn rc)] W) => run_cell_disk W ⟨jb, 0, none⟩ _ (hW (⟨jb, 0, none⟩, .pointer (some ⟨d, 0, none⟩)) (by simp)))
 have HL2 := Lib.hid (fun W (hW : HasC [(⟨b2, 0, none⟩, .pointer (some ⟨jb, 0, none⟩)), (⟨jb, 0, none⟩, .pointer (some ⟨d, 0, none⟩)), (⟨b5, 0, none⟩, .string sp), (⟨b3, 0, none⟩, .slice ra rn rc)] W) => run_cell_s W ⟨b5, 0, none⟩ sp (hW (⟨b5, 0, none⟩, .string sp) (by simp)))
 have HL3 := Lib.hid (fun W (hW : HasC [(⟨b2, 0, none⟩, .pointer (some ⟨jb, 0, none⟩)), (⟨jb, 0, none⟩, .pointer (some ⟨d, 0, none⟩)), (⟨b5, 0, none⟩, .string sp), (⟨b3, 0, none⟩, .slice ra rn rc)] W) => run_cell_bb W ⟨b3, 0, none⟩ ra rn rc (hW (⟨b3, 0, none⟩, .slice ra rn rc) (by simp)))
 have h3d := HBD.out
 refine anyH_begin (S := HasC [(⟨b2, 0, none⟩, .pointer (some ⟨jb, 0, none⟩)), (⟨jb, 0, none⟩, .pointer (some ⟨d, 0, none⟩)), (⟨b5, 0, none⟩, .string sp), (⟨b3, 0, none⟩, .slice ra rn rc)]) (by kernel_rfl) ?_
 refine aL 0 (d := 4) (ty := 31) (x := (.tmp 0)) (p := .pointer (some ⟨b2, 0, none⟩)) (.pointer (some ⟨jb, 0, none⟩)) HL0.out HS.out ?_
 simp only [Act.put, sT, sZ, sS]
 refine aP 1 (d := 5) (op := .nilCheck (.tmp 4)) (.pointer (some ⟨jb, 0, none⟩)) HS.out ?_
 simp only [Act.put, sT, sZ, sS]
 refine aP 2 (d := 6) (op := .fieldAddr 88 (.tmp 5) 0) (.pointer (some ⟨jb, 0, none⟩)) HS.out ?_
 simp only [Act.put, sT, sZ, sS]
 refine aL 3 (d := 7) (ty := 25) (x := (.tmp 6)) (p := .pointer (some ⟨jb, 0, none⟩)) (.pointer (some ⟨d, 0, none⟩)) HL1.out HS.out ?_
 simp only [Act.put, sT, sZ, sS]
 refine aL 4 (d := 8) (ty := 9) (x := (.tmp 1)) (p := .pointer (some ⟨b5, 0, none⟩)) (.string sp) HL2.out HS.out ?_
 simp only [Act.put, sT, sZ, sS]
 refine aL 5 (d := 9) (ty := 32) (x := (.tmp 2)) (p := .pointer (some ⟨b3, 0, none⟩)) (.slice ra rn rc) HL3.out HS.out ?_
 simp only [Act.put, sT, sZ, sS]
 refine anyH_callG 6 (d := some 10) (f := 99) (xs := #[(.tmp 7), (.tmp 8), (.tmp 9)]) (ts := #[25, 9, 32]) (gd := none) (vs := #[.pointer (some ⟨d, 0, none⟩), .string sp, .slice ra rn rc]) (by kernel_rfl) (by rfl) wantedP (by go_simp) (by go_simp) (HC.out) ?_
 rintro e2 w2 ⟨rfl, h2, h3, h4⟩
 have HE := Lib.hid (show DxR X B d (N + 3) W (apF sp (Frm.flatF ps) A) (.returned (.int .i64 x)) w2 from ⟨by rw [HX.out], h2, h3d.trans h3, fun j hj => (h4 j hj).trans rfl⟩)
 have HS2 := Lib.hid (show HasC [(⟨b2, 0, none⟩, .pointer (some ⟨jb, 0, none⟩)), (⟨jb, 0, none⟩, .pointer (some ⟨d, 0, none⟩)), (⟨b5, 0, none⟩, .string sp), (⟨b3, 0, none⟩, .slice ra rn rc)] w2 from HS.out.kp h4 HXL.out)
 clear h2 h3 h4
 refine ⟨_, rfl, HS2.out, fun hS => ?_⟩
 clear hS
 simp only [Act.put, sT, sZ, sS]
 refine aP 7 (d := 3) (op := .assign (.tmp 10)) (.int .i64 x) HS2.out ?_
 simp only [Act.put, sT, sZ, sS]
 refine wpAnyH_done (by kernel_rfl) ?_ _
 clear HS HS2 HC HL0 HL1 HL2 HL3
 go_wp2_with fail
 go_ret
 exact HE.out
/-- the steps of a rewrite -/
def rwS (nm sp : ByteArray) (z : List Nat) : List (Ad → Ad × Int) := [rmA sp, mkA sp, apF sp z, Ad.sync, mvA sp nm, Ad.sync]
/-- where there was no room, what was begun is removed -/
def rwE (sp : ByteArray) (r : Ad × Int) : Ad × Int := if r.2 = 4 then runA [rmA sp, fun A => (A, 4)] r.1 else r
def Ad.rw (A : Ad) (nm sp : ByteArray) (z : List Nat) : Ad × Int := rwE sp (runA (rwS nm sp z) A)
set_option maxRecDepth 100000 in
set_option maxHeartbeats 8000000 in
theorem jrewrite_c {X : Nat → Prop} {B d N jb : Nat} {A : Ad} {w : World} {nm : ByteArray} (h : Dx X B d N A w) (hN : N < 100000000) (hxj : X jb) (hj : HasC [(⟨jb, 0, none⟩, .pointer (some ⟨d, 0, none⟩)), (⟨jb, 1, none⟩, .string nm)] w) (hn : nm.size ≤ 1000) (ra : Option Addr) (rn rc : Nat) (ps : List (List Nat)) (hr : Rcd X B w ra rn ps) (hrn : rn ≤ 1000000) (hfl : (Frm.flatF ps).length < 1048576) (hpb : ∀ p ∈ ps, ∀ z ∈ p, z < 256) :
  Calls Tryz.prog 49 #[.pointer (some ⟨jb, 0, none⟩), .slice ra rn rc] w (DxR X B d (N + 24) w (A.rw nm (nm ++ ⟨#[43]⟩) (Frm.flatF ps))) := by
 have hXB : B ≤ w.heap.size := Nat.le_of_lt (Nat.lt_of_le_of_lt h.base.1 h.base.2)
 have hjl : jb < w.heap.size := h.lt jb hxj
 have hss : (nm ++ ⟨#[43]⟩ : ByteArray).size = nm.size + 1 := by rw [ByteArray.size_append]; rfl
 have hs : (nm ++ ⟨#[43]⟩ : ByteArray).size ≤ maxLen := by rw [hss]; unfold maxLen; omega
 have hnl : nm.size ≤ maxLen := by unfold maxLen; omega
 have hadd : ¬ 9223372036854775807 < nm.size + 1 := by omega
 obtain ⟨b2, hb2⟩ : ∃ b2, b2 = w.heap.size := ⟨_, rfl⟩
 obtain ⟨w1, hw1⟩ : ∃ w1, w1 = w.alloc (.cells #[.pointer (some ⟨jb, 0, none⟩)] 31) := ⟨_, rfl⟩
 obtain ⟨b3, hb3⟩ : ∃ b3, b3 = w1.heap.size := ⟨_, rfl⟩
 obtain ⟨w2, hw2⟩ : ∃ w2, w2 = w1.alloc (.cells #[.slice ra rn rc] 32) := ⟨_, rfl⟩
 obtain ⟨b5, hb5⟩ : ∃ b5, b5 = w2.heap.size := ⟨_, rfl⟩
 obtain ⟨w3, hw3⟩ : ∃ w3, w3 = w2.alloc (.cells #[.string (nm ++ ⟨#[43]⟩)] 9) := ⟨_, rfl⟩
 obtain ⟨b7, hb7⟩ : ∃ b7, b7 = (World.drew w3).heap.size := ⟨_, rfl⟩
 obtain ⟨w7, hw7⟩ : ∃ w7, w7 = (World.drew w3).alloc (.cells #[.func (.func 95) #[] #[.pointer (some ⟨b2, 0, none⟩), .pointer (some ⟨b5, 0, none⟩)], .func (.func 97) #[] #[.pointer (some ⟨b2, 0, none⟩), .pointer (some ⟨b5, 0, none⟩)], .func (.func 98) #[] #[.pointer (some ⟨b2, 0, none⟩), .pointer (some ⟨b5, 0, none⟩), .pointer (some ⟨b3, 0, none⟩)], .func (.func 47) #[.pointer (some ⟨d, 0, none⟩)] #[], .func (.func 100) #[] #[.pointer (some ⟨b2, 0, none⟩), .pointer (some ⟨b5, 0, none⟩)], .func (.func 47) #[.pointer (some ⟨d, 0, none⟩)] #[]] 44) := ⟨_, rfl⟩
 have z1 : w1.heap.size = b2 + 1 := by rw [hw1, hb2]; simp
 have z2 : w2.heap.size = b3 + 1 := by rw [hw2, hb3]; simp
 have z3 : w3.heap.size = b5 + 1 := by rw [hw3, hb5]; simp
 have z7 : w7.heap.size = b7 + 1 := by rw [hw7, hb7]; simp
 have zb : b7 = w3.heap.size := hb7
 have q1 : Below w.heap.size w w1 := by rw [hw1]; exact (Below.refl _ _).alloc (Nat.le_refl _) _
 have q2 : Below w1.heap.size w1 w2 := by rw [hw2]; exact (Below.refl _ _).alloc (Nat.le_refl _) _
 have q3 : Below w2.heap.size w2 w3 := by rw [hw3]; exact (Below.refl _ _).alloc (Nat.le_refl _) _
 have q7 : Below w3.heap.size w3 w7 := Below.trans (b := World.drew w3) (below_drewN' _ w3 1) (show Below w3.heap.size (World.drew w3) w7 by rw [hw7]; exact (Below.refl (World.drew w3).heap.size (World.drew w3)).alloc (Nat.le_refl _) _)
 have r37 : Below w2.heap.size w2 w7 := q3.trans (q7.mono q3.size)
 have r27 : Below w1.heap.size w1 w7 := q2.trans (r37.mono q2.size)
 have r17 : Below w.heap.size w w7 := q1.trans (r27.mono q1.size)
 have k2 : w7.heap[b2]? = some (.cells #[.pointer (some ⟨jb, 0, none⟩)] 31 (0, 0)) := (r27.block b2 (by omega)).trans (by rw [hw1, hb2]; exact heap_alloc_new w _)
 have k3 : w7.heap[b3]? = some (.cells #[.slice ra rn rc] 32 (0, 0)) := (r37.block b3 (by omega)).trans (by rw [hw2, hb3]; exact heap_alloc_new w1 _)
 have k5 : w7.heap[b5]? = some (.cells #[.string (nm ++ ⟨#[43]⟩)] 9 (0, 0)) := (q7.block b5 (by omega)).trans (by rw [hw3, hb5]; exact heap_alloc_new w2 _)
 have k7 : w7.heap[b7]? = some (.cells #[.func (.func 95) #[] #[.pointer (some ⟨b2, 0, none⟩), .pointer (some ⟨b5, 0, none⟩)], .func (.func 97) #[] #[.pointer (some ⟨b2, 0, none⟩), .pointer (some ⟨b5, 0, none⟩)], .func (.func 98) #[] #[.pointer (some ⟨b2, 0, none⟩), .pointer (some ⟨b5, 0, none⟩), .pointer (some ⟨b3, 0, none⟩)], .func (.func 47) #[.pointer (some ⟨d, 0, none⟩)] #[], .func (.func 100) #[] #[.pointer (some ⟨b2, 0, none⟩), .pointer (some ⟨b5, 0, none⟩)], .func (.func 47) #[.pointer (some ⟨d, 0, none⟩)] #[]] 44 (0, 0)) := by rw [hw7, hb7]; exact heap_alloc_new _ _
 have hL7 : HasC [(⟨b2, 0, none⟩, .pointer (some ⟨jb, 0, none⟩)), (⟨jb, 0, none⟩, .pointer (some ⟨d, 0, none⟩)), (⟨jb, 1, none⟩, .string nm), (⟨b5, 0, none⟩, .string (nm ++ ⟨#[43]⟩)), (⟨b3, 0, none⟩, .slice ra rn rc)] w7 := by
  intro p hp
  simp only [List.mem_cons, List.not_mem_nil, or_false] at hp
  rcases hp with rfl | rfl | rfl | rfl | rfl
  ·
   exact cell_of_row w7 b2 0 _ _ _ k2
  ·
   exact (r17.cell (p := ⟨jb, 0, none⟩) hjl).trans (hj (⟨jb, 0, none⟩, .pointer (some ⟨d, 0, none⟩)) (by simp))
  ·
   exact (r17.cell (p := ⟨jb, 1, none⟩) hjl).trans (hj (⟨jb, 1, none⟩, .string nm) (by simp))
  ·
   exact cell_of_row w7 b5 0 _ _ _ k5
  ·
   exact cell_of_row w7 b3 0 _ _ _ k3
 obtain ⟨X7, hX7⟩ : ∃ X7 : Nat → Prop, X7 = fun j => X j ∨ j = b2 ∨ j = b3 ∨ j = b5 ∨ j = b7 := ⟨_, rfl⟩
 have hXX : ∀ j, X j → X7 j := fun j hj => by rw [hX7]; exact .inl hj
 have hd7 : Dx X7 B d N A w7 := h.belowY r17 (fun j hj => by rw [hX7] at hj; rcases hj with hj | hj; exact .inl hj; exact .inr (by omega)) (fun j hj => by
  rw [hX7] at hj
  rcases hj with hj | hj
  ·
   exact Nat.lt_of_lt_of_le (h.lt j hj) r17.size
  ·
   omega)
 have hr7 : Rcd X7 B w7 ra rn ps := (hr.below r17).more hXX
 have x2 : X7 b2 := by rw [hX7]; exact .inr (.inl rfl)
 have x3 : X7 b3 := by rw [hX7]; exact .inr (.inr (.inl rfl))
 have x5 : X7 b5 := by rw [hX7]; exact .inr (.inr (.inr (.inl rfl)))
 have x7 : X7 b7 := by rw [hX7]; exact .inr (.inr (.inr (.inr rfl)))
 have xj : X7 jb := hXX jb hxj
 have hIN := jorder_ad hd7 b7 6 (fun i => match i with | 0 => ⟨95, #[], #[.pointer (some ⟨b2, 0, none⟩), .pointer (some ⟨b5, 0, none⟩)]⟩ | 1 => ⟨97, #[], #[.pointer (some ⟨b2, 0, none⟩), .pointer (some ⟨b5, 0, none⟩)]⟩ | 2 => ⟨98, #[], #[.pointer (some ⟨b2, 0, none⟩), .pointer (some ⟨b5, 0, none⟩), .pointer (some ⟨b3, 0, none⟩)]⟩ | 3 => ⟨47, #[.pointer (some ⟨d, 0, none⟩)], #[]⟩ | 4 => ⟨100, #[], #[.pointer (some ⟨b2, 0, none⟩), .pointer (some ⟨b5, 0, none⟩)]⟩ | _ => ⟨47, #[.pointer (some ⟨d, 0, none⟩)], #[]⟩) (rwS nm (nm ++ ⟨#[43]⟩) (Frm.flatF ps)) rfl (by omega) x7 (fun i hi => by
   rw [cell_of_row w7 b7 i _ _ _ k7]
   match i, hi with
   | 0, _ => rfl
   | 1, _ => rfl
   | 2, _ => rfl
   | 3, _ => rfl
   | 4, _ => rfl
   | 5, _ => rfl) (fun i hi => by
   match i, hi with
   | 0, _ => exact enters_of Tryz.func95 (by kernel_rfl) rfl
   | 1, _ => exact enters_of Tryz.func97 (by kernel_rfl) rfl
   | 2, _ => exact enters_of Tryz.func98 (by kernel_rfl) rfl
   | 3, _ => exact enters_of Tryz.func47 (by kernel_rfl) rfl
   | 4, _ => exact enters_of Tryz.func100 (by kernel_rfl) rfl
   | 5, _ => exact enters_of Tryz.func47 (by kernel_rfl) rfl) (fun i f hf A1 W g1 g2 g3 => by
   have yL : HasC [(⟨b2, 0, none⟩, .pointer (some ⟨jb, 0, none⟩)), (⟨jb, 0, none⟩, .pointer (some ⟨d, 0, none⟩)), (⟨jb, 1, none⟩, .string nm), (⟨b5, 0, none⟩, .string (nm ++ ⟨#[43]⟩)), (⟨b3, 0, none⟩, .slice ra rn rc)] W := hL7.kp g3 (by simp [x2, x3, x5, xj])
   have hi : i < 6 := (List.getElem?_eq_some_iff.1 hf).1
   match i, hi, hf with
   | 0, _, hf => cases hf; exact jrm_c (b2 := b2) (b5 := b5) (jb := jb) g1 (by omega) _ hs (yL.sub (by simp)) (by simp [x2, x3, x5, xj])
   | 1, _, hf => cases hf; exact jmk_c (b2 := b2) (b5 := b5) (jb := jb) g1 (by omega) _ hs (yL.sub (by simp)) (by simp [x2, x3, x5, xj])
   | 2, _, hf => cases hf; exact jap_c (b2 := b2) (b3 := b3) (b5 := b5) (jb := jb) g1 (by omega) _ hs ra rn rc ps (hr7.kp g2 g3) hrn hfl hpb (yL.sub (by simp)) (by simp [x2, x3, x5, xj])
   | 3, _, hf => cases hf; exact g1.sync
   | 4, _, hf => cases hf; exact jmv_c (b2 := b2) (b5 := b5) (jb := jb) g1 (by omega) nm _ hnl hs (yL.sub (by simp)) (by simp [x2, x3, x5, xj])
   | 5, _, hf => cases hf; exact g1.sync)
 obtain ⟨r, hrr⟩ : ∃ r, runA (rwS nm (nm ++ ⟨#[43]⟩) (Frm.flatF ps)) A = r := ⟨_, rfl⟩
 have hrw : A.rw nm (nm ++ ⟨#[43]⟩) (Frm.flatF ps) = rwE (nm ++ ⟨#[43]⟩) r := by unfold Ad.rw; rw [hrr]
 rw [hrr] at hIN
 rw [hrw]
 obtain ⟨A', x⟩ := r
 have hIN2 : ∀ w8, Dx X7 B d (N + 3 * 6) A' w8 → Below B w7 w8 → KpD X7 w7 w8 → Calls Tryz.prog 83 #[.slice (some ⟨w8.heap.size, 0, none⟩) 2 2] (w8.alloc (.cells #[.func (.func 95) #[] #[.pointer (some ⟨b2, 0, none⟩), .pointer (some ⟨b5, 0, none⟩)], .func (.func 101) #[] #[]] 44)) (DxR (fun j => X7 j ∨ j = w8.heap.size) B d (N + 3 * 6 + 3 * 2) (w8.alloc (.cells #[.func (.func 95) #[] #[.pointer (some ⟨b2, 0, none⟩), .pointer (some ⟨b5, 0, none⟩)], .func (.func 101) #[] #[]] 44)) (runA [rmA (nm ++ ⟨#[43]⟩), fun A => (A, 4)] A')) := fun w8 g1 g2 g3 => by
  have q9 : Below w8.heap.size w8 (w8.alloc (.cells #[.func (.func 95) #[] #[.pointer (some ⟨b2, 0, none⟩), .pointer (some ⟨b5, 0, none⟩)], .func (.func 101) #[] #[]] 44)) := (Below.refl _ _).alloc (Nat.le_refl _) _
  have k9 : (w8.alloc (.cells #[.func (.func 95) #[] #[.pointer (some ⟨b2, 0, none⟩), .pointer (some ⟨b5, 0, none⟩)], .func (.func 101) #[] #[]] 44)).heap[w8.heap.size]? = some (.cells #[.func (.func 95) #[] #[.pointer (some ⟨b2, 0, none⟩), .pointer (some ⟨b5, 0, none⟩)], .func (.func 101) #[] #[]] 44 (0, 0)) := heap_alloc_new w8 _
  have hd9 : Dx (fun j => X7 j ∨ j = w8.heap.size) B d (N + 3 * 6) A' (w8.alloc (.cells #[.func (.func 95) #[] #[.pointer (some ⟨b2, 0, none⟩), .pointer (some ⟨b5, 0, none⟩)], .func (.func 101) #[] #[]] 44)) := g1.belowY q9 (fun j hj => hj.imp id fun e => by omega) (fun j hj => hj.elim (fun e => Nat.lt_of_lt_of_le (g1.lt j e) q9.size) fun e => by rw [e]; simp)
  have hL9 : HasC [(⟨b2, 0, none⟩, .pointer (some ⟨jb, 0, none⟩)), (⟨jb, 0, none⟩, .pointer (some ⟨d, 0, none⟩)), (⟨jb, 1, none⟩, .string nm), (⟨b5, 0, none⟩, .string (nm ++ ⟨#[43]⟩)), (⟨b3, 0, none⟩, .slice ra rn rc)] (w8.alloc (.cells #[.func (.func 95) #[] #[.pointer (some ⟨b2, 0, none⟩), .pointer (some ⟨b5, 0, none⟩)], .func (.func 101) #[] #[]] 44)) := (hL7.kp g3 (by simp [x2, x3, x5, xj])).below q9 (by simp [g1.lt _ x2, g1.lt _ x3, g1.lt _ x5, g1.lt _ xj])
  refine jorder_ad hd9 w8.heap.size 2 (fun i => match i with | 0 => ⟨95, #[], #[.pointer (some ⟨b2, 0, none⟩), .pointer (some ⟨b5, 0, none⟩)]⟩ | _ => ⟨101, #[], #[]⟩) _ rfl (by omega) (.inr rfl) (fun i hi => by
   rw [cell_of_row _ _ i _ _ _ k9]
   match i, hi with
   | 0, _ => rfl
   | 1, _ => rfl) (fun i hi => by
   match i, hi with
   | 0, _ => exact enters_of Tryz.func95 (by kernel_rfl) rfl
   | 1, _ => exact enters_of Tryz.func101 (by kernel_rfl) rfl) (fun i f hf A1 W g4 g5 g6 => by
   have yL : HasC [(⟨b2, 0, none⟩, .pointer (some ⟨jb, 0, none⟩)), (⟨jb, 0, none⟩, .pointer (some ⟨d, 0, none⟩)), (⟨jb, 1, none⟩, .string nm), (⟨b5, 0, none⟩, .string (nm ++ ⟨#[43]⟩)), (⟨b3, 0, none⟩, .slice ra rn rc)] W := hL9.kp g6 (by simp [x2, x3, x5, xj])
   have hi : i < 2 := (List.getElem?_eq_some_iff.1 hf).1
   match i, hi, hf with
   | 0, _, hf => cases hf; exact jrm_c (b2 := b2) (b5 := b5) (jb := jb) g4 (by omega) _ hs (yL.sub (by simp)) (by simp [x2, x3, x5, xj])
   | 1, _, hf =>
    cases hf
    refine (jfull_c W).mono ?_
    rintro e w' ⟨rfl, rfl⟩
    exact ⟨rfl, g4.mono (by omega), Below.refl _ _, KpD.refl _ _⟩)
 have HIN := Lib.hid hIN
 have HIN2 := Lib.hid hIN2
 have HB7 := Lib.hid hb7.symm
 have HW7 := Lib.hid hw7
 have HC7 := Lib.hid (show HasC [(⟨b2, 0, none⟩, .pointer (some ⟨jb, 0, none⟩)), (⟨jb, 0, none⟩, .pointer (some ⟨d, 0, none⟩))] w7 from hL7.sub (by simp))
 have HXS := Lib.hid (show ∀ p ∈ ([(⟨b2, 0, none⟩, .pointer (some ⟨jb, 0, none⟩)), (⟨jb, 0, none⟩, .pointer (some ⟨d, 0, none⟩))] : List (Addr × Value)), X7 p.1.block from by simp [x2, xj])
 have HW := Lib.hid r17
 have HBX := Lib.hid hXB
 have HLT := Lib.hid h.lt
 have HXI := Lib.hid hXX
 have s2 : w3.cell? ⟨b2, 0, none⟩ = some (.pointer (some ⟨jb, 0, none⟩)) := by rw [← q7.cell (p := ⟨b2, 0, none⟩) (by show b2 < _; omega)]; exact cell_of_row w7 b2 0 _ _ _ k2
 have sj : w3.cell? ⟨jb, 0, none⟩ = some (.pointer (some ⟨d, 0, none⟩)) := by rw [← q7.cell (p := ⟨jb, 0, none⟩) (by show jb < _; omega)]; exact hL7 (⟨jb, 0, none⟩, .pointer (some ⟨d, 0, none⟩)) (by simp)
 have HS3 := Lib.hid (show HasC [(⟨b2, 0, none⟩, .pointer (some ⟨jb, 0, none⟩)), (⟨jb, 0, none⟩, .pointer (some ⟨d, 0, none⟩))] (World.drew w3) from by
  intro p hp
  simp only [List.mem_cons, List.not_mem_nil, or_false] at hp
  rcases hp with rfl | rfl
  ·
   exact s2
  ·
   exact sj)
 have y2 : w2.cell? ⟨b2, 0, none⟩ = some (.pointer (some ⟨jb, 0, none⟩)) := by rw [← r37.cell (p := ⟨b2, 0, none⟩) (by show b2 < _; omega)]; exact cell_of_row w7 b2 0 _ _ _ k2
 have yj : w2.cell? ⟨jb, 1, none⟩ = some (.string nm) := by rw [← r37.cell (p := ⟨jb, 1, none⟩) (by show jb < _; omega)]; exact hL7 (⟨jb, 1, none⟩, .string nm) (by simp)
 have hmf : ∀ (fn : Fn) (first cap : Array Value) (w : World), (Instr.makeFunc fn first cap).run Tryz.prog w = .ok (.func fn first cap) w := fun _ _ _ _ => rfl
 have e3 : b2 + 1 = b3 := by omega
 clear hIN hIN2 hb7 hw7 z1 z2 z3 z7 zb q1 q2 q3 q7 r37 r27 r17 k2 k3 k5 k7 hL7 hd7 hr7 x2 x3 x5 x7 xj s2 sj hr h hj hXB hjl hss hs hnl hX7 hXX hrr hrw hrn hfl hpb
 go_enter Tryz.func49, Tryz.ntmps49
 go_upto_region 1 with fail
 rw [← hb2, ← hw1, e3, ← hw2]
 clear hw1 hw2 hb2 e3 hb3
 go_upto_region 3 with fail
 rw [← hb5, ← hw3]
 clear hw3 hb5 hadd hmf y2 yj
 have HS := HS3
 have HL1 := Lib.hid (fun W (hW : HasC [(⟨b2, 0, none⟩, .pointer (some ⟨jb, 0, none⟩)), (⟨jb, 0, none⟩, .pointer (some ⟨d, 0, none⟩))] W) => run_cell_jn W ⟨b2, 0, none⟩ _ (hW (⟨b2, 0, none⟩, .pointer (some ⟨jb, 0, none⟩)) (by simp)))
 have HL2 := Lib.hid (fun W (hW : HasC [(⟨b2, 0, none⟩, .pointer (some ⟨jb, 0, none⟩)), (⟨jb, 0, none⟩, .pointer (some ⟨d, 0, none⟩))] W) => run_cell_disk W ⟨jb, 0, none⟩ _ (hW (⟨jb, 0, none⟩, .pointer (some ⟨d, 0, none⟩)) (by simp)))
 refine anyH_begin (S := HasC [(⟨b2, 0, none⟩, .pointer (some ⟨jb, 0, none⟩)), (⟨jb, 0, none⟩, .pointer (some ⟨d, 0, none⟩))]) (by kernel_rfl) ?_
 refine aP 0 (d := 14) (op := .move (.tmp 6)) (.func (.func 95) #[] #[.pointer (some ⟨b2, 0, none⟩), .pointer (some ⟨b5, 0, none⟩)]) HS.out ?_
 simp only [Act.put, sT, sZ, sS]
 refine anyH_pureG 1 (d := 15) (op := .makeFunc (.func 97) #[] #[(.tmp 2), (.tmp 5)]) (gd := none) (.func (.func 97) #[] #[.pointer (some ⟨b2, 0, none⟩), .pointer (some ⟨b5, 0, none⟩)]) (by rfl) wantedP (by kernel_rfl) (by kernel_rfl) (by kernel_rfl) (fun _ _ _ h => h) (fun o ho W hW => by unfold execOp; simp only [ho]; first | rfl | (go_simp; done) | simp [go_sem, Instr.makeFunc, Act.eval]) HS.out ?_
 simp only [Act.put, sT, sZ, sS]
 refine anyH_pureG 2 (d := 16) (op := .makeFunc (.func 98) #[] #[(.tmp 2), (.tmp 5), (.tmp 3)]) (gd := none) (.func (.func 98) #[] #[.pointer (some ⟨b2, 0, none⟩), .pointer (some ⟨b5, 0, none⟩), .pointer (some ⟨b3, 0, none⟩)]) (by rfl) wantedP (by kernel_rfl) (by kernel_rfl) (by kernel_rfl) (fun _ _ _ h => h) (fun o ho W hW => by unfold execOp; simp only [ho]; first | rfl | (go_simp; done) | simp [go_sem, Instr.makeFunc, Act.eval]) HS.out ?_
 simp only [Act.put, sT, sZ, sS]
 refine aL 3 (d := 17) (ty := 31) (x := (.tmp 2)) (p := .pointer (some ⟨b2, 0, none⟩)) (.pointer (some ⟨jb, 0, none⟩)) HL1.out HS.out ?_
 simp only [Act.put, sT, sZ, sS]
 refine aP 4 (d := 18) (op := .nilCheck (.tmp 17)) (.pointer (some ⟨jb, 0, none⟩)) HS.out ?_
 simp only [Act.put, sT, sZ, sS]
 refine aP 5 (d := 19) (op := .fieldAddr 88 (.tmp 18) 0) (.pointer (some ⟨jb, 0, none⟩)) HS.out ?_
 simp only [Act.put, sT, sZ, sS]
 refine aL 6 (d := 20) (ty := 25) (x := (.tmp 19)) (p := .pointer (some ⟨jb, 0, none⟩)) (.pointer (some ⟨d, 0, none⟩)) HL2.out HS.out ?_
 simp only [Act.put, sT, sZ, sS]
 refine anyH_pureG 7 (d := 21) (op := .makeFunc (.func 47) #[(.tmp 20)] #[]) (gd := none) (.func (.func 47) #[.pointer (some ⟨d, 0, none⟩)] #[]) (by rfl) wantedP (by kernel_rfl) (by kernel_rfl) (by kernel_rfl) (fun _ _ _ h => h) (fun o ho W hW => by unfold execOp; simp only [ho]; first | rfl | (go_simp; done) | simp [go_sem, Instr.makeFunc, Act.eval]) HS.out ?_
 simp only [Act.put, sT, sZ, sS]
 refine anyH_pureG 8 (d := 22) (op := .makeFunc (.func 100) #[] #[(.tmp 2), (.tmp 5)]) (gd := none) (.func (.func 100) #[] #[.pointer (some ⟨b2, 0, none⟩), .pointer (some ⟨b5, 0, none⟩)]) (by rfl) wantedP (by kernel_rfl) (by kernel_rfl) (by kernel_rfl) (fun _ _ _ h => h) (fun o ho W hW => by unfold execOp; simp only [ho]; first | rfl | (go_simp; done) | simp [go_sem, Instr.makeFunc, Act.eval]) HS.out ?_
 simp only [Act.put, sT, sZ, sS]
 refine aL 9 (d := 23) (ty := 31) (x := (.tmp 2)) (p := .pointer (some ⟨b2, 0, none⟩)) (.pointer (some ⟨jb, 0, none⟩)) HL1.out HS.out ?_
 simp only [Act.put, sT, sZ, sS]
 refine aP 10 (d := 24) (op := .nilCheck (.tmp 23)) (.pointer (some ⟨jb, 0, none⟩)) HS.out ?_
 simp only [Act.put, sT, sZ, sS]
 refine aP 11 (d := 25) (op := .fieldAddr 88 (.tmp 24) 0) (.pointer (some ⟨jb, 0, none⟩)) HS.out ?_
 simp only [Act.put, sT, sZ, sS]
 refine aL 12 (d := 26) (ty := 25) (x := (.tmp 25)) (p := .pointer (some ⟨jb, 0, none⟩)) (.pointer (some ⟨d, 0, none⟩)) HL2.out HS.out ?_
 simp only [Act.put, sT, sZ, sS]
 refine anyH_pureG 13 (d := 27) (op := .makeFunc (.func 47) #[(.tmp 26)] #[]) (gd := none) (.func (.func 47) #[.pointer (some ⟨d, 0, none⟩)] #[]) (by rfl) wantedP (by kernel_rfl) (by kernel_rfl) (by kernel_rfl) (fun _ _ _ h => h) (fun o ho W hW => by unfold execOp; simp only [ho]; first | rfl | (go_simp; done) | simp [go_sem, Instr.makeFunc, Act.eval]) HS.out ?_
 simp only [Act.put, sT, sZ, sS]
 refine wpAnyH_all (rs := [14]) (by kernel_rfl) (by simp) ?_
 intro k hk; simp only [List.mem_cons, List.not_mem_nil, or_false] at hk; subst hk
 refine op_atJ 14 (d := some 28) (op := .buildSlice 174 6 #[(0, (.tmp 14)), (1, (.tmp 15)), (2, (.tmp 16)), (3, (.tmp 21)), (4, (.tmp 22)), (5, (.tmp 27))]) (by rfl) ?_
 intro o5 hod5 hoo5
 refine wp_bsJ6 (.tmp 14) (.tmp 15) (.tmp 16) (.tmp 21) (.tmp 22) (.tmp 27) hoo5 ⟨95, #[], #[.pointer (some ⟨b2, 0, none⟩), .pointer (some ⟨b5, 0, none⟩)]⟩ ⟨97, #[], #[.pointer (some ⟨b2, 0, none⟩), .pointer (some ⟨b5, 0, none⟩)]⟩ ⟨98, #[], #[.pointer (some ⟨b2, 0, none⟩), .pointer (some ⟨b5, 0, none⟩), .pointer (some ⟨b3, 0, none⟩)]⟩ ⟨47, #[.pointer (some ⟨d, 0, none⟩)], #[]⟩ ⟨100, #[], #[.pointer (some ⟨b2, 0, none⟩), .pointer (some ⟨b5, 0, none⟩)]⟩ ⟨47, #[.pointer (some ⟨d, 0, none⟩)], #[]⟩ (by rfl) (by rfl) (by rfl) (by rfl) (by rfl) (by rfl) ?_
 rw [hod5]
 clear hod5 hoo5
 rw [HB7.out, ← HW7.out]
 have HS7 := Lib.hid (show HasC [(⟨b2, 0, none⟩, .pointer (some ⟨jb, 0, none⟩)), (⟨jb, 0, none⟩, .pointer (some ⟨d, 0, none⟩))] w7 from HC7.out)
 simp only [Act.put, sT, sZ, sS]
 refine ⟨HS7.out, ?_⟩
 clear HS
 refine anyH_callG 15 (d := some 29) (f := 83) (xs := #[(.tmp 28)]) (ts := #[174]) (gd := none) (vs := #[.slice (some ⟨b7, 0, none⟩) 6 6]) (by kernel_rfl) (by rfl) wantedP (by go_simp) (by go_simp) (HIN.out) ?_
 rintro e8 w8 ⟨rfl, h82, h83, h84⟩
 have HS8 := Lib.hid (show HasC [(⟨b2, 0, none⟩, .pointer (some ⟨jb, 0, none⟩)), (⟨jb, 0, none⟩, .pointer (some ⟨d, 0, none⟩))] w8 from HS7.out.kp h84 HXS.out)
 have HD8 := Lib.hid h82
 have HB8 := Lib.hid h83
 have HK8 := Lib.hid h84
 clear h82 h83 h84
 refine ⟨_, rfl, HS8.out, fun hS => ?_⟩
 clear hS
 simp only [Act.put, sT, sZ, sS]
 refine aP 16 (d := 7) (op := .assign (.tmp 29)) (.int .i64 x) HS8.out ?_
 simp only [Act.put, sT, sZ, sS]
 refine wpAnyH_done (by kernel_rfl) ?_ _
 clear HS7 HS8 HL1 HL2 HIN HS3
 by_cases hx4 : x = 4
 ·
  subst hx4
  have HI2 := Lib.hid (HIN2.out w8 HD8.out HB8.out HK8.out)
  clear HIN2
  go_wp2_with fail
  refine HI2.out.mono ?_
  rintro e9 w9 ⟨rfl, g1, g2, g3⟩
  have HE := Lib.hid (show DxR X B d (N + 24) w (rwE (nm ++ ⟨#[43]⟩) (A', 4)) (.returned (.int .i64 (runA [rmA (nm ++ ⟨#[43]⟩), fun A => (A, 4)] A').2)) w9 from by
   have q9 : Below w8.heap.size w8 (w8.alloc (.cells #[.func (.func 95) #[] #[.pointer (some ⟨b2, 0, none⟩), .pointer (some ⟨b5, 0, none⟩)], .func (.func 101) #[] #[]] 44)) := (Below.refl _ _).alloc (Nat.le_refl _) _
   unfold rwE
   rw [if_pos rfl]
   exact ⟨rfl, (g1.less fun j hj => .inl (HXI.out j hj)).mono (by omega), (HW.out.mono HBX.out).trans (HB8.out.trans ((q9.mono (Nat.le_trans HBX.out (Nat.le_trans HW.out.size HB8.out.size))).trans g2)), fun j hj => by
    have hjl := HLT.out j hj
    rw [g3 j (.inl (HXI.out j hj)), q9.block j (Nat.lt_of_lt_of_le hjl (Nat.le_trans HW.out.size HB8.out.size)), HK8.out j (HXI.out j hj)]
    exact HW.out.block j hjl⟩)
  clear g1 g2 g3 HI2
  go_wp2_with fail
  go_ret
  exact HE.out
 ·
  have hxx : (x == 4) = false := by simp [hx4]
  have HE := Lib.hid (show DxR X B d (N + 24) w (rwE (nm ++ ⟨#[43]⟩) (A', x)) (.returned (.int .i64 x)) w8 from by
   unfold rwE
   rw [if_neg hx4]
   exact ⟨rfl, (HD8.out.less fun j hj => HXI.out j hj).mono (by omega), (HW.out.mono HBX.out).trans HB8.out, fun j hj => by
    rw [HK8.out j (HXI.out j hj)]
    exact HW.out.block j (HLT.out j hj)⟩)
  clear HIN2 HD8
  go_wp2_with fail
  go_ret
  exact HE.out
end Go.Proofs.YtihbgigledmliaaGreat

namespace Go.Proofs.YtihbgigledmliaaGreat
open Go.RowKit
set_option linter.unusedVariables false
structure ScW (w : World) (b : List Nat) (used : Nat) (v : Value) (W : World) : Prop where
 ex : ∃ vs gs ps, OwnV W w.heap.size v vs ∧ Rcs w.heap.size W vs gs ps ∧ 8 * ps.length ≤ used ∧ Frm.scanL b = (ps ++ (Frm.scanL (b.drop used)).1, used + (Frm.scanL (b.drop used)).2)
 le : used ≤ b.length
 below : Below w.heap.size w W
def ScanR (w : World) (b : List Nat) (e : Ending) (w' : World) : Prop :=
 ∃ v vs gs, e = .returned (.tuple #[v, .int .i64 (((Frm.scanL b).2 : Nat) : Int)]) ∧ OwnV w' w.heap.size v vs ∧ Rcs w.heap.size w' vs gs (Frm.scanL b).1 ∧ Below w.heap.size w w'
theorem ScW.last {w W W' : World} {b : List Nat} {used : Nat} {v : Value} (h : ScW w b used v W) (hn : Frm.firstL (b.drop used) = none) (hb : Below W.heap.size W W') : ScanR w b (.returned (.tuple #[v, .int .i64 (used : Int)])) W' := by
 obtain ⟨vs, gs, ps, ho, hr, _, hs⟩ := h.ex
 rw [Frm.scan_none hn, List.append_nil, Nat.add_zero] at hs
 refine ⟨v, vs, gs, by rw [hs], ho.keep hb, ?_, h.below.trans (hb.mono h.below.size)⟩
 rw [hs]
 exact hr.keep (KeepsB.of hb)
theorem ScW.more {w W W' : World} {b : List Nat} {used : Nat} {v' : Value} {vs : List Value} {gs : List Nat} {ps : List (List Nat)} {g : Nat} {y : Value} {p : List Nat}
  (hle : used ≤ b.length) (hc : 8 * ps.length ≤ used) (hs : Frm.scanL b = (ps ++ (Frm.scanL (b.drop used)).1, used + (Frm.scanL (b.drop used)).2)) (hf : Frm.firstL (b.drop used) = some p)
  (ho : OwnV W' w.heap.size v' (vs ++ [y])) (hr : Rcs w.heap.size W vs gs ps) (hk : KeepsB W W') (hg : g ∉ gs) (hB : w.heap.size ≤ g) (hrc : Rc W g y p) (hb : Below w.heap.size w W') : ScW w b (used + (8 + p.length)) v' W' := by
 obtain ⟨h1, _⟩ := Frm.first_some hf
 rw [List.length_drop] at h1
 refine ⟨⟨vs ++ [y], gs ++ [g], ps ++ [p], ho, (hr.push hg hB hrc).keep hk, by simp; omega, ?_⟩, by omega, hb⟩
 rw [hs, Frm.scan_some hf, List.drop_drop]
 simp only [List.append_assoc, List.singleton_append, Prod.mk.injEq]
 exact ⟨trivial, by omega⟩
set_option maxRecDepth 100000 in
set_option maxHeartbeats 4000000 in
theorem scan_c (a : Option Addr) (len cap : Nat) (b : List Nat) (w : World) (h : Rd w a len b) (hlc : len ≤ cap) (hm : len ≤ 1000000000) (hcm : cap ≤ 9223372036854775807) :
  Calls Tryz.prog 84 #[.slice a len cap] w (ScanR w b) := by
 have hbl := h.1
 have HR := Lib.hid h
 have HBL := Lib.hid hbl
 have HS0 : Hid (ScW w b 0 (.slice none 0 0) w) := Lib.hid ⟨⟨[], [], [], OwnV.nil _ _, Rcs.nil _ _, by simp, by simp⟩, Nat.zero_le _, Below.refl _ _⟩
 clear h hbl
 go_enter Tryz.func84, Tryz.ntmps84
 go_wp2_with fail
 go_loopw [4, 5] (fun v i wr => ∃ used : Nat, used ≤ len ∧ i = .int .i64 used ∧ Hid (ScW w b used v wr)) (fun _ i _ => len - (intOf i).toNat)
 case atStart => exact ⟨0, Nat.zero_le _, rfl, HS0⟩
 case round =>
  clear HS0
  obtain ⟨used, hu, rfl, HS⟩ := hrel
  have kC := fun W => run_cutAt W a len cap used hu
  have HF := Lib.hid (first_c (sla a cap used) (len - used) (cap - used) (b.drop used) wr ((HR.out.below HS.out.below).cut cap used hu hlc) (by omega) (by omega))
  cases hf : Frm.firstL (b.drop used) with
  | none =>
   have HFN := Lib.hid hf
   unfold FirstR at HF
   rw [hf] at HF
   clear hf
   go_wp2_with fail
   refine HF.out.mono ?_
   rintro e w2 ⟨rfl, hb2⟩
   have HE := Lib.hid (HS.out.last HFN.out hb2)
   clear hb2 HS HFN HF
   go_wp2_with fail
   go_ret2
   exact HE.out
  | some p =>
   have HFP := Lib.hid hf
   have hfs := Frm.first_some hf
   rw [List.length_drop, HBL.out] at hfs
   have HPB := Lib.hid (show ∀ z ∈ p, z < 256 from by
    intro z hz
    rw [hfs.2.2.2.1] at hz
    exact HR.out.2.1 z (List.mem_of_mem_drop (List.mem_of_mem_drop (List.mem_of_mem_take hz))))
   have hpl : 8 + p.length ≤ len - used := hfs.1
   unfold FirstR at HF
   rw [hf] at HF
   simp only at HF
   clear hf hfs
   obtain ⟨n, hn⟩ : ∃ n, n = p.length := ⟨_, rfl⟩
   go_wp2_with fail
   refine HF.out.mono ?_
   rintro e w2 ⟨g, c, rfl, hc, hc2, ho2, hb2⟩
   obtain ⟨vs, gs, ps, hov, hrs, hcnt, hst⟩ := HS.out.ex
   obtain ⟨hg, hrc⟩ := rc_of ho2 HPB.out
   have HNG := Lib.hid (show g ∉ gs from fun hm => by have := (hrs.lt g hm).2; omega)
   have hgw : w.heap.size ≤ g := Nat.le_trans HS.out.below.size hg
   have HRC := Lib.hid hrc
   have HOV := Lib.hid (hov.keep hb2)
   have HRS := Lib.hid (hrs.keep (KeepsB.of hb2))
   have HST := Lib.hid hst
   have HB2 := Lib.hid (HS.out.below.trans (hb2.mono HS.out.below.size))
   have HCN := Lib.hid hcnt
   have hvl : vs.length + 1 ≤ 1000000000 := by rw [hrs.lv]; omega
   obtain ⟨A, hA⟩ : ∃ A, A = some (⟨g, 0, none⟩ : Addr) := ⟨_, rfl⟩
   rw [← hA, ← hn] at HRC
   rw [← hA, ← hn]
   rw [← hn] at hpl hc
   have HA := Lib.hid hA
   have HN := Lib.hid hn
   clear hA hn ho2 hg hrc hov hrs hst hcnt hb2 HF HS
   have hsz := HB2.out.size
   have k8 : ∀ W : World, (Instr.sliceAt 38 (.slice A (8 + n) c) (some (.int .i64 8)) none none).run Tryz.prog W = .ok (.slice (sla A c 8) n (c - 8)) W := fun W => by
    have h := run_cutAt W A (8 + n) c 8 (by omega)
    rw [show 8 + n - 8 = n by omega] at h
    exact h
   go_wp2_with (at_builtin; (refine wpList_pushV rfl _ _ rfl w.heap.size u4 vs (.slice (sla A c 8) n (c - 8)) rfl rfl HOV.out hsz rfl hvl ?_); intro v1 w1 hown1 hk1 hb1)
   have HM := Lib.hid (show ScW w b (used + (8 + n)) v1 w1 from by
    rw [HN.out]
    refine ScW.more (by rw [HBL.out]; exact hu) HCN.out HST.out HFP.out hown1 HRS.out hk1 HNG.out hgw ?_ (HB2.out.trans hb1)
    have := HRC.out
    exact this)
   clear hown1 hk1 hb1 HRC HOV HRS HST HB2 HCN
   go_roundw
   case rel => exact ⟨used + (8 + n), by omega, by go_num, HM⟩
   case measure => simp [intOf]; omega
end Go.Proofs.YtihbgigledmliaaGreat

namespace Go.Proofs.YtihbgigledmliaaGreat
open Go.RowKit
set_option linter.unusedVariables false
/-- a journal in memory -/
structure Jn (X : Nat → Prop) (B d jb : Nat) (nm : ByteArray) (sz : Int) (N : Nat) (A : Ad) (w : World) : Prop where
 dx : Dx X B d N A w
 xj : X jb
 bj : B ≤ jb
 row : w.heap[jb]? = some (.cells #[.pointer (some ⟨d, 0, none⟩), .string nm, .int .i64 sz] 88 (0, 0))
theorem Jn.below {X : Nat → Prop} {B d jb : Nat} {nm : ByteArray} {sz : Int} {N : Nat} {A : Ad} {w w' : World} (h : Jn X B d jb nm sz N A w) (hb : Below w.heap.size w w') : Jn X B d jb nm sz N A w' := ⟨h.dx.below hb, h.xj, h.bj, (hb.block jb (h.dx.lt jb h.xj)).trans h.row⟩
theorem Jn.cells {X : Nat → Prop} {B d jb : Nat} {nm : ByteArray} {sz : Int} {N : Nat} {A : Ad} {w : World} (h : Jn X B d jb nm sz N A w) : w.cell? ⟨jb, 0, none⟩ = some (.pointer (some ⟨d, 0, none⟩)) ∧ w.cell? ⟨jb, 1, none⟩ = some (.string nm) ∧ w.cell? ⟨jb, 2, none⟩ = some (.int .i64 sz) := ⟨(cell_of_row w jb 0 _ _ _ h.row).trans rfl, (cell_of_row w jb 1 _ _ _ h.row).trans rfl, (cell_of_row w jb 2 _ _ _ h.row).trans rfl⟩
theorem Jn.kp {X Y : Nat → Prop} {B d jb : Nat} {nm : ByteArray} {sz : Int} {N M : Nat} {A A' : Ad} {w w' : World} (h : Jn X B d jb nm sz N A w) (hd : Dx X B d M A' w') (hk : KpD X w w') : Jn X B d jb nm sz M A' w' := ⟨hd, h.xj, h.bj, (hk jb h.xj).trans h.row⟩
theorem setCell_rowJ {W : World} {g : Nat} {cur : Array Value} {t : TypeId} {fr : Nat × Nat} (h : W.heap[g]? = some (.cells cur t fr)) (k : Nat) (v : Value) : (W.setCell ⟨g, k, none⟩ v).heap[g]? = some (.cells (cur.setIfInBounds k v) t fr) := by
 obtain ⟨hl, he⟩ := Array.getElem?_eq_some_iff.1 h
 unfold World.setCell
 simp [hl, Array.getElem_modify_self, he]
theorem Jn.set {X : Nat → Prop} {B d jb : Nat} {nm : ByteArray} {sz : Int} {N : Nat} {A : Ad} {w : World} (h : Jn X B d jb nm sz N A w) (v : Int) : Jn X B d jb nm v N A (w.setCell ⟨jb, 2, none⟩ (.int .i64 v)) ∧ (w.setCell ⟨jb, 2, none⟩ (.int .i64 v)).heap.size = w.heap.size ∧ (∀ j, j ≠ jb → (w.setCell ⟨jb, 2, none⟩ (.int .i64 v)).heap[j]? = w.heap[j]?) ∧ Below B w (w.setCell ⟨jb, 2, none⟩ (.int .i64 v)) := by
 have hs : (w.setCell ⟨jb, 2, none⟩ (.int .i64 v)).heap.size = w.heap.size := by simp [World.setCell]
 have hk : ∀ j, j ≠ jb → (w.setCell ⟨jb, 2, none⟩ (.int .i64 v)).heap[j]? = w.heap[j]? := fun j hj => Below.heap_setCell w ⟨jb, 2, none⟩ _ j hj
 refine ⟨⟨h.dx.more (by omega) (fun k _ hn => hk k fun e => hn (by rw [e]; exact h.xj)) (fun j hj => .inl hj) (fun j hj => by rw [hs]; exact h.dx.lt j hj), h.xj, h.bj, ?_⟩, hs, hk, (Below.refl _ _).setCell (p := ⟨jb, 2, none⟩) h.bj _⟩
 rw [setCell_rowJ h.row 2]
 rfl
theorem Jn.frozen {X : Nat → Prop} {B d jb : Nat} {nm : ByteArray} {sz : Int} {N : Nat} {A : Ad} {w : World} (h : Jn X B d jb nm sz N A w) : w.frozen? ⟨jb, 2, none⟩ = false := frozen_of_row w jb 2 _ _ h.row
/-- a row of slices that its holder owns, its block and its elements' blocks -/
def OwA (X : Nat → Prop) (B jb : Nat) (w : World) (v : Value) (ps : List (List Nat)) : Prop :=
 ∃ vs, OwnV w B v vs ∧ vs.length = ps.length ∧ (∀ j, v.ownBlock = some j → X j ∧ j ≠ jb) ∧ ∀ (k : Nat) (p : List Nat) (u : Value), ps[k]? = some p → vs[k]? = some u → ∃ pa pc, u = .slice pa p.length pc ∧ Rd w pa p.length p ∧ p.length ≤ pc ∧ pc ≤ 9223372036854775807 ∧ ∀ b o s, pa = some ⟨b, o, s⟩ → p.length ≠ 0 → (b < B ∨ X b ∧ b ≠ jb) ∧ v.ownBlock ≠ some b
theorem OwA.stay {X : Nat → Prop} {B jb : Nat} {w w' : World} {v : Value} {ps : List (List Nat)} (h : OwA X B jb w v ps) (hz : w.heap.size ≤ w'.heap.size) (hk : ∀ j, j < w.heap.size → (j < B ∨ X j ∧ j ≠ jb) → w'.heap[j]? = w.heap[j]?) : OwA X B jb w' v ps := by
 obtain ⟨vs, h1, h2, h3, h4⟩ := h
 refine ⟨vs, ⟨h1.1, ?_⟩, h2, h3, fun k p u hp hu => ?_⟩
 ·
  rcases h1.2 with h0 | ⟨g, cap, cur, e1, e2, e3, e4⟩
  ·
   exact .inl h0
  ·
   exact .inr ⟨g, cap, cur, e1, e2, (hk g (Array.getElem?_eq_some_iff.1 e3).1 (.inr (h3 g (by rw [e1]; rfl)))).trans e3, e4⟩
 ·
  obtain ⟨pa, pc, e1, e2, e3, e4, e5⟩ := h4 k p u hp hu
  exact ⟨pa, pc, e1, rd_stay e2 hz fun b o s e hn => hk b (rd_blkJ e2 e hn) (e5 b o s e hn).1, e3, e4, e5⟩
theorem OwA.below {X : Nat → Prop} {B jb : Nat} {w w' : World} {v : Value} {ps : List (List Nat)} (h : OwA X B jb w v ps) (hb : Below w.heap.size w w') : OwA X B jb w' v ps := h.stay hb.size fun j hj _ => hb.block j hj
theorem OwA.more {X Y : Nat → Prop} {B jb : Nat} {w : World} {v : Value} {ps : List (List Nat)} (h : OwA X B jb w v ps) (hX : ∀ j, X j → Y j) : OwA Y B jb w v ps := by
 obtain ⟨vs, h1, h2, h3, h4⟩ := h
 refine ⟨vs, h1, h2, fun j e => ⟨hX j (h3 j e).1, (h3 j e).2⟩, fun k p u hp hu => ?_⟩
 obtain ⟨pa, pc, e1, e2, e3, e4, e5⟩ := h4 k p u hp hu
 exact ⟨pa, pc, e1, e2, e3, e4, fun b o s e hn => ⟨(e5 b o s e hn).1.imp id fun c => ⟨hX b c.1, c.2⟩, (e5 b o s e hn).2⟩⟩
theorem OwA.nil (X : Nat → Prop) (B jb : Nat) (w : World) : OwA X B jb w (.slice none 0 0) [] := ⟨[], OwnV.nil _ _, rfl, (fun j e => by cases e), fun k p u hp => by simp at hp⟩
theorem OwA.row {X : Nat → Prop} {B jb : Nat} {w : World} {v : Value} {ps : List (List Nat)} (h : OwA X B jb w v ps) : ∃ a n c, v = .slice a n c ∧ ps.length = n ∧ n ≤ c ∧ c ≤ 9223372036854775807 ∧ RowRd w a n ps := by
 obtain ⟨vs, h1, h2, h3, h4⟩ := h
 obtain ⟨a, n, c, e1, e2, e3, e4, e5⟩ := h1.form
 refine ⟨a, n, c, e1, by omega, e3, e4, by omega, e5.imp id fun ⟨g, f1, f2, f3, f4⟩ => ⟨g, 0, f1, fun i p hp => ?_⟩⟩
 have hi := (List.getElem?_eq_some_iff.1 hp).1
 obtain ⟨u, hu⟩ : ∃ u, vs[i]? = some u := ⟨_, List.getElem?_eq_getElem (by omega)⟩
 obtain ⟨pa, pc, g1, g2, g3, g4, _⟩ := h4 i p u hp hu
 exact ⟨pa, p.length, pc, by rw [Nat.zero_add, f4 i u hu, g1], g2, by omega⟩
theorem scan_flat : ∀ (n : Nat) (b : List Nat), b.length ≤ n → Frm.flatF (Frm.scanL b).1 = b.take (Frm.scanL b).2
 | 0, b, hn => by
  rw [Frm.scan_none (Frm.first_short (by omega))]
  rfl
 | n + 1, b, hn => by
  cases hf : Frm.firstL b with
  | none => rw [Frm.scan_none hf]; rfl
  | some p =>
   obtain ⟨h1, _, _, _, h2⟩ := Frm.first_some hf
   have ih := scan_flat n (b.drop (8 + p.length)) (by rw [List.length_drop]; omega)
   rw [Frm.scan_some hf]
   show Frm.flatF (p :: _) = b.take _
   have e : Frm.flatF (p :: (Frm.scanL (b.drop (8 + p.length))).1) = Frm.frameL p ++ Frm.flatF (Frm.scanL (b.drop (8 + p.length))).1 := by simp [Frm.flatF]
   rw [e, ih, h2, ← List.take_add]
theorem scan_bytes : ∀ (n : Nat) (b : List Nat), b.length ≤ n → (∀ y ∈ b, y < 256) → ∀ p ∈ (Frm.scanL b).1, ∀ y ∈ p, y < 256
 | 0, b, hn, hb => by
  rw [Frm.scan_none (Frm.first_short (by omega))]
  intro p hp
  cases hp
 | n + 1, b, hn, hb => by
  cases hf : Frm.firstL b with
  | none =>
   rw [Frm.scan_none hf]
   intro p hp
   cases hp
  | some p =>
   obtain ⟨h1, _, _, h2, _⟩ := Frm.first_some hf
   have ih := scan_bytes n (b.drop (8 + p.length)) (by rw [List.length_drop]; omega) (fun y hy => hb y (List.mem_of_mem_drop hy))
   rw [Frm.scan_some hf]
   intro q hq
   rcases List.mem_cons.1 hq with rfl | hq
   ·
    intro y hy
    rw [h2] at hy
    exact hb y (List.mem_of_mem_drop (List.mem_of_mem_take hy))
   ·
    exact ih q hq
def spJ (nm : ByteArray) : ByteArray := nm ++ ⟨#[43]⟩
/-- what is loaded: the records, and how many bytes they have -/
def recsA (A : Ad) (nm : ByteArray) : List (List Nat) := if A.down then [] else match lookF A.now nm with
 | none => []
 | some z => (Frm.scanL z).1
def usedA (A : Ad) (nm : ByteArray) : Nat := if A.down then 0 else match lookF A.now nm with
 | none => 0
 | some z => (Frm.scanL z).2
def Ad.load (A : Ad) (nm : ByteArray) : Ad × Int := if A.down then (A, 5) else match lookF A.now nm with
 | none => runA [mkA nm, Ad.sync] A
 | some z => if (Frm.scanL z).2 < z.length then A.rw nm (spJ nm) (Frm.flatF (Frm.scanL z).1) else (A, 0)
/-- what load leaves -/
def LoadR (X : Nat → Prop) (B d jb N : Nat) (nm : ByteArray) (w : World) (sz : Int) (rs : List (List Nat)) (r : Ad × Int) (e : Ending) (w' : World) : Prop :=
 ∃ (Y : Nat → Prop) (a : Option Addr) (n c : Nat), e = .returned (.tuple #[.slice a n c, .int .i64 r.2]) ∧ (∀ j, X j → Y j) ∧ (∀ j, Y j → X j ∨ w.heap.size ≤ j) ∧ Jn Y B d jb nm sz N r.1 w' ∧ Rcd (fun j => Y j ∧ w.heap.size ≤ j) B w' a n rs ∧ OwA Y B jb w' (.slice a n c) rs ∧ n ≤ c ∧ c ≤ 9223372036854775807 ∧ Below B w w' ∧ ∀ j, X j → j ≠ jb → w'.heap[j]? = w.heap[j]?
theorem scan_rcd {w w' : World} {b : List Nat} {e : Ending} (h : ScanR w b e w') (B jb : Nat) (hjb : jb < w.heap.size) (hB : B ≤ w.heap.size) : ∃ a n c, e = .returned (.tuple #[.slice a n c, .int .i64 (((Frm.scanL b).2 : Nat) : Int)]) ∧ Rcd (fun j => w.heap.size ≤ j ∧ j < w'.heap.size) B w' a n (Frm.scanL b).1 ∧ OwA (fun j => w.heap.size ≤ j ∧ j < w'.heap.size) B jb w' (.slice a n c) (Frm.scanL b).1 ∧ n ≤ c ∧ c ≤ 9223372036854775807 ∧ Below w.heap.size w w' := by
 obtain ⟨v, vs, gs, rfl, ho, hr, hb⟩ := h
 have ho' : OwnV w' B v vs := ⟨ho.1, ho.2.imp id fun ⟨g, cap, cur, e1, e2, e3⟩ => ⟨g, cap, cur, e1, Nat.le_trans hB e2, e3⟩⟩
 obtain ⟨a, n, c, rfl, hln, hnc, hcm, hrow⟩ := ho.form
 refine ⟨a, n, c, rfl, ⟨by rw [← hr.lv, hln], fun k p hp => ?_⟩, ⟨vs, ho', hr.lv, fun j e => ?_, fun k p u hp hu => ?_⟩, hnc, hcm, hb⟩
 ·
  have hk : k < (Frm.scanL b).1.length := (List.getElem?_eq_some_iff.1 hp).1
  have hkn : k < n := by rw [← hln, hr.lv]; exact hk
  obtain ⟨g, rfl, hg1, hg2, hcell⟩ := hrow.resolve_left (by omega)
  obtain ⟨v, hv⟩ : ∃ v, vs[k]? = some v := ⟨_, List.getElem?_eq_getElem (by omega)⟩
  obtain ⟨g2, hg⟩ : ∃ g2, gs[k]? = some g2 := ⟨_, List.getElem?_eq_getElem (by rw [hr.lg]; exact hk)⟩
  obtain ⟨h1, h2⟩ := hr.rc k v g2 p hv hg hp
  obtain ⟨pa, pc, rfl, h3, h4, h5, h6, h7⟩ := h2.rd
  refine ⟨g, 0, pa, pc, rfl, .inr ⟨hg1, hg2⟩, hg2, by rw [Nat.zero_add]; exact hcell k _ hv, h6, fun b' o' s e hn => ?_, h5, h3, h4⟩
  have h8 := h7 (by omega)
  rw [h8] at e
  cases e
  exact .inr ⟨h1, h2.lt⟩
 ·
  have := World.ownsRow.lt ho j e
  exact ⟨this, by omega⟩
 ·
  have hk : k < (Frm.scanL b).1.length := (List.getElem?_eq_some_iff.1 hp).1
  obtain ⟨g2, hg⟩ : ∃ g2, gs[k]? = some g2 := ⟨_, List.getElem?_eq_getElem (by rw [hr.lg]; exact hk)⟩
  obtain ⟨h1, h2⟩ := hr.rc k u g2 p hu hg hp
  have hoth : some g2 ≠ (Value.slice a n c).ownBlock := by
   obtain ⟨_, cur, _, hh, _⟩ := h2
   exact ho.other hh
  obtain ⟨pa, pc, rfl, h3, h4, h5, h6, h7⟩ := h2.rd
  refine ⟨pa, pc, rfl, h6, h3, h4, fun b' o' s e hn => ?_⟩
  have h8 := h7 (by omega)
  rw [h8] at e
  cases e
  exact ⟨.inr ⟨⟨h1, h2.lt⟩, by omega⟩, fun e => hoth e.symm⟩
set_option maxRecDepth 100000 in
set_option maxHeartbeats 8000000 in
theorem jload_down {X : Nat → Prop} {B d N jb : Nat} {A : Ad} {w : World} {nm : ByteArray} (h : Jn X B d jb nm 0 N A w) (hN : N < 100000000) (hn : nm.size ≤ 1000) (hdn : A.down = true) :
  Calls Tryz.prog 36 #[.pointer (some ⟨jb, 0, none⟩)] w (LoadR X B d jb N nm w 0 [] (A, 5)) := by
 have hj := h.row
 have hjl : jb < w.heap.size := h.dx.lt jb h.xj
 have hnl : nm.size ≤ maxLen := by unfold maxLen; omega
 obtain ⟨b1, hb1⟩ : ∃ b1, b1 = w.heap.size := ⟨_, rfl⟩
 obtain ⟨w1, hw1⟩ : ∃ w1, w1 = w.alloc (.cells #[.pointer (some ⟨jb, 0, none⟩)] 31) := ⟨_, rfl⟩
 have z1 : w1.heap.size = b1 + 1 := by rw [hw1, hb1]; simp
 have q1 : Below w.heap.size w w1 := by rw [hw1]; exact (Below.refl _ _).alloc (Nat.le_refl _) _
 have qd : Below w1.heap.size w1 (World.drew w1) := below_drewN' _ w1 1
 have k1 : w1.heap[b1]? = some (.cells #[.pointer (some ⟨jb, 0, none⟩)] 31 (0, 0)) := by rw [hw1, hb1]; exact heap_alloc_new w _
 have hj1 := (q1.block jb hjl).trans hj
 have hS1 : HasC [(⟨b1, 0, none⟩, .pointer (some ⟨jb, 0, none⟩)), (⟨jb, 0, none⟩, .pointer (some ⟨d, 0, none⟩)), (⟨jb, 1, none⟩, .string nm)] (World.drew w1) := by
  intro p hp
  simp only [List.mem_cons, List.not_mem_nil, or_false] at hp
  rcases hp with rfl | rfl | rfl
  ·
   exact cell_of_row w1 b1 0 _ _ _ k1
  ·
   exact (cell_of_row w1 jb 0 _ _ _ hj1).trans rfl
  ·
   exact (cell_of_row w1 jb 1 _ _ _ hj1).trans rfl
 have hd1 : Dx (fun j => X j ∨ j = b1) B d N A (World.drew w1) := h.dx.belowY (q1.trans (qd.mono q1.size)) (fun j hj => hj.imp id fun e => by omega) (fun j hj => by
  rcases hj with hj | hj
  ·
   exact Nat.lt_of_lt_of_le (h.dx.lt j hj) q1.size
  ·
   show j < w1.heap.size; omega)
 have HD1 := Lib.hid hd1
 have HJ1 := Lib.hid (show (World.drew w1).heap[jb]? = some (.cells #[.pointer (some ⟨d, 0, none⟩), .string nm, .int .i64 0] 88 (0, 0)) from hj1)
 have HB1 := Lib.hid (show Below w.heap.size w (World.drew w1) from q1.trans (qd.mono q1.size))
 have HZ1 := Lib.hid (show b1 < (World.drew w1).heap.size ∧ jb < (World.drew w1).heap.size ∧ b1 ≠ jb ∧ w.heap.size ≤ b1 from ⟨by show b1 < w1.heap.size; omega, by show jb < w1.heap.size; omega, by omega, by omega⟩)
 have HH := Lib.hid h
 have HS := Lib.hid hS1
 have HXB := Lib.hid (show B ≤ w.heap.size from Nat.le_of_lt (Nat.lt_of_le_of_lt h.dx.base.1 h.dx.base.2))
 have HRD := Lib.hid (show Calls Tryz.prog 54 #[.pointer (some ⟨d, 0, none⟩), .string nm, .int .i64 0, .int .i64 67108864] (World.drew w1) fun e w' => e = .returned (.tuple #[.slice none 0 0, .int .i64 5]) ∧ w' = World.drew w1 from by
  obtain ⟨S, k1, k2, -⟩ := hd1.ex
  have := aread k1 k2 nm hnl 0 67108864
  unfold RdA at this
  rw [hdn] at this
  simpa using this)
 obtain ⟨W1, hW1⟩ : ∃ W1, W1 = World.drew w1 := ⟨_, rfl⟩
 have HSC := Lib.hid (scan_c none 0 0 [] W1 ⟨rfl, by simp, .inl rfl⟩ (Nat.le_refl _) (by omega) (by omega))
 rw [← hW1] at HRD HS HZ1 HB1 HJ1 HD1
 have HBD := Lib.hid (Below.refl W1.heap.size W1)
 clear h hj hjl hnl z1 q1 qd k1 hj1 hS1 hd1
 go_enter Tryz.func36, Tryz.ntmps36
 go_upto_region 1 with fail
 rw [← hb1, ← hw1]
 clear hw1 hb1
 have HL1 := Lib.hid (fun W (hW : HasC [(⟨b1, 0, none⟩, .pointer (some ⟨jb, 0, none⟩)), (⟨jb, 0, none⟩, .pointer (some ⟨d, 0, none⟩)), (⟨jb, 1, none⟩, .string nm)] W) => run_cell_jn W ⟨b1, 0, none⟩ _ (hW (⟨b1, 0, none⟩, .pointer (some ⟨jb, 0, none⟩)) (by simp)))
 have HL2 := Lib.hid (fun W (hW : HasC [(⟨b1, 0, none⟩, .pointer (some ⟨jb, 0, none⟩)), (⟨jb, 0, none⟩, .pointer (some ⟨d, 0, none⟩)), (⟨jb, 1, none⟩, .string nm)] W) => run_cell_disk W ⟨jb, 0, none⟩ _ (hW (⟨jb, 0, none⟩, .pointer (some ⟨d, 0, none⟩)) (by simp)))
 have HL3 := Lib.hid (fun W (hW : HasC [(⟨b1, 0, none⟩, .pointer (some ⟨jb, 0, none⟩)), (⟨jb, 0, none⟩, .pointer (some ⟨d, 0, none⟩)), (⟨jb, 1, none⟩, .string nm)] W) => run_cell_s W ⟨jb, 1, none⟩ nm (hW (⟨jb, 1, none⟩, .string nm) (by simp)))
 refine anyH_begin (S := HasC [(⟨b1, 0, none⟩, .pointer (some ⟨jb, 0, none⟩)), (⟨jb, 0, none⟩, .pointer (some ⟨d, 0, none⟩)), (⟨jb, 1, none⟩, .string nm)]) (by kernel_rfl) ?_
 rw [← hW1]
 clear hW1
 refine aL 0 (d := 10) (ty := 31) (x := (.tmp 1)) (p := .pointer (some ⟨b1, 0, none⟩)) (.pointer (some ⟨jb, 0, none⟩)) HL1.out HS.out ?_
 simp only [Act.put, sT, sZ, sS]
 refine aP 1 (d := 11) (op := .nilCheck (.tmp 10)) (.pointer (some ⟨jb, 0, none⟩)) HS.out ?_
 simp only [Act.put, sT, sZ, sS]
 refine aP 2 (d := 12) (op := .fieldAddr 88 (.tmp 11) 0) (.pointer (some ⟨jb, 0, none⟩)) HS.out ?_
 simp only [Act.put, sT, sZ, sS]
 refine aL 3 (d := 13) (ty := 25) (x := (.tmp 12)) (p := .pointer (some ⟨jb, 0, none⟩)) (.pointer (some ⟨d, 0, none⟩)) HL2.out HS.out ?_
 simp only [Act.put, sT, sZ, sS]
 refine aL 4 (d := 14) (ty := 31) (x := (.tmp 1)) (p := .pointer (some ⟨b1, 0, none⟩)) (.pointer (some ⟨jb, 0, none⟩)) HL1.out HS.out ?_
 simp only [Act.put, sT, sZ, sS]
 refine aP 5 (d := 15) (op := .nilCheck (.tmp 14)) (.pointer (some ⟨jb, 0, none⟩)) HS.out ?_
 simp only [Act.put, sT, sZ, sS]
 refine aP 6 (d := 16) (op := .fieldAddr 88 (.tmp 15) 1) (.pointer (some ⟨jb, 1, none⟩)) HS.out ?_
 simp only [Act.put, sT, sZ, sS]
 refine aL 7 (d := 17) (ty := 9) (x := (.tmp 16)) (p := .pointer (some ⟨jb, 1, none⟩)) (.string nm) HL3.out HS.out ?_
 simp only [Act.put, sT, sZ, sS]
 refine anyH_callG 8 (d := some 18) (f := 54) (xs := #[(.tmp 13), (.tmp 17), (.const (.int .i64 0)), (.const (.int .i64 67108864))]) (ts := #[25, 9, 3, 3]) (gd := none) (vs := #[.pointer (some ⟨d, 0, none⟩), .string nm, .int .i64 0, .int .i64 67108864]) (by kernel_rfl) (by rfl) wantedP (by go_simp) (by go_simp) (HRD.out) ?_
 rintro e2 w2 ⟨rfl, rfl⟩
 have HS2 := HS
 refine ⟨_, rfl, HS2.out, fun hS => ?_⟩
 clear hS
 simp only [Act.put, sT, sZ, sS]
 refine aP 9 (d := 9) (op := .move (.tmp 18)) (.tuple #[.slice none 0 0, .int .i64 5]) HS2.out ?_
 simp only [Act.put, sT, sZ, sS]
 refine aP 10 (d := 19) (op := .extract (.tmp 9) 0) (.slice none 0 0) HS2.out ?_
 simp only [Act.put, sT, sZ, sS]
 refine aP 11 (d := 20) (op := .extract (.tmp 9) 1) (.int .i64 5) HS2.out ?_
 simp only [Act.put, sT, sZ, sS]
 refine aP 12 (d := 4) (op := .assign (.tmp 19)) (.slice none 0 0) HS2.out ?_
 simp only [Act.put, sT, sZ, sS]
 refine aP 13 (d := 5) (op := .assign (.tmp 20)) (.int .i64 5) HS2.out ?_
 simp only [Act.put, sT, sZ, sS]
 refine wpAnyH_done (by kernel_rfl) ?_ _
 clear HL2 HL3 HRD HS2
 go_wp2_with fail
 refine HSC.out.mono ?_
 rintro e3 w3 hsc
 obtain ⟨a, n, c, rfl, hrc, how, hnc, hcm, hb3⟩ := scan_rcd hsc B jb (by have := HZ1.out.2.1; have := HBD.out.size; omega) (by have := HXB.out; have := HB1.out.size; have := HBD.out.size; omega)
 have HRC := Lib.hid hrc
 have HNC := Lib.hid (And.intro hnc hcm)
 have HB3 := Lib.hid hb3
 obtain ⟨Y, hY⟩ : ∃ Y : Nat → Prop, Y = fun j => (X j ∨ j = b1) ∨ (w2.heap.size ≤ j ∧ j < w3.heap.size) := ⟨_, rfl⟩
 have hdy : Dx Y B d N A w3 := HD1.out.belowY (HBD.out.trans (hb3.mono HBD.out.size)) (fun j hj => by rw [hY] at hj; exact hj.imp id fun e => Nat.le_trans HBD.out.size e.1) (fun j hj => by
  rw [hY] at hj
  rcases hj with hj | hj
  ·
   exact Nat.lt_of_lt_of_le (HD1.out.lt j hj) (Nat.le_trans HBD.out.size hb3.size)
  ·
   exact hj.2)
 have HJ3 := Lib.hid (show Jn Y B d jb nm 0 N A w3 from ⟨hdy, by rw [hY]; exact .inl (.inl HH.out.xj), HH.out.bj, ((HBD.out.trans (hb3.mono HBD.out.size)).block jb HZ1.out.2.1).trans HJ1.out⟩)
 have y1 : w3.cell? ⟨b1, 0, none⟩ = some (.pointer (some ⟨jb, 0, none⟩)) := ((HBD.out.trans (hb3.mono HBD.out.size)).cell (p := ⟨b1, 0, none⟩) HZ1.out.1).trans (HS.out (⟨b1, 0, none⟩, .pointer (some ⟨jb, 0, none⟩)) (by simp))
 obtain ⟨y2, y3, y4⟩ := HJ3.out.cells
 have y5 := HJ3.out.frozen
 have HYL := Lib.hid (show (∀ j, X j → Y j) ∧ (∀ j, Y j → X j ∨ w.heap.size ≤ j) ∧ (∀ j, w2.heap.size ≤ j ∧ j < w3.heap.size → Y j ∧ w.heap.size ≤ j) from ⟨fun j hj => by rw [hY]; exact .inl (.inl hj), fun j hj => by
  rw [hY] at hj
  rcases hj with (hj | hj) | hj
  ·
   exact .inl hj
  ·
   exact .inr (by rw [hj]; exact HZ1.out.2.2.2)
  ·
   exact .inr (Nat.le_trans (Nat.le_trans HB1.out.size HBD.out.size) hj.1), fun j hj => ⟨by rw [hY]; exact .inr hj, Nat.le_trans (Nat.le_trans HB1.out.size HBD.out.size) hj.1⟩⟩)
 obtain ⟨s1, s2, s3, s4⟩ := HJ3.out.set 0
 have HW4 := Lib.hid (show Below B w (w3.setCell ⟨jb, 2, none⟩ (.int .i64 0)) from ((HB1.out.trans ((HBD.out.trans (hb3.mono HBD.out.size)).mono HB1.out.size)).mono HXB.out).trans s4)
 have HK4 := Lib.hid (show ∀ j, X j → j ≠ jb → (w3.setCell ⟨jb, 2, none⟩ (.int .i64 0)).heap[j]? = w.heap[j]? from fun j hj hn => (s3 j hn).trans ((HB1.out.trans ((HBD.out.trans (hb3.mono HBD.out.size)).mono HB1.out.size)).block j (HH.out.dx.lt j hj)))
 have HRC4 := Lib.hid (show Rcd (fun j => Y j ∧ w.heap.size ≤ j) B (w3.setCell ⟨jb, 2, none⟩ (.int .i64 0)) a n [] from (hrc.stay (Nat.le_of_eq s2.symm) fun j hj ho => s3 j fun e => by
  rcases ho with ho | ho
  ·
   have := HH.out.bj; omega
  ·
   have := HZ1.out.2.1; have := HBD.out.size; omega).more HYL.out.2.2)
 have HOW4 := Lib.hid (show OwA Y B jb (w3.setCell ⟨jb, 2, none⟩ (.int .i64 0)) (.slice a n c) [] from (how.stay (Nat.le_of_eq s2.symm) fun j hj ho => s3 j fun e => by
  rcases ho with ho | ho
  ·
   have := HH.out.bj; omega
  ·
   exact ho.2 e).more fun j hj => (HYL.out.2.2 j hj).1)
 have HJ4 := Lib.hid s1
 clear hdy hY s1 s2 s3 s4
 have e0 : (Frm.scanL []).2 = 0 := rfl
 simp only [e0, Int.cast_ofNat_Int]
 clear hrc how hnc hcm hb3 hsc HSC e0
 have HE := Lib.hid (show LoadR X B d jb N nm w 0 [] (A, 5) (.returned (.tuple #[.slice a n c, .int .i64 5])) (w3.setCell ⟨jb, 2, none⟩ (.int .i64 0)) from ⟨Y, a, n, c, rfl, HYL.out.1, HYL.out.2.1, HJ4.out, HRC4.out, HOW4.out, HNC.out.1, HNC.out.2, HW4.out, HK4.out⟩)
 go_wp2_with fail
 go_ret2
 exact HE.out
set_option maxRecDepth 100000 in
set_option maxHeartbeats 8000000 in
theorem jload_whole {X : Nat → Prop} {B d N jb : Nat} {A : Ad} {w : World} {nm : ByteArray} (h : Jn X B d jb nm 0 N A w) (hN : N < 100000000) (hn : nm.size ≤ 1000) (hdn : A.down = false) (z : List Nat) (hz : lookF A.now nm = some z) (hzl : z.length < 1048576) (hc : ¬ (Frm.scanL z).2 < z.length) :
  Calls Tryz.prog 36 #[.pointer (some ⟨jb, 0, none⟩)] w (LoadR X B d jb (N + 24) nm w (((Frm.scanL z).2 : Nat) : Int) (Frm.scanL z).1 ((A, 0))) := by
 have hj := h.row
 have hjl : jb < w.heap.size := h.dx.lt jb h.xj
 have hnl : nm.size ≤ maxLen := by unfold maxLen; omega
 obtain ⟨b1, hb1⟩ : ∃ b1, b1 = w.heap.size := ⟨_, rfl⟩
 obtain ⟨w1, hw1⟩ : ∃ w1, w1 = w.alloc (.cells #[.pointer (some ⟨jb, 0, none⟩)] 31) := ⟨_, rfl⟩
 have z1 : w1.heap.size = b1 + 1 := by rw [hw1, hb1]; simp
 have q1 : Below w.heap.size w w1 := by rw [hw1]; exact (Below.refl _ _).alloc (Nat.le_refl _) _
 have qd : Below w1.heap.size w1 (World.drew w1) := below_drewN' _ w1 1
 have k1 : w1.heap[b1]? = some (.cells #[.pointer (some ⟨jb, 0, none⟩)] 31 (0, 0)) := by rw [hw1, hb1]; exact heap_alloc_new w _
 have hj1 := (q1.block jb hjl).trans hj
 have hS1 : HasC [(⟨b1, 0, none⟩, .pointer (some ⟨jb, 0, none⟩)), (⟨jb, 0, none⟩, .pointer (some ⟨d, 0, none⟩)), (⟨jb, 1, none⟩, .string nm)] (World.drew w1) := by
  intro p hp
  simp only [List.mem_cons, List.not_mem_nil, or_false] at hp
  rcases hp with rfl | rfl | rfl
  ·
   exact cell_of_row w1 b1 0 _ _ _ k1
  ·
   exact (cell_of_row w1 jb 0 _ _ _ hj1).trans rfl
  ·
   exact (cell_of_row w1 jb 1 _ _ _ hj1).trans rfl
 have hd1 : Dx (fun j => X j ∨ j = b1) B d N A (World.drew w1) := h.dx.belowY (q1.trans (qd.mono q1.size)) (fun j hj => hj.imp id fun e => by omega) (fun j hj => by
  rcases hj with hj | hj
  ·
   exact Nat.lt_of_lt_of_le (h.dx.lt j hj) q1.size
  ·
   show j < w1.heap.size; omega)
 have HD1 := Lib.hid hd1
 have HJ1 := Lib.hid (show (World.drew w1).heap[jb]? = some (.cells #[.pointer (some ⟨d, 0, none⟩), .string nm, .int .i64 0] 88 (0, 0)) from hj1)
 have HB1 := Lib.hid (show Below w.heap.size w (World.drew w1) from q1.trans (qd.mono q1.size))
 have HZ1 := Lib.hid (show b1 < (World.drew w1).heap.size ∧ jb < (World.drew w1).heap.size ∧ b1 ≠ jb ∧ w.heap.size ≤ b1 from ⟨by show b1 < w1.heap.size; omega, by show jb < w1.heap.size; omega, by omega, by omega⟩)
 have HH := Lib.hid h
 have HS := Lib.hid hS1
 have HXB := Lib.hid (show B ≤ w.heap.size from Nat.le_of_lt (Nat.lt_of_le_of_lt h.dx.base.1 h.dx.base.2))
 obtain ⟨zl, hzz⟩ : ∃ zl, zl = z.length := ⟨_, rfl⟩
 have hrd : Calls Tryz.prog 54 #[.pointer (some ⟨d, 0, none⟩), .string nm, .int .i64 0, .int .i64 67108864] (World.drew w1) fun e w' => ∃ va vc, e = .returned (.tuple #[.slice va zl vc, .int .i64 0]) ∧ zl ≤ vc ∧ vc ≤ 9223372036854775807 ∧ Rd w' va zl z ∧ Below (World.drew w1).heap.size (World.drew w1) w' := by
  obtain ⟨S, k1, k2, -⟩ := hd1.ex
  have hh := aread k1 k2 nm hnl 0 67108864
  refine hh.mono ?_
  intro e w' he
  unfold RdA at he
  rw [hdn, hz] at he
  simp only [Bool.false_eq_true, if_false] at he
  rw [if_neg (by omega)] at he
  obtain ⟨va, vn, vc, rfl, ho, hvn, hvb, hb⟩ := he
  have e1 : (z.drop (0 : Int).toNat).take (67108864 : Int).toNat = z := by
   rw [show (0 : Int).toNat = 0 from rfl, List.drop_zero, List.take_of_length_le (by rw [show (67108864 : Int).toNat = 67108864 from rfl]; omega)]
  rw [e1] at ho hvn hvb
  subst hvn
  obtain ⟨a', c', e2, h1, h2, h3⟩ := ho.rd hvb
  obtain ⟨e3, _, e4⟩ := Value.slice.inj e2
  subst e3 e4
  exact ⟨va, vc, by rw [hzz], by rw [hzz]; exact h1, h2, by rw [hzz]; exact h3, hb⟩
 have HRD := Lib.hid hrd
 have HZL := Lib.hid hzl
 have HU := Lib.hid hzz
 have HZLK := Lib.hid hz
 have HC := Lib.hid hc
 obtain ⟨us, hus⟩ : ∃ us, us = (Frm.scanL z).2 := ⟨_, rfl⟩
 rw [← hus] at HC ⊢
 have HUS := Lib.hid hus
 obtain ⟨W1, hW1⟩ : ∃ W1, W1 = World.drew w1 := ⟨_, rfl⟩
 rw [← hW1] at HRD HS HZ1 HB1 HJ1 HD1
 clear hrd hzz hz hzl hc hus hdn
 clear h hj hjl hnl z1 q1 qd k1 hj1 hS1 hd1
 go_enter Tryz.func36, Tryz.ntmps36
 go_upto_region 1 with fail
 rw [← hb1, ← hw1]
 clear hw1 hb1
 have HL1 := Lib.hid (fun W (hW : HasC [(⟨b1, 0, none⟩, .pointer (some ⟨jb, 0, none⟩)), (⟨jb, 0, none⟩, .pointer (some ⟨d, 0, none⟩)), (⟨jb, 1, none⟩, .string nm)] W) => run_cell_jn W ⟨b1, 0, none⟩ _ (hW (⟨b1, 0, none⟩, .pointer (some ⟨jb, 0, none⟩)) (by simp)))
 have HL2 := Lib.hid (fun W (hW : HasC [(⟨b1, 0, none⟩, .pointer (some ⟨jb, 0, none⟩)), (⟨jb, 0, none⟩, .pointer (some ⟨d, 0, none⟩)), (⟨jb, 1, none⟩, .string nm)] W) => run_cell_disk W ⟨jb, 0, none⟩ _ (hW (⟨jb, 0, none⟩, .pointer (some ⟨d, 0, none⟩)) (by simp)))
 have HL3 := Lib.hid (fun W (hW : HasC [(⟨b1, 0, none⟩, .pointer (some ⟨jb, 0, none⟩)), (⟨jb, 0, none⟩, .pointer (some ⟨d, 0, none⟩)), (⟨jb, 1, none⟩, .string nm)] W) => run_cell_s W ⟨jb, 1, none⟩ nm (hW (⟨jb, 1, none⟩, .string nm) (by simp)))
 refine anyH_begin (S := HasC [(⟨b1, 0, none⟩, .pointer (some ⟨jb, 0, none⟩)), (⟨jb, 0, none⟩, .pointer (some ⟨d, 0, none⟩)), (⟨jb, 1, none⟩, .string nm)]) (by kernel_rfl) ?_
 rw [← hW1]
 clear hW1
 refine aL 0 (d := 10) (ty := 31) (x := (.tmp 1)) (p := .pointer (some ⟨b1, 0, none⟩)) (.pointer (some ⟨jb, 0, none⟩)) HL1.out HS.out ?_
 simp only [Act.put, sT, sZ, sS]
 refine aP 1 (d := 11) (op := .nilCheck (.tmp 10)) (.pointer (some ⟨jb, 0, none⟩)) HS.out ?_
 simp only [Act.put, sT, sZ, sS]
 refine aP 2 (d := 12) (op := .fieldAddr 88 (.tmp 11) 0) (.pointer (some ⟨jb, 0, none⟩)) HS.out ?_
 simp only [Act.put, sT, sZ, sS]
 refine aL 3 (d := 13) (ty := 25) (x := (.tmp 12)) (p := .pointer (some ⟨jb, 0, none⟩)) (.pointer (some ⟨d, 0, none⟩)) HL2.out HS.out ?_
 simp only [Act.put, sT, sZ, sS]
 refine aL 4 (d := 14) (ty := 31) (x := (.tmp 1)) (p := .pointer (some ⟨b1, 0, none⟩)) (.pointer (some ⟨jb, 0, none⟩)) HL1.out HS.out ?_
 simp only [Act.put, sT, sZ, sS]
 refine aP 5 (d := 15) (op := .nilCheck (.tmp 14)) (.pointer (some ⟨jb, 0, none⟩)) HS.out ?_
 simp only [Act.put, sT, sZ, sS]
 refine aP 6 (d := 16) (op := .fieldAddr 88 (.tmp 15) 1) (.pointer (some ⟨jb, 1, none⟩)) HS.out ?_
 simp only [Act.put, sT, sZ, sS]
 refine aL 7 (d := 17) (ty := 9) (x := (.tmp 16)) (p := .pointer (some ⟨jb, 1, none⟩)) (.string nm) HL3.out HS.out ?_
 simp only [Act.put, sT, sZ, sS]
 refine anyH_callG 8 (d := some 18) (f := 54) (xs := #[(.tmp 13), (.tmp 17), (.const (.int .i64 0)), (.const (.int .i64 67108864))]) (ts := #[25, 9, 3, 3]) (gd := none) (vs := #[.pointer (some ⟨d, 0, none⟩), .string nm, .int .i64 0, .int .i64 67108864]) (by kernel_rfl) (by rfl) wantedP (by go_simp) (by go_simp) (HRD.out) ?_
 rintro e2 w2 ⟨va, vc, rfl, hvc, hvm, hrv, hbd⟩
 have HBD := Lib.hid hbd
 have HRV := Lib.hid hrv
 have HVC := Lib.hid (And.intro hvc hvm)
 have HS2 := Lib.hid (show HasC [(⟨b1, 0, none⟩, .pointer (some ⟨jb, 0, none⟩)), (⟨jb, 0, none⟩, .pointer (some ⟨d, 0, none⟩)), (⟨jb, 1, none⟩, .string nm)] w2 from HS.out.below hbd (by simp [HZ1.out.1, HZ1.out.2.1]))
 clear hbd hrv hvc hvm
 refine ⟨_, rfl, HS2.out, fun hS => ?_⟩
 clear hS
 simp only [Act.put, sT, sZ, sS]
 refine aP 9 (d := 9) (op := .move (.tmp 18)) (.tuple #[.slice va zl vc, .int .i64 0]) HS2.out ?_
 simp only [Act.put, sT, sZ, sS]
 refine aP 10 (d := 19) (op := .extract (.tmp 9) 0) (.slice va zl vc) HS2.out ?_
 simp only [Act.put, sT, sZ, sS]
 refine aP 11 (d := 20) (op := .extract (.tmp 9) 1) (.int .i64 0) HS2.out ?_
 simp only [Act.put, sT, sZ, sS]
 refine aP 12 (d := 4) (op := .assign (.tmp 19)) (.slice va zl vc) HS2.out ?_
 simp only [Act.put, sT, sZ, sS]
 refine aP 13 (d := 5) (op := .assign (.tmp 20)) (.int .i64 0) HS2.out ?_
 simp only [Act.put, sT, sZ, sS]
 refine wpAnyH_done (by kernel_rfl) ?_ _
 clear HL2 HL3 HRD HS2
 have HSC := Lib.hid (scan_c va zl vc z w2 HRV.out HVC.out.1 (by have := HU.out; have := HZL.out; omega) HVC.out.2)
 have HZB := Lib.hid (show ∀ p ∈ (Frm.scanL z).1, ∀ y ∈ p, y < 256 from scan_bytes z.length z (Nat.le_refl _) HRV.out.2.1)
 go_wp2_with fail
 refine HSC.out.mono ?_
 rintro e3 w3 hsc
 obtain ⟨a, n, c, rfl, hrc, how, hnc, hcm, hb3⟩ := scan_rcd hsc B jb (by have := HZ1.out.2.1; have := HBD.out.size; omega) (by have := HXB.out; have := HB1.out.size; have := HBD.out.size; omega)
 rw [← HUS.out]
 have HRC := Lib.hid hrc
 have HNC := Lib.hid (And.intro hnc hcm)
 have HB3 := Lib.hid hb3
 obtain ⟨Y, hY⟩ : ∃ Y : Nat → Prop, Y = fun j => (X j ∨ j = b1) ∨ (w2.heap.size ≤ j ∧ j < w3.heap.size) := ⟨_, rfl⟩
 have hdy : Dx Y B d N A w3 := HD1.out.belowY (HBD.out.trans (hb3.mono HBD.out.size)) (fun j hj => by rw [hY] at hj; exact hj.imp id fun e => Nat.le_trans HBD.out.size e.1) (fun j hj => by
  rw [hY] at hj
  rcases hj with hj | hj
  ·
   exact Nat.lt_of_lt_of_le (HD1.out.lt j hj) (Nat.le_trans HBD.out.size hb3.size)
  ·
   exact hj.2)
 have HJ3 := Lib.hid (show Jn Y B d jb nm 0 N A w3 from ⟨hdy, by rw [hY]; exact .inl (.inl HH.out.xj), HH.out.bj, ((HBD.out.trans (hb3.mono HBD.out.size)).block jb HZ1.out.2.1).trans HJ1.out⟩)
 have y1 : w3.cell? ⟨b1, 0, none⟩ = some (.pointer (some ⟨jb, 0, none⟩)) := ((HBD.out.trans (hb3.mono HBD.out.size)).cell (p := ⟨b1, 0, none⟩) HZ1.out.1).trans (HS.out (⟨b1, 0, none⟩, .pointer (some ⟨jb, 0, none⟩)) (by simp))
 obtain ⟨y2, y3, y4⟩ := HJ3.out.cells
 have y5 := HJ3.out.frozen
 have HYL := Lib.hid (show (∀ j, X j → Y j) ∧ (∀ j, Y j → X j ∨ w.heap.size ≤ j) ∧ (∀ j, w2.heap.size ≤ j ∧ j < w3.heap.size → Y j ∧ w.heap.size ≤ j) from ⟨fun j hj => by rw [hY]; exact .inl (.inl hj), fun j hj => by
  rw [hY] at hj
  rcases hj with (hj | hj) | hj
  ·
   exact .inl hj
  ·
   exact .inr (by rw [hj]; exact HZ1.out.2.2.2)
  ·
   exact .inr (Nat.le_trans (Nat.le_trans HB1.out.size HBD.out.size) hj.1), fun j hj => ⟨by rw [hY]; exact .inr hj, Nat.le_trans (Nat.le_trans HB1.out.size HBD.out.size) hj.1⟩⟩)
 obtain ⟨s1, s2, s3, s4⟩ := HJ3.out.set (us : Int)
 have HW4 := Lib.hid (show Below B w (w3.setCell ⟨jb, 2, none⟩ (.int .i64 (us : Int))) from ((HB1.out.trans ((HBD.out.trans (hb3.mono HBD.out.size)).mono HB1.out.size)).mono HXB.out).trans s4)
 have HK4 := Lib.hid (show ∀ j, X j → j ≠ jb → (w3.setCell ⟨jb, 2, none⟩ (.int .i64 (us : Int))).heap[j]? = w.heap[j]? from fun j hj hn => (s3 j hn).trans ((HB1.out.trans ((HBD.out.trans (hb3.mono HBD.out.size)).mono HB1.out.size)).block j (HH.out.dx.lt j hj)))
 have HRC4 := Lib.hid (show Rcd (fun j => Y j ∧ w.heap.size ≤ j) B (w3.setCell ⟨jb, 2, none⟩ (.int .i64 (us : Int))) a n (Frm.scanL z).1 from (hrc.stay (Nat.le_of_eq s2.symm) fun j hj ho => s3 j fun e => by
  rcases ho with ho | ho
  ·
   have := HH.out.bj; omega
  ·
   have := HZ1.out.2.1; have := HBD.out.size; omega).more HYL.out.2.2)
 have HOW4 := Lib.hid (show OwA Y B jb (w3.setCell ⟨jb, 2, none⟩ (.int .i64 (us : Int))) (.slice a n c) (Frm.scanL z).1 from (how.stay (Nat.le_of_eq s2.symm) fun j hj ho => s3 j fun e => by
  rcases ho with ho | ho
  ·
   have := HH.out.bj; omega
  ·
   exact ho.2 e).more fun j hj => (HYL.out.2.2 j hj).1)
 have HJ4 := Lib.hid s1
 clear hdy hY s1 s2 s3 s4
 clear hrc how hnc hcm hb3 hsc HSC
 have hlt : ¬ ((us : Nat) : Int) < ((zl : Nat) : Int) := by have := HU.out; have := HC.out; omega
 have HE := Lib.hid (show LoadR X B d jb (N + 24) nm w (us : Int) (Frm.scanL z).1 (A, 0) (.returned (.tuple #[.slice a n c, .int .i64 0])) (w3.setCell ⟨jb, 2, none⟩ (.int .i64 (us : Int))) from ⟨Y, a, n, c, rfl, HYL.out.1, HYL.out.2.1, ⟨HJ4.out.dx.mono (by omega), HJ4.out.xj, HJ4.out.bj, HJ4.out.row⟩, HRC4.out, HOW4.out, HNC.out.1, HNC.out.2, HW4.out, HK4.out⟩)
 go_wp2_with fail
 go_ret2
 exact HE.out
set_option maxRecDepth 100000 in
set_option maxHeartbeats 8000000 in
theorem jload_cut {X : Nat → Prop} {B d N jb : Nat} {A : Ad} {w : World} {nm : ByteArray} (h : Jn X B d jb nm 0 N A w) (hN : N < 100000000) (hn : nm.size ≤ 1000) (hdn : A.down = false) (z : List Nat) (hz : lookF A.now nm = some z) (hzl : z.length < 1048576) (hc : (Frm.scanL z).2 < z.length) :
  Calls Tryz.prog 36 #[.pointer (some ⟨jb, 0, none⟩)] w (LoadR X B d jb (N + 24) nm w (((Frm.scanL z).2 : Nat) : Int) (Frm.scanL z).1 (A.rw nm (spJ nm) (Frm.flatF (Frm.scanL z).1))) := by
 have hj := h.row
 have hjl : jb < w.heap.size := h.dx.lt jb h.xj
 have hnl : nm.size ≤ maxLen := by unfold maxLen; omega
 obtain ⟨b1, hb1⟩ : ∃ b1, b1 = w.heap.size := ⟨_, rfl⟩
 obtain ⟨w1, hw1⟩ : ∃ w1, w1 = w.alloc (.cells #[.pointer (some ⟨jb, 0, none⟩)] 31) := ⟨_, rfl⟩
 have z1 : w1.heap.size = b1 + 1 := by rw [hw1, hb1]; simp
 have q1 : Below w.heap.size w w1 := by rw [hw1]; exact (Below.refl _ _).alloc (Nat.le_refl _) _
 have qd : Below w1.heap.size w1 (World.drew w1) := below_drewN' _ w1 1
 have k1 : w1.heap[b1]? = some (.cells #[.pointer (some ⟨jb, 0, none⟩)] 31 (0, 0)) := by rw [hw1, hb1]; exact heap_alloc_new w _
 have hj1 := (q1.block jb hjl).trans hj
 have hS1 : HasC [(⟨b1, 0, none⟩, .pointer (some ⟨jb, 0, none⟩)), (⟨jb, 0, none⟩, .pointer (some ⟨d, 0, none⟩)), (⟨jb, 1, none⟩, .string nm)] (World.drew w1) := by
  intro p hp
  simp only [List.mem_cons, List.not_mem_nil, or_false] at hp
  rcases hp with rfl | rfl | rfl
  ·
   exact cell_of_row w1 b1 0 _ _ _ k1
  ·
   exact (cell_of_row w1 jb 0 _ _ _ hj1).trans rfl
  ·
   exact (cell_of_row w1 jb 1 _ _ _ hj1).trans rfl
 have hd1 : Dx (fun j => X j ∨ j = b1) B d N A (World.drew w1) := h.dx.belowY (q1.trans (qd.mono q1.size)) (fun j hj => hj.imp id fun e => by omega) (fun j hj => by
  rcases hj with hj | hj
  ·
   exact Nat.lt_of_lt_of_le (h.dx.lt j hj) q1.size
  ·
   show j < w1.heap.size; omega)
 have HD1 := Lib.hid hd1
 have HJ1 := Lib.hid (show (World.drew w1).heap[jb]? = some (.cells #[.pointer (some ⟨d, 0, none⟩), .string nm, .int .i64 0] 88 (0, 0)) from hj1)
 have HB1 := Lib.hid (show Below w.heap.size w (World.drew w1) from q1.trans (qd.mono q1.size))
 have HZ1 := Lib.hid (show b1 < (World.drew w1).heap.size ∧ jb < (World.drew w1).heap.size ∧ b1 ≠ jb ∧ w.heap.size ≤ b1 from ⟨by show b1 < w1.heap.size; omega, by show jb < w1.heap.size; omega, by omega, by omega⟩)
 have HH := Lib.hid h
 have HS := Lib.hid hS1
 have HXB := Lib.hid (show B ≤ w.heap.size from Nat.le_of_lt (Nat.lt_of_le_of_lt h.dx.base.1 h.dx.base.2))
 obtain ⟨zl, hzz⟩ : ∃ zl, zl = z.length := ⟨_, rfl⟩
 have hrd : Calls Tryz.prog 54 #[.pointer (some ⟨d, 0, none⟩), .string nm, .int .i64 0, .int .i64 67108864] (World.drew w1) fun e w' => ∃ va vc, e = .returned (.tuple #[.slice va zl vc, .int .i64 0]) ∧ zl ≤ vc ∧ vc ≤ 9223372036854775807 ∧ Rd w' va zl z ∧ Below (World.drew w1).heap.size (World.drew w1) w' := by
  obtain ⟨S, k1, k2, -⟩ := hd1.ex
  have hh := aread k1 k2 nm hnl 0 67108864
  refine hh.mono ?_
  intro e w' he
  unfold RdA at he
  rw [hdn, hz] at he
  simp only [Bool.false_eq_true, if_false] at he
  rw [if_neg (by omega)] at he
  obtain ⟨va, vn, vc, rfl, ho, hvn, hvb, hb⟩ := he
  have e1 : (z.drop (0 : Int).toNat).take (67108864 : Int).toNat = z := by
   rw [show (0 : Int).toNat = 0 from rfl, List.drop_zero, List.take_of_length_le (by rw [show (67108864 : Int).toNat = 67108864 from rfl]; omega)]
  rw [e1] at ho hvn hvb
  subst hvn
  obtain ⟨a', c', e2, h1, h2, h3⟩ := ho.rd hvb
  obtain ⟨e3, _, e4⟩ := Value.slice.inj e2
  subst e3 e4
  exact ⟨va, vc, by rw [hzz], by rw [hzz]; exact h1, h2, by rw [hzz]; exact h3, hb⟩
 have HRD := Lib.hid hrd
 have HZL := Lib.hid hzl
 have HU := Lib.hid hzz
 have HZLK := Lib.hid hz
 have HC := Lib.hid hc
 obtain ⟨us, hus⟩ : ∃ us, us = (Frm.scanL z).2 := ⟨_, rfl⟩
 rw [← hus] at HC ⊢
 have HUS := Lib.hid hus
 obtain ⟨W1, hW1⟩ : ∃ W1, W1 = World.drew w1 := ⟨_, rfl⟩
 rw [← hW1] at HRD HS HZ1 HB1 HJ1 HD1
 clear hrd hzz hz hzl hc hus hdn
 clear h hj hjl hnl z1 q1 qd k1 hj1 hS1 hd1
 go_enter Tryz.func36, Tryz.ntmps36
 go_upto_region 1 with fail
 rw [← hb1, ← hw1]
 clear hw1 hb1
 have HL1 := Lib.hid (fun W (hW : HasC [(⟨b1, 0, none⟩, .pointer (some ⟨jb, 0, none⟩)), (⟨jb, 0, none⟩, .pointer (some ⟨d, 0, none⟩)), (⟨jb, 1, none⟩, .string nm)] W) => run_cell_jn W ⟨b1, 0, none⟩ _ (hW (⟨b1, 0, none⟩, .pointer (some ⟨jb, 0, none⟩)) (by simp)))
 have HL2 := Lib.hid (fun W (hW : HasC [(⟨b1, 0, none⟩, .pointer (some ⟨jb, 0, none⟩)), (⟨jb, 0, none⟩, .pointer (some ⟨d, 0, none⟩)), (⟨jb, 1, none⟩, .string nm)] W) => run_cell_disk W ⟨jb, 0, none⟩ _ (hW (⟨jb, 0, none⟩, .pointer (some ⟨d, 0, none⟩)) (by simp)))
 have HL3 := Lib.hid (fun W (hW : HasC [(⟨b1, 0, none⟩, .pointer (some ⟨jb, 0, none⟩)), (⟨jb, 0, none⟩, .pointer (some ⟨d, 0, none⟩)), (⟨jb, 1, none⟩, .string nm)] W) => run_cell_s W ⟨jb, 1, none⟩ nm (hW (⟨jb, 1, none⟩, .string nm) (by simp)))
 refine anyH_begin (S := HasC [(⟨b1, 0, none⟩, .pointer (some ⟨jb, 0, none⟩)), (⟨jb, 0, none⟩, .pointer (some ⟨d, 0, none⟩)), (⟨jb, 1, none⟩, .string nm)]) (by kernel_rfl) ?_
 rw [← hW1]
 clear hW1
 refine aL 0 (d := 10) (ty := 31) (x := (.tmp 1)) (p := .pointer (some ⟨b1, 0, none⟩)) (.pointer (some ⟨jb, 0, none⟩)) HL1.out HS.out ?_
 simp only [Act.put, sT, sZ, sS]
 refine aP 1 (d := 11) (op := .nilCheck (.tmp 10)) (.pointer (some ⟨jb, 0, none⟩)) HS.out ?_
 simp only [Act.put, sT, sZ, sS]
 refine aP 2 (d := 12) (op := .fieldAddr 88 (.tmp 11) 0) (.pointer (some ⟨jb, 0, none⟩)) HS.out ?_
 simp only [Act.put, sT, sZ, sS]
 refine aL 3 (d := 13) (ty := 25) (x := (.tmp 12)) (p := .pointer (some ⟨jb, 0, none⟩)) (.pointer (some ⟨d, 0, none⟩)) HL2.out HS.out ?_
 simp only [Act.put, sT, sZ, sS]
 refine aL 4 (d := 14) (ty := 31) (x := (.tmp 1)) (p := .pointer (some ⟨b1, 0, none⟩)) (.pointer (some ⟨jb, 0, none⟩)) HL1.out HS.out ?_
 simp only [Act.put, sT, sZ, sS]
 refine aP 5 (d := 15) (op := .nilCheck (.tmp 14)) (.pointer (some ⟨jb, 0, none⟩)) HS.out ?_
 simp only [Act.put, sT, sZ, sS]
 refine aP 6 (d := 16) (op := .fieldAddr 88 (.tmp 15) 1) (.pointer (some ⟨jb, 1, none⟩)) HS.out ?_
 simp only [Act.put, sT, sZ, sS]
 refine aL 7 (d := 17) (ty := 9) (x := (.tmp 16)) (p := .pointer (some ⟨jb, 1, none⟩)) (.string nm) HL3.out HS.out ?_
 simp only [Act.put, sT, sZ, sS]
 refine anyH_callG 8 (d := some 18) (f := 54) (xs := #[(.tmp 13), (.tmp 17), (.const (.int .i64 0)), (.const (.int .i64 67108864))]) (ts := #[25, 9, 3, 3]) (gd := none) (vs := #[.pointer (some ⟨d, 0, none⟩), .string nm, .int .i64 0, .int .i64 67108864]) (by kernel_rfl) (by rfl) wantedP (by go_simp) (by go_simp) (HRD.out) ?_
 rintro e2 w2 ⟨va, vc, rfl, hvc, hvm, hrv, hbd⟩
 have HBD := Lib.hid hbd
 have HRV := Lib.hid hrv
 have HVC := Lib.hid (And.intro hvc hvm)
 have HS2 := Lib.hid (show HasC [(⟨b1, 0, none⟩, .pointer (some ⟨jb, 0, none⟩)), (⟨jb, 0, none⟩, .pointer (some ⟨d, 0, none⟩)), (⟨jb, 1, none⟩, .string nm)] w2 from HS.out.below hbd (by simp [HZ1.out.1, HZ1.out.2.1]))
 clear hbd hrv hvc hvm
 refine ⟨_, rfl, HS2.out, fun hS => ?_⟩
 clear hS
 simp only [Act.put, sT, sZ, sS]
 refine aP 9 (d := 9) (op := .move (.tmp 18)) (.tuple #[.slice va zl vc, .int .i64 0]) HS2.out ?_
 simp only [Act.put, sT, sZ, sS]
 refine aP 10 (d := 19) (op := .extract (.tmp 9) 0) (.slice va zl vc) HS2.out ?_
 simp only [Act.put, sT, sZ, sS]
 refine aP 11 (d := 20) (op := .extract (.tmp 9) 1) (.int .i64 0) HS2.out ?_
 simp only [Act.put, sT, sZ, sS]
 refine aP 12 (d := 4) (op := .assign (.tmp 19)) (.slice va zl vc) HS2.out ?_
 simp only [Act.put, sT, sZ, sS]
 refine aP 13 (d := 5) (op := .assign (.tmp 20)) (.int .i64 0) HS2.out ?_
 simp only [Act.put, sT, sZ, sS]
 refine wpAnyH_done (by kernel_rfl) ?_ _
 clear HL2 HL3 HRD HS2
 have HSC := Lib.hid (scan_c va zl vc z w2 HRV.out HVC.out.1 (by have := HU.out; have := HZL.out; omega) HVC.out.2)
 have HZB := Lib.hid (show ∀ p ∈ (Frm.scanL z).1, ∀ y ∈ p, y < 256 from scan_bytes z.length z (Nat.le_refl _) HRV.out.2.1)
 go_wp2_with fail
 refine HSC.out.mono ?_
 rintro e3 w3 hsc
 obtain ⟨a, n, c, rfl, hrc, how, hnc, hcm, hb3⟩ := scan_rcd hsc B jb (by have := HZ1.out.2.1; have := HBD.out.size; omega) (by have := HXB.out; have := HB1.out.size; have := HBD.out.size; omega)
 rw [← HUS.out]
 have HRC := Lib.hid hrc
 have HNC := Lib.hid (And.intro hnc hcm)
 have HB3 := Lib.hid hb3
 obtain ⟨Y, hY⟩ : ∃ Y : Nat → Prop, Y = fun j => (X j ∨ j = b1) ∨ (w2.heap.size ≤ j ∧ j < w3.heap.size) := ⟨_, rfl⟩
 have hdy : Dx Y B d N A w3 := HD1.out.belowY (HBD.out.trans (hb3.mono HBD.out.size)) (fun j hj => by rw [hY] at hj; exact hj.imp id fun e => Nat.le_trans HBD.out.size e.1) (fun j hj => by
  rw [hY] at hj
  rcases hj with hj | hj
  ·
   exact Nat.lt_of_lt_of_le (HD1.out.lt j hj) (Nat.le_trans HBD.out.size hb3.size)
  ·
   exact hj.2)
 have HJ3 := Lib.hid (show Jn Y B d jb nm 0 N A w3 from ⟨hdy, by rw [hY]; exact .inl (.inl HH.out.xj), HH.out.bj, ((HBD.out.trans (hb3.mono HBD.out.size)).block jb HZ1.out.2.1).trans HJ1.out⟩)
 have y1 : w3.cell? ⟨b1, 0, none⟩ = some (.pointer (some ⟨jb, 0, none⟩)) := ((HBD.out.trans (hb3.mono HBD.out.size)).cell (p := ⟨b1, 0, none⟩) HZ1.out.1).trans (HS.out (⟨b1, 0, none⟩, .pointer (some ⟨jb, 0, none⟩)) (by simp))
 obtain ⟨y2, y3, y4⟩ := HJ3.out.cells
 have y5 := HJ3.out.frozen
 have HYL := Lib.hid (show (∀ j, X j → Y j) ∧ (∀ j, Y j → X j ∨ w.heap.size ≤ j) ∧ (∀ j, w2.heap.size ≤ j ∧ j < w3.heap.size → Y j ∧ w.heap.size ≤ j) from ⟨fun j hj => by rw [hY]; exact .inl (.inl hj), fun j hj => by
  rw [hY] at hj
  rcases hj with (hj | hj) | hj
  ·
   exact .inl hj
  ·
   exact .inr (by rw [hj]; exact HZ1.out.2.2.2)
  ·
   exact .inr (Nat.le_trans (Nat.le_trans HB1.out.size HBD.out.size) hj.1), fun j hj => ⟨by rw [hY]; exact .inr hj, Nat.le_trans (Nat.le_trans HB1.out.size HBD.out.size) hj.1⟩⟩)
 obtain ⟨s1, s2, s3, s4⟩ := HJ3.out.set (us : Int)
 have HW4 := Lib.hid (show Below B w (w3.setCell ⟨jb, 2, none⟩ (.int .i64 (us : Int))) from ((HB1.out.trans ((HBD.out.trans (hb3.mono HBD.out.size)).mono HB1.out.size)).mono HXB.out).trans s4)
 have HK4 := Lib.hid (show ∀ j, X j → j ≠ jb → (w3.setCell ⟨jb, 2, none⟩ (.int .i64 (us : Int))).heap[j]? = w.heap[j]? from fun j hj hn => (s3 j hn).trans ((HB1.out.trans ((HBD.out.trans (hb3.mono HBD.out.size)).mono HB1.out.size)).block j (HH.out.dx.lt j hj)))
 have HRC4 := Lib.hid (show Rcd (fun j => Y j ∧ w.heap.size ≤ j) B (w3.setCell ⟨jb, 2, none⟩ (.int .i64 (us : Int))) a n (Frm.scanL z).1 from (hrc.stay (Nat.le_of_eq s2.symm) fun j hj ho => s3 j fun e => by
  rcases ho with ho | ho
  ·
   have := HH.out.bj; omega
  ·
   have := HZ1.out.2.1; have := HBD.out.size; omega).more HYL.out.2.2)
 have HOW4 := Lib.hid (show OwA Y B jb (w3.setCell ⟨jb, 2, none⟩ (.int .i64 (us : Int))) (.slice a n c) (Frm.scanL z).1 from (how.stay (Nat.le_of_eq s2.symm) fun j hj ho => s3 j fun e => by
  rcases ho with ho | ho
  ·
   have := HH.out.bj; omega
  ·
   exact ho.2 e).more fun j hj => (HYL.out.2.2 j hj).1)
 have HJ4 := Lib.hid s1
 clear hdy hY s1 s2 s3 s4
 clear hrc how hnc hcm hb3 hsc HSC
 have hlt : ((us : Nat) : Int) < ((zl : Nat) : Int) := by have := HU.out; have := HC.out; omega
 have HRW := Lib.hid (jrewrite_c HJ4.out.dx hN HJ4.out.xj (by
  obtain ⟨g1, g2, g3⟩ := HJ4.out.cells
  intro p hp
  simp only [List.mem_cons, List.not_mem_nil, or_false] at hp
  rcases hp with rfl | rfl
  ·
   exact g1
  ·
   exact g2) hn a n c (Frm.scanL z).1 (HRC4.out.more fun j hj => hj.1) (by
   have h1 := Frm.scan_cnt z.length z (Nat.le_refl _)
   have h2 := HRC4.out.ln
   have := HZL.out
   omega) (by
   rw [scan_flat z.length z (Nat.le_refl _), List.length_take]
   have := HZL.out
   omega) HZB.out)
 obtain ⟨r, hr⟩ : ∃ r, A.rw nm (spJ nm) (Frm.flatF (Frm.scanL z).1) = r := ⟨_, rfl⟩
 rw [show nm ++ ⟨#[43]⟩ = spJ nm from rfl, hr] at HRW
 have HRR := Lib.hid hr
 obtain ⟨A', x⟩ := r
 have z1' : (w3.setCell ⟨jb, 2, none⟩ (.int .i64 (us : Int))).cell? ⟨b1, 0, none⟩ = some (.pointer (some ⟨jb, 0, none⟩)) := (World.cell?_of_block (a := ⟨b1, 0, none⟩) (Below.heap_setCell w3 ⟨jb, 2, none⟩ _ b1 HZ1.out.2.2.1)).trans y1
 clear hr
 go_wp2_with fail
 refine HRW.out.mono ?_
 rintro e5 w5 ⟨rfl, g1, g2, g3⟩
 have HE := Lib.hid (show LoadR X B d jb (N + 24) nm w (us : Int) (Frm.scanL z).1 (A.rw nm (spJ nm) (Frm.flatF (Frm.scanL z).1)) (.returned (.tuple #[.slice a n c, .int .i64 x])) w5 from by rw [HRR.out]; exact ⟨Y, a, n, c, rfl, HYL.out.1, HYL.out.2.1, HJ4.out.kp (Y := Y) g1 g3, HRC4.out.stay g2.size (fun j _ hj => hj.elim (fun e => g2.block j e) fun e => g3 j e.1), HOW4.out.stay g2.size (fun j _ hj => hj.elim (fun e => g2.block j e) fun e => g3 j e.1), HNC.out.1, HNC.out.2, HW4.out.trans g2, fun j hj hne => (g3 j (HYL.out.1 j hj)).trans (HK4.out j hj hne)⟩)
 clear g1 g2 g3 HRW z1'
 go_wp2_with fail
 go_ret2
 exact HE.out
set_option maxRecDepth 100000 in
set_option maxHeartbeats 8000000 in
theorem jload_none {X : Nat → Prop} {B d N jb : Nat} {A : Ad} {w : World} {nm : ByteArray} (h : Jn X B d jb nm 0 N A w) (hN : N < 100000000) (hn : nm.size ≤ 1000) (hdn : A.down = false) (hz : lookF A.now nm = none) :
  Calls Tryz.prog 36 #[.pointer (some ⟨jb, 0, none⟩)] w (LoadR X B d jb (N + 24) nm w 0 [] (runA [mkA nm, Ad.sync] A)) := by
 have hj := h.row
 have hjl : jb < w.heap.size := h.dx.lt jb h.xj
 have hnl : nm.size ≤ maxLen := by unfold maxLen; omega
 obtain ⟨b1, hb1⟩ : ∃ b1, b1 = w.heap.size := ⟨_, rfl⟩
 obtain ⟨w1, hw1⟩ : ∃ w1, w1 = w.alloc (.cells #[.pointer (some ⟨jb, 0, none⟩)] 31) := ⟨_, rfl⟩
 have z1 : w1.heap.size = b1 + 1 := by rw [hw1, hb1]; simp
 have q1 : Below w.heap.size w w1 := by rw [hw1]; exact (Below.refl _ _).alloc (Nat.le_refl _) _
 have qd : Below w1.heap.size w1 (World.drew w1) := below_drewN' _ w1 1
 have k1 : w1.heap[b1]? = some (.cells #[.pointer (some ⟨jb, 0, none⟩)] 31 (0, 0)) := by rw [hw1, hb1]; exact heap_alloc_new w _
 have hj1 := (q1.block jb hjl).trans hj
 have hS1 : HasC [(⟨b1, 0, none⟩, .pointer (some ⟨jb, 0, none⟩)), (⟨jb, 0, none⟩, .pointer (some ⟨d, 0, none⟩)), (⟨jb, 1, none⟩, .string nm)] (World.drew w1) := by
  intro p hp
  simp only [List.mem_cons, List.not_mem_nil, or_false] at hp
  rcases hp with rfl | rfl | rfl
  ·
   exact cell_of_row w1 b1 0 _ _ _ k1
  ·
   exact (cell_of_row w1 jb 0 _ _ _ hj1).trans rfl
  ·
   exact (cell_of_row w1 jb 1 _ _ _ hj1).trans rfl
 have hd1 : Dx (fun j => X j ∨ j = b1) B d N A (World.drew w1) := h.dx.belowY (q1.trans (qd.mono q1.size)) (fun j hj => hj.imp id fun e => by omega) (fun j hj => by
  rcases hj with hj | hj
  ·
   exact Nat.lt_of_lt_of_le (h.dx.lt j hj) q1.size
  ·
   show j < w1.heap.size; omega)
 have HD1 := Lib.hid hd1
 have HJ1 := Lib.hid (show (World.drew w1).heap[jb]? = some (.cells #[.pointer (some ⟨d, 0, none⟩), .string nm, .int .i64 0] 88 (0, 0)) from hj1)
 have HB1 := Lib.hid (show Below w.heap.size w (World.drew w1) from q1.trans (qd.mono q1.size))
 have HZ1 := Lib.hid (show b1 < (World.drew w1).heap.size ∧ jb < (World.drew w1).heap.size ∧ b1 ≠ jb ∧ w.heap.size ≤ b1 from ⟨by show b1 < w1.heap.size; omega, by show jb < w1.heap.size; omega, by omega, by omega⟩)
 have HH := Lib.hid h
 have HS := Lib.hid hS1
 have HXB := Lib.hid (show B ≤ w.heap.size from Nat.le_of_lt (Nat.lt_of_le_of_lt h.dx.base.1 h.dx.base.2))
 have HRD := Lib.hid (show Calls Tryz.prog 54 #[.pointer (some ⟨d, 0, none⟩), .string nm, .int .i64 0, .int .i64 67108864] (World.drew w1) fun e w' => e = .returned (.tuple #[.slice none 0 0, .int .i64 6]) ∧ w' = World.drew w1 from by
  obtain ⟨S, k1, k2, -⟩ := hd1.ex
  have := aread k1 k2 nm hnl 0 67108864
  unfold RdA at this
  rw [hdn, hz] at this
  simpa using this)
 obtain ⟨W1, hW1⟩ : ∃ W1, W1 = World.drew w1 := ⟨_, rfl⟩
 rw [← hW1] at HRD HS HZ1 HB1 HJ1 HD1
 have q9 : Below W1.heap.size W1 (W1.alloc (.cells #[.func (.func 82) #[] #[.pointer (some ⟨b1, 0, none⟩)], .func (.func 47) #[.pointer (some ⟨d, 0, none⟩)] #[]] 44)) := (Below.refl _ _).alloc (Nat.le_refl _) _
 have hin : Calls Tryz.prog 83 #[.slice (some ⟨W1.heap.size, 0, none⟩) 2 2] (W1.alloc (.cells #[.func (.func 82) #[] #[.pointer (some ⟨b1, 0, none⟩)], .func (.func 47) #[.pointer (some ⟨d, 0, none⟩)] #[]] 44)) (DxR (fun j => (X j ∨ j = b1) ∨ j = W1.heap.size) B d (N + 3 * 2) (W1.alloc (.cells #[.func (.func 82) #[] #[.pointer (some ⟨b1, 0, none⟩)], .func (.func 47) #[.pointer (some ⟨d, 0, none⟩)] #[]] 44)) (runA [mkA nm, Ad.sync] A)) := by
  have k9 : (W1.alloc (.cells #[.func (.func 82) #[] #[.pointer (some ⟨b1, 0, none⟩)], .func (.func 47) #[.pointer (some ⟨d, 0, none⟩)] #[]] 44)).heap[W1.heap.size]? = some (.cells #[.func (.func 82) #[] #[.pointer (some ⟨b1, 0, none⟩)], .func (.func 47) #[.pointer (some ⟨d, 0, none⟩)] #[]] 44 (0, 0)) := heap_alloc_new W1 _
  have hd9 : Dx (fun j => (X j ∨ j = b1) ∨ j = W1.heap.size) B d N A (W1.alloc (.cells #[.func (.func 82) #[] #[.pointer (some ⟨b1, 0, none⟩)], .func (.func 47) #[.pointer (some ⟨d, 0, none⟩)] #[]] 44)) := HD1.out.belowY q9 (fun j hj => hj.imp id fun e => by omega) (fun j hj => hj.elim (fun e => Nat.lt_of_lt_of_le (HD1.out.lt j e) q9.size) fun e => by rw [e]; simp)
  have hL9 : HasC [(⟨b1, 0, none⟩, .pointer (some ⟨jb, 0, none⟩)), (⟨jb, 0, none⟩, .pointer (some ⟨d, 0, none⟩)), (⟨jb, 1, none⟩, .string nm)] (W1.alloc (.cells #[.func (.func 82) #[] #[.pointer (some ⟨b1, 0, none⟩)], .func (.func 47) #[.pointer (some ⟨d, 0, none⟩)] #[]] 44)) := HS.out.below q9 (by simp [HZ1.out.1, HZ1.out.2.1])
  refine jorder_ad hd9 W1.heap.size 2 (fun i => match i with | 0 => ⟨82, #[], #[.pointer (some ⟨b1, 0, none⟩)]⟩ | _ => ⟨47, #[.pointer (some ⟨d, 0, none⟩)], #[]⟩) [mkA nm, Ad.sync] rfl (by omega) (.inr rfl) (fun i hi => by
   rw [cell_of_row _ _ i _ _ _ k9]
   match i, hi with
   | 0, _ => rfl
   | 1, _ => rfl) (fun i hi => by
   match i, hi with
   | 0, _ => exact enters_of Tryz.func82 (by kernel_rfl) rfl
   | 1, _ => exact enters_of Tryz.func47 (by kernel_rfl) rfl) (fun i f hf A1 W g4 g5 g6 => by
   have yL : HasC [(⟨b1, 0, none⟩, .pointer (some ⟨jb, 0, none⟩)), (⟨jb, 0, none⟩, .pointer (some ⟨d, 0, none⟩)), (⟨jb, 1, none⟩, .string nm)] W := hL9.kp g6 (by simp [HH.out.xj])
   have hi : i < 2 := (List.getElem?_eq_some_iff.1 hf).1
   match i, hi, hf with
   | 0, _, hf => cases hf; exact jcr_c (b2 := b1) (jb := jb) g4 (by omega) nm hnl yL (by simp [HH.out.xj])
   | 1, _, hf => cases hf; exact g4.sync)
 obtain ⟨r, hr⟩ : ∃ r, runA [mkA nm, Ad.sync] A = r := ⟨_, rfl⟩
 rw [hr] at hin
 have HRR := Lib.hid hr
 obtain ⟨A', x⟩ := r
 have HIN := Lib.hid hin
 have HQ9 := Lib.hid q9
 have hmf : ∀ (fn : Fn) (first cap : Array Value) (w : World), (Instr.makeFunc fn first cap).run Tryz.prog w = .ok (.func fn first cap) w := fun _ _ _ _ => rfl
 have y1 : W1.cell? ⟨b1, 0, none⟩ = some (.pointer (some ⟨jb, 0, none⟩)) := HS.out (⟨b1, 0, none⟩, .pointer (some ⟨jb, 0, none⟩)) (by simp)
 have y2 : W1.cell? ⟨jb, 0, none⟩ = some (.pointer (some ⟨d, 0, none⟩)) := HS.out (⟨jb, 0, none⟩, .pointer (some ⟨d, 0, none⟩)) (by simp)
 clear hin q9 hr hdn hz
 clear h hj hjl hnl z1 q1 qd k1 hj1 hS1 hd1
 go_enter Tryz.func36, Tryz.ntmps36
 go_upto_region 1 with fail
 rw [← hb1, ← hw1]
 clear hw1 hb1
 have HL1 := Lib.hid (fun W (hW : HasC [(⟨b1, 0, none⟩, .pointer (some ⟨jb, 0, none⟩)), (⟨jb, 0, none⟩, .pointer (some ⟨d, 0, none⟩)), (⟨jb, 1, none⟩, .string nm)] W) => run_cell_jn W ⟨b1, 0, none⟩ _ (hW (⟨b1, 0, none⟩, .pointer (some ⟨jb, 0, none⟩)) (by simp)))
 have HL2 := Lib.hid (fun W (hW : HasC [(⟨b1, 0, none⟩, .pointer (some ⟨jb, 0, none⟩)), (⟨jb, 0, none⟩, .pointer (some ⟨d, 0, none⟩)), (⟨jb, 1, none⟩, .string nm)] W) => run_cell_disk W ⟨jb, 0, none⟩ _ (hW (⟨jb, 0, none⟩, .pointer (some ⟨d, 0, none⟩)) (by simp)))
 have HL3 := Lib.hid (fun W (hW : HasC [(⟨b1, 0, none⟩, .pointer (some ⟨jb, 0, none⟩)), (⟨jb, 0, none⟩, .pointer (some ⟨d, 0, none⟩)), (⟨jb, 1, none⟩, .string nm)] W) => run_cell_s W ⟨jb, 1, none⟩ nm (hW (⟨jb, 1, none⟩, .string nm) (by simp)))
 refine anyH_begin (S := HasC [(⟨b1, 0, none⟩, .pointer (some ⟨jb, 0, none⟩)), (⟨jb, 0, none⟩, .pointer (some ⟨d, 0, none⟩)), (⟨jb, 1, none⟩, .string nm)]) (by kernel_rfl) ?_
 rw [← hW1]
 clear hW1
 refine aL 0 (d := 10) (ty := 31) (x := (.tmp 1)) (p := .pointer (some ⟨b1, 0, none⟩)) (.pointer (some ⟨jb, 0, none⟩)) HL1.out HS.out ?_
 simp only [Act.put, sT, sZ, sS]
 refine aP 1 (d := 11) (op := .nilCheck (.tmp 10)) (.pointer (some ⟨jb, 0, none⟩)) HS.out ?_
 simp only [Act.put, sT, sZ, sS]
 refine aP 2 (d := 12) (op := .fieldAddr 88 (.tmp 11) 0) (.pointer (some ⟨jb, 0, none⟩)) HS.out ?_
 simp only [Act.put, sT, sZ, sS]
 refine aL 3 (d := 13) (ty := 25) (x := (.tmp 12)) (p := .pointer (some ⟨jb, 0, none⟩)) (.pointer (some ⟨d, 0, none⟩)) HL2.out HS.out ?_
 simp only [Act.put, sT, sZ, sS]
 refine aL 4 (d := 14) (ty := 31) (x := (.tmp 1)) (p := .pointer (some ⟨b1, 0, none⟩)) (.pointer (some ⟨jb, 0, none⟩)) HL1.out HS.out ?_
 simp only [Act.put, sT, sZ, sS]
 refine aP 5 (d := 15) (op := .nilCheck (.tmp 14)) (.pointer (some ⟨jb, 0, none⟩)) HS.out ?_
 simp only [Act.put, sT, sZ, sS]
 refine aP 6 (d := 16) (op := .fieldAddr 88 (.tmp 15) 1) (.pointer (some ⟨jb, 1, none⟩)) HS.out ?_
 simp only [Act.put, sT, sZ, sS]
 refine aL 7 (d := 17) (ty := 9) (x := (.tmp 16)) (p := .pointer (some ⟨jb, 1, none⟩)) (.string nm) HL3.out HS.out ?_
 simp only [Act.put, sT, sZ, sS]
 refine anyH_callG 8 (d := some 18) (f := 54) (xs := #[(.tmp 13), (.tmp 17), (.const (.int .i64 0)), (.const (.int .i64 67108864))]) (ts := #[25, 9, 3, 3]) (gd := none) (vs := #[.pointer (some ⟨d, 0, none⟩), .string nm, .int .i64 0, .int .i64 67108864]) (by kernel_rfl) (by rfl) wantedP (by go_simp) (by go_simp) (HRD.out) ?_
 rintro e2 w2 ⟨rfl, rfl⟩
 have HS2 := HS
 refine ⟨_, rfl, HS2.out, fun hS => ?_⟩
 clear hS
 simp only [Act.put, sT, sZ, sS]
 refine aP 9 (d := 9) (op := .move (.tmp 18)) (.tuple #[.slice none 0 0, .int .i64 6]) HS2.out ?_
 simp only [Act.put, sT, sZ, sS]
 refine aP 10 (d := 19) (op := .extract (.tmp 9) 0) (.slice none 0 0) HS2.out ?_
 simp only [Act.put, sT, sZ, sS]
 refine aP 11 (d := 20) (op := .extract (.tmp 9) 1) (.int .i64 6) HS2.out ?_
 simp only [Act.put, sT, sZ, sS]
 refine aP 12 (d := 4) (op := .assign (.tmp 19)) (.slice none 0 0) HS2.out ?_
 simp only [Act.put, sT, sZ, sS]
 refine aP 13 (d := 5) (op := .assign (.tmp 20)) (.int .i64 6) HS2.out ?_
 simp only [Act.put, sT, sZ, sS]
 refine wpAnyH_done (by kernel_rfl) ?_ _
 clear HL2 HL3 HRD HS2
 go_wp2_with fail
 refine HIN.out.mono ?_
 rintro e5 w5 ⟨rfl, g1, g2, g3⟩
 have HE := Lib.hid (show LoadR X B d jb (N + 24) nm w 0 [] (runA [mkA nm, Ad.sync] A) (.returned (.tuple #[.slice none 0 0, .int .i64 x])) w5 from by
  rw [HRR.out]
  have hb5 : Below B w w5 := ((HB1.out.trans (HQ9.out.mono HB1.out.size)).mono HXB.out).trans g2
  refine ⟨_, none, 0, 0, rfl, fun j hj => .inl (.inl hj), fun j hj => ?_, ⟨g1.mono (by omega), .inl (.inl HH.out.xj), HH.out.bj, (g3 jb (.inl (.inl HH.out.xj))).trans ((HQ9.out.block jb HZ1.out.2.1).trans HJ1.out)⟩, ⟨rfl, fun k p hp => by simp at hp⟩, OwA.nil _ _ _ _, Nat.le_refl _, by omega, hb5, fun j hj _ => (g3 j (.inl (.inl hj))).trans ((HB1.out.trans (HQ9.out.mono HB1.out.size)).block j (HH.out.dx.lt j hj))⟩
  rcases hj with (hj | hj) | hj
  ·
   exact .inl hj
  ·
   exact .inr (by rw [hj]; exact HZ1.out.2.2.2)
  ·
   exact .inr (by rw [hj]; exact HB1.out.size))
 clear g1 g2 g3 HIN hmf y1 y2
 go_wp2_with fail
 go_ret2
 exact HE.out
theorem jload_c {X : Nat → Prop} {B d N jb : Nat} {A : Ad} {w : World} {nm : ByteArray} (h : Jn X B d jb nm 0 N A w) (hN : N < 100000000) (hn : nm.size ≤ 1000) (hzl : ∀ z, lookF A.now nm = some z → z.length < 1048576) :
  Calls Tryz.prog 36 #[.pointer (some ⟨jb, 0, none⟩)] w (LoadR X B d jb (N + 24) nm w (usedA A nm : Nat) (recsA A nm) (A.load nm)) := by
 unfold usedA recsA Ad.load
 cases hdn : A.down with
 | true =>
  simp only [if_true]
  refine (jload_down h hN hn hdn).mono ?_
  rintro e w' ⟨Y, a, n, c, h1, h2, h3, h4, h5⟩
  exact ⟨Y, a, n, c, h1, h2, h3, ⟨h4.dx.mono (by omega), h4.xj, h4.bj, h4.row⟩, h5⟩
 | false =>
  simp only [Bool.false_eq_true, if_false]
  cases hz : lookF A.now nm with
  | none => exact jload_none h hN hn hdn hz
  | some z =>
   simp only
   by_cases hc : (Frm.scanL z).2 < z.length
   ·
    rw [if_pos hc]; exact jload_cut h hN hn hdn z hz (hzl z hz) hc
   ·
    rw [if_neg hc]; exact jload_whole h hN hn hdn z hz (hzl z hz) hc
end Go.Proofs.YtihbgigledmliaaGreat

namespace Go.Proofs.YtihbgigledmliaaGreat
open Go.RowKit
set_option linter.unusedVariables false
/-- what Open leaves -/
def OpenR (X : Nat → Prop) (B d N : Nat) (nm : ByteArray) (w : World) (sz : Int) (rs : List (List Nat)) (r : Ad × Int) (e : Ending) (w' : World) : Prop :=
 ∃ (Y : Nat → Prop) (jb : Nat) (a : Option Addr) (n c : Nat), ((r.2 = 0 ∧ e = .returned (.tuple #[.pointer (some ⟨jb, 0, none⟩), .slice a n c, .int .i64 0])) ∨ (r.2 ≠ 0 ∧ e = .returned (.tuple #[.pointer none, .slice none 0 0, .int .i64 r.2]))) ∧ (∀ j, X j → Y j) ∧ (∀ j, Y j → X j ∨ w.heap.size ≤ j) ∧ Jn Y B d jb nm sz N r.1 w' ∧ Rcd (fun j => Y j ∧ w.heap.size ≤ j) B w' a n rs ∧ OwA Y B jb w' (.slice a n c) rs ∧ n ≤ c ∧ c ≤ 9223372036854775807 ∧ w.heap.size ≤ jb ∧ Below B w w' ∧ KpD X w w'
set_option maxRecDepth 100000 in
set_option maxHeartbeats 8000000 in
theorem jopen_c {X : Nat → Prop} {B d N : Nat} {A : Ad} {w : World} (h : Dx X B d N A w) (hN : N < 100000000) (nm : ByteArray) (h1 : 1 ≤ nm.size) (h2 : nm.size ≤ 159) (hzl : ∀ z, lookF A.now nm = some z → z.length < 1048576) :
  Calls Tryz.prog 8 #[.pointer (some ⟨d, 0, none⟩), .string nm] w (OpenR X B d (N + 24) nm w (usedA A nm : Nat) (recsA A nm) (A.load nm)) := by
 have hss : (nm ++ ⟨#[43]⟩ : ByteArray).size = nm.size + 1 := by rw [ByteArray.size_append]; rfl
 have HI1 := Lib.hid (fun W => isname_c nm W (by unfold maxLen; omega))
 rw [show (decide (1 ≤ nm.size) && decide (nm.size ≤ 160)) = true from by simp; omega] at HI1
 have HI2 := Lib.hid (fun W => isname_c (nm ++ ⟨#[43]⟩) W (by unfold maxLen; omega))
 rw [show (decide (1 ≤ (nm ++ ⟨#[43]⟩ : ByteArray).size) && decide ((nm ++ ⟨#[43]⟩ : ByteArray).size ≤ 160)) = true from by rw [hss]; simp; omega] at HI2
 have HCL := Lib.hid (fun W => clone_c nm W (by unfold maxLen; omega) (by omega))
 have hadd : ¬ 9223372036854775807 < nm.size + 1 := by omega
 have HH := Lib.hid h
 have HLD := Lib.hid (fun (Y : Nat → Prop) (jb : Nat) (W : World) (hj : Jn Y B d jb nm 0 N A W) => jload_c hj hN (by omega) hzl)
 obtain ⟨us, hus⟩ : ∃ us, us = usedA A nm := ⟨_, rfl⟩
 obtain ⟨rs, hrs⟩ : ∃ rs, rs = recsA A nm := ⟨_, rfl⟩
 obtain ⟨r, hr⟩ : ∃ r, r = A.load nm := ⟨_, rfl⟩
 rw [← hus, ← hrs, ← hr] at HLD ⊢
 have HXB := Lib.hid (show B ≤ w.heap.size from Nat.le_of_lt (Nat.lt_of_le_of_lt h.base.1 h.base.2))
 clear h hzl hss hus hrs hr h1 h2
 go_enter Tryz.func8, Tryz.ntmps8
 go_wp2_with fail
 refine (HI1.out _).mono ?_
 rintro e1 w1 ⟨rfl, rfl⟩
 go_wp2_with fail
 refine (HI2.out _).mono ?_
 rintro e2 w2 ⟨rfl, rfl⟩
 go_wp2_with fail
 refine (HCL.out _).mono ?_
 rintro e3 w3 ⟨rfl, hb3⟩
 obtain ⟨jb, hjb⟩ : ∃ jb, jb = w3.heap.size := ⟨_, rfl⟩
 obtain ⟨w4, hw4⟩ : ∃ w4, w4 = w3.alloc (.cells #[.pointer (some ⟨d, 0, none⟩), .string nm, .int .i64 0] 88) := ⟨_, rfl⟩
 have q4 : Below w3.heap.size w3 w4 := by rw [hw4]; exact (Below.refl _ _).alloc (Nat.le_refl _) _
 have z4 : w4.heap.size = jb + 1 := by rw [hw4, hjb]; simp
 have hb4 := hb3.trans (q4.mono hb3.size)
 have hsz3 := hb3.size
 have HJ := Lib.hid (show Jn (fun j => X j ∨ j = jb) B d jb nm 0 N A w4 from ⟨HH.out.belowY hb4 (fun j hj => hj.imp id fun e => by omega) (fun j hj => by
  rcases hj with hj | hj
  ·
   exact Nat.lt_of_lt_of_le (HH.out.lt j hj) hb4.size
  ·
   omega), .inr rfl, by have := HXB.out; omega, by rw [hw4, hjb]; exact heap_alloc_new w3 _⟩)
 have HB4 := Lib.hid hb4
 have HJL := Lib.hid (show w2.heap.size ≤ jb from by omega)
 have HL := Lib.hid (HLD.out _ _ _ HJ.out)
 clear hb3 hb4 q4 z4 HLD HI1 HI2 HCL hsz3
 go_wp2_with fail
 rw [← hjb, ← hw4]
 clear hjb hw4 hadd
 refine HL.out.mono ?_
 rintro e5 w5 ⟨Y, a, n, c, rfl, y1, y2, y3, y4, y0, y5, y6, y7, y8⟩
 have HE := Lib.hid (show (∀ j, X j → Y j) ∧ (∀ j, Y j → X j ∨ w2.heap.size ≤ j) ∧ Jn Y B d jb nm (us : Int) (N + 24) r.1 w5 ∧ Rcd (fun j => Y j ∧ w2.heap.size ≤ j) B w5 a n rs ∧ OwA Y B jb w5 (.slice a n c) rs ∧ n ≤ c ∧ c ≤ 9223372036854775807 ∧ w2.heap.size ≤ jb ∧ Below B w2 w5 ∧ KpD X w2 w5 from ⟨fun j hj => y1 j (.inl hj), fun j hj => by
  rcases y2 j hj with (e | e) | e
  ·
   exact .inl e
  ·
   exact .inr (by rw [e]; exact HJL.out)
  ·
   exact .inr (Nat.le_trans HB4.out.size e), y3, y4.more fun j hj => ⟨hj.1, Nat.le_trans HB4.out.size hj.2⟩, y0, y5, y6, HJL.out, (HB4.out.mono HXB.out).trans y7, fun j hj => (y8 j (.inl hj) fun e => by have := HH.out.lt j hj; have := HJL.out; omega).trans (HB4.out.block j (HH.out.lt j hj))⟩)
 clear y0 y1 y2 y3 y4 y5 y6 y7 y8 HL HJ HB4
 obtain ⟨A', x⟩ := r
 by_cases h0 : x = 0
 ·
  subst h0
  have HF := Lib.hid (show OpenR X B d (N + 24) nm w2 (us : Int) rs (A', 0) (.returned (.tuple #[.pointer (some ⟨jb, 0, none⟩), .slice a n c, .int .i64 0])) w5 from ⟨Y, jb, a, n, c, .inl ⟨rfl, rfl⟩, HE.out⟩)
  go_wp2_with fail
  go_ret3
  exact HF.out
 ·
  have hx0 : (x != 0) = true := by simp [h0]
  have HF := Lib.hid (show OpenR X B d (N + 24) nm w2 (us : Int) rs (A', x) (.returned (.tuple #[.pointer none, .slice none 0 0, .int .i64 x])) w5 from ⟨Y, jb, a, n, c, .inr ⟨h0, rfl⟩, HE.out⟩)
  go_wp2_with fail
  go_ret3
  exact HF.out
set_option maxRecDepth 100000 in
set_option maxHeartbeats 8000000 in
theorem jsync_c {X : Nat → Prop} {B d jb N : Nat} {nm : ByteArray} {sz : Int} {A : Ad} {w : World} (h : Jn X B d jb nm sz N A w) :
  Calls Tryz.prog 13 #[.pointer (some ⟨jb, 0, none⟩)] w fun e w' => e = .returned (.int .i64 A.sync.2) ∧ Jn X B d jb nm sz (N + 3) A.sync.1 w' ∧ Below B w w' ∧ KpD X w w' := by
 obtain ⟨y1, y2, y3⟩ := h.cells
 have HC := Lib.hid (h.dx.sync)
 have HH := Lib.hid h
 obtain ⟨r, hr⟩ : ∃ r, A.sync = r := ⟨_, rfl⟩
 rw [hr] at HC ⊢
 clear h hr
 go_enter Tryz.func13, Tryz.ntmps13
 go_wp2_with fail
 refine HC.out.mono ?_
 rintro e1 w1 ⟨rfl, g1, g2, g3⟩
 have HE := Lib.hid (And.intro (HH.out.kp g1 g3 (Y := X)) (And.intro g2 g3))
 clear g1 g2 g3 HC y1 y2 y3
 go_wp2_with fail
 go_ret
 exact ⟨rfl, HE.out⟩
/-- what Append leaves -/
def AppR (X : Nat → Prop) (B d jb N : Nat) (nm : ByteArray) (w : World) (sz len : Nat) (r : Ad × Int) (e : Ending) (w' : World) : Prop :=
 e = .returned (.int .i64 r.2) ∧ Jn X B d jb nm ((if r.2 = 0 then sz + (8 + len) else sz : Nat) : Int) N r.1 w' ∧ Below B w w' ∧ ∀ j, X j → j ≠ jb → w'.heap[j]? = w.heap[j]?
set_option maxRecDepth 100000 in
set_option maxHeartbeats 8000000 in
theorem jappend_c {X : Nat → Prop} {B d jb N sz : Nat} {nm : ByteArray} {A : Ad} {w : World} (h : Jn X B d jb nm (sz : Int) N A w) (hN : N < 100000000) (hn : nm.size ≤ 1000) (hsz : sz ≤ 1000000000000) (pa : Option Addr) (pn pc : Nat) (p : List Nat) (hr : Rd w pa pn p) (hnil : pa = none → pc = 0) (hpn : pn ≤ 1048568) :
  Calls Tryz.prog 11 #[.pointer (some ⟨jb, 0, none⟩), .slice pa pn pc] w (AppR X B d jb (N + 3) nm w sz pn (A.step ⟨1, nm, ⟨#[]⟩, Frm.frameL p⟩)) := by
 have hpl := hr.1
 have hfit : (pn : Int) ≤ 1048568 := by omega
 have hfd : decide ((pn : Int) ≤ 1048568) = true := decide_eq_true hfit
 have HFR := Lib.hid ((frame_c pa pn pc p w hr hnil (by omega)).mono (RetB.form (Frm.frame_byte p hr.2.1)))
 have HH := Lib.hid h
 have HFI := Lib.hid (show Calls Tryz.prog 42 #[.slice pa pn pc] w fun e w' => e = .returned (.bool true) ∧ w' = w from by
  clear HFR HH h hr hnil hpn hpl
  go_enter Tryz.func42, Tryz.ntmps42
  go_wp2_with fail
  go_ret
  exact ⟨rfl, rfl⟩)
 have hnl : nm.size ≤ maxLen := by unfold maxLen; omega
 have HPL := Lib.hid hpl
 have HNL := Lib.hid hnl
 have HXB := Lib.hid (show B ≤ w.heap.size from Nat.le_of_lt (Nat.lt_of_le_of_lt h.dx.base.1 h.dx.base.2))
 have HPN := Lib.hid hpn
 clear h hr hnil hpn hpl hfit hfd hnl
 go_enter Tryz.func11, Tryz.ntmps11
 go_wp2_with fail
 refine HFI.out.mono ?_
 rintro e1 w1 ⟨rfl, rfl⟩
 go_wp2_with fail
 refine HFR.out.mono ?_
 rintro e3 w3 ⟨a3, L3, c3, rfl, hl3, hlc3, hcm3, hn3, hr3, ho3, hb3⟩
 have hbd : Below w3.heap.size w3 (World.drew w3) := below_drewN' _ w3 1
 have hb4 := hb3.trans (hbd.mono hb3.size)
 have HJ := Lib.hid (HH.out.below hb4)
 have hd4 : Dx (fun j => X j ∨ ∃ o s, a3 = some ⟨j, o, s⟩) B d N A (World.drew w3) := HH.out.dx.belowY hb4 (fun j hj => hj.imp id fun ⟨o, s, e⟩ => (own_blk ho3 j o s e).1) (fun j hj => hj.elim (fun e => Nat.lt_of_lt_of_le (HH.out.dx.lt j e) hb4.size) fun ⟨o, s, e⟩ => (own_blk ho3 j o s e).2)
 have HC := Lib.hid (hd4.append nm HNL.out a3 L3 c3 (Frm.frameL p) (hr3.below hbd) (fun b o sp e _ => .inr (.inr ⟨o, sp, e⟩)) hn3 (by omega))
 have HL3 := Lib.hid (show L3 = 8 + pn from by rw [← hl3, Frm.frame_len, HPL.out])
 have HB4 := Lib.hid hb4
 obtain ⟨r, hrr⟩ : ∃ r, A.step ⟨1, nm, ⟨#[]⟩, Frm.frameL p⟩ = r := ⟨_, rfl⟩
 rw [hrr] at HC
 have HRR := Lib.hid hrr
 obtain ⟨A', x⟩ := r
 clear hl3 hlc3 hcm3 hn3 hr3 ho3 hb3 hbd hb4 hd4 HFR HFI hrr
 go_upto_region 6 with fail
 have HS := Lib.hid (show HasC [(⟨jb, 0, none⟩, .pointer (some ⟨d, 0, none⟩)), (⟨jb, 1, none⟩, .string nm)] (World.drew w3) from by
  obtain ⟨g1, g2, g3⟩ := HJ.out.cells
  intro p hp
  simp only [List.mem_cons, List.not_mem_nil, or_false] at hp
  rcases hp with rfl | rfl
  ·
   exact g1
  ·
   exact g2)
 have HL1 := Lib.hid (fun W (hW : HasC [(⟨jb, 0, none⟩, .pointer (some ⟨d, 0, none⟩)), (⟨jb, 1, none⟩, .string nm)] W) => run_cell_disk W ⟨jb, 0, none⟩ _ (hW (⟨jb, 0, none⟩, .pointer (some ⟨d, 0, none⟩)) (by simp)))
 have HL2 := Lib.hid (fun W (hW : HasC [(⟨jb, 0, none⟩, .pointer (some ⟨d, 0, none⟩)), (⟨jb, 1, none⟩, .string nm)] W) => run_cell_s W ⟨jb, 1, none⟩ nm (hW (⟨jb, 1, none⟩, .string nm) (by simp)))
 refine anyH_begin (S := HasC [(⟨jb, 0, none⟩, .pointer (some ⟨d, 0, none⟩)), (⟨jb, 1, none⟩, .string nm)]) (by kernel_rfl) ?_
 refine aP 0 (d := 16) (op := .move (.tmp 0)) (.pointer (some ⟨jb, 0, none⟩)) HS.out ?_
 simp only [Act.put, sT, sZ, sS]
 refine aP 1 (d := 17) (op := .nilCheck (.tmp 16)) (.pointer (some ⟨jb, 0, none⟩)) HS.out ?_
 simp only [Act.put, sT, sZ, sS]
 refine aP 2 (d := 18) (op := .fieldAddr 88 (.tmp 17) 0) (.pointer (some ⟨jb, 0, none⟩)) HS.out ?_
 simp only [Act.put, sT, sZ, sS]
 refine aL 3 (d := 19) (ty := 25) (x := (.tmp 18)) (p := .pointer (some ⟨jb, 0, none⟩)) (.pointer (some ⟨d, 0, none⟩)) HL1.out HS.out ?_
 simp only [Act.put, sT, sZ, sS]
 refine aP 4 (d := 20) (op := .move (.tmp 0)) (.pointer (some ⟨jb, 0, none⟩)) HS.out ?_
 simp only [Act.put, sT, sZ, sS]
 refine aP 5 (d := 21) (op := .nilCheck (.tmp 20)) (.pointer (some ⟨jb, 0, none⟩)) HS.out ?_
 simp only [Act.put, sT, sZ, sS]
 refine aP 6 (d := 22) (op := .fieldAddr 88 (.tmp 21) 1) (.pointer (some ⟨jb, 1, none⟩)) HS.out ?_
 simp only [Act.put, sT, sZ, sS]
 refine aL 7 (d := 23) (ty := 9) (x := (.tmp 22)) (p := .pointer (some ⟨jb, 1, none⟩)) (.string nm) HL2.out HS.out ?_
 simp only [Act.put, sT, sZ, sS]
 refine aP 8 (d := 24) (op := .move (.tmp 5)) (.slice a3 L3 c3) HS.out ?_
 simp only [Act.put, sT, sZ, sS]
 refine anyH_callG 9 (d := some 25) (f := 44) (xs := #[(.tmp 19), (.tmp 23), (.tmp 24)]) (ts := #[25, 9, 38]) (gd := none) (vs := #[.pointer (some ⟨d, 0, none⟩), .string nm, .slice a3 L3 c3]) (by kernel_rfl) (by rfl) wantedP (by go_simp) (by go_simp) (HC.out) ?_
 rintro e5 w5 ⟨rfl, g1, g2, g3⟩
 have HS5 := Lib.hid (show HasC [(⟨jb, 0, none⟩, .pointer (some ⟨d, 0, none⟩)), (⟨jb, 1, none⟩, .string nm)] w5 from HS.out.kp g3 (by simp [HH.out.xj]))
 have HG := Lib.hid (And.intro g1 (And.intro g2 g3))
 clear g1 g2 g3
 refine ⟨_, rfl, HS5.out, fun hS => ?_⟩
 clear hS
 simp only [Act.put, sT, sZ, sS]
 refine aP 10 (d := 6) (op := .assign (.tmp 25)) (.int .i64 x) HS5.out ?_
 simp only [Act.put, sT, sZ, sS]
 refine wpAnyH_done (by kernel_rfl) ?_ _
 clear HL1 HL2 HS HS5 HC
 obtain ⟨g1, g2, g3⟩ := HG.out
 have hj5 : Jn X B d jb nm (sz : Int) (N + 3) A' w5 := ⟨g1.less fun j hj => .inl hj, HH.out.xj, HH.out.bj, (g3 jb (.inl HH.out.xj)).trans HJ.out.row⟩
 have HJ5 := Lib.hid hj5
 have hb5 : Below B w1 w5 := (HB4.out.mono HXB.out).trans g2
 have HB5 := Lib.hid hb5
 have HK5 := Lib.hid (show ∀ j, X j → w5.heap[j]? = w1.heap[j]? from fun j hj => (g3 j (.inl hj)).trans (HB4.out.block j (HH.out.dx.lt j hj)))
 clear g1 g2 g3 hj5 hb5 HG
 by_cases h0 : x = 0
 ·
  subst h0
  obtain ⟨z1, z2, z3⟩ := HJ5.out.cells
  have z4 := HJ5.out.frozen
  have hw : wrap64 ((sz : Int) + (L3 : Int)) = ((sz + (8 + pn) : Nat) : Int) := by have := HL3.out; have := HPN.out; rw [wrap64_id (by omega) (by omega)]; omega
  have HE := Lib.hid (show AppR X B d jb (N + 3) nm w1 sz pn (A.step ⟨1, nm, ⟨#[]⟩, Frm.frameL p⟩) (.returned (.int .i64 0)) (w5.setCell ⟨jb, 2, none⟩ (.int .i64 (wrap64 ((sz : Int) + (L3 : Int))))) from by
   rw [HRR.out, hw]
   obtain ⟨s1, s2, s3, s4⟩ := HJ5.out.set ((sz + (8 + pn) : Nat) : Int)
   refine ⟨rfl, ?_, HB5.out.trans s4, fun j hj hne => (s3 j hne).trans (HK5.out j hj)⟩
   rw [if_pos rfl]
   exact s1)
  clear hw
  go_wp2_with fail
  go_ret
  exact HE.out
 ·
  have hx0 : (x != 0) = true := by simp [h0]
  have HE := Lib.hid (show AppR X B d jb (N + 3) nm w1 sz pn (A.step ⟨1, nm, ⟨#[]⟩, Frm.frameL p⟩) (.returned (.int .i64 x)) w5 from by
   rw [HRR.out]
   refine ⟨rfl, ?_, HB5.out, fun j hj _ => HK5.out j hj⟩
   rw [if_neg h0]
   exact HJ5.out)
  go_wp2_with fail
  go_ret
  exact HE.out
/-- what Rewrite leaves -/
def RwR (X : Nat → Prop) (B d jb N : Nat) (nm : ByteArray) (w : World) (sz : Int) (len : Nat) (r : Ad × Int) (e : Ending) (w' : World) : Prop :=
 e = .returned (.int .i64 r.2) ∧ Jn X B d jb nm (if r.2 = 0 then (len : Int) else sz) N r.1 w' ∧ Below B w w' ∧ ∀ j, X j → j ≠ jb → w'.heap[j]? = w.heap[j]?
set_option maxRecDepth 100000 in
set_option maxHeartbeats 8000000 in
theorem jRewrite_c {X : Nat → Prop} {B d jb N : Nat} {sz : Int} {nm : ByteArray} {A : Ad} {w : World} (h : Jn X B d jb nm sz N A w) (hN : N < 100000000) (hn : nm.size ≤ 1000) (ra : Option Addr) (rn rc : Nat) (ps : List (List Nat)) (hr : Rcd X B w ra rn ps) (hrn : rn ≤ 1000000) (hfl : (Frm.flatF ps).length < 1048576) (hpb : ∀ p ∈ ps, ∀ z ∈ p, z < 256) :
  Calls Tryz.prog 15 #[.pointer (some ⟨jb, 0, none⟩), .slice ra rn rc] w (RwR X B d jb (N + 24) nm w sz (Frm.flatF ps).length (A.rw nm (spJ nm) (Frm.flatF ps))) := by
 have HH := Lib.hid h
 have HR := Lib.hid hr
 have HFL := Lib.hid (fun k => Nat.lt_of_le_of_lt (flat_take_le ps k) hfl)
 obtain ⟨r, hrr⟩ : ∃ r, A.rw nm (spJ nm) (Frm.flatF ps) = r := ⟨_, rfl⟩
 rw [hrr]
 have HRR := Lib.hid hrr
 have HRW := Lib.hid (show ∀ W, Below w.heap.size w W → Calls Tryz.prog 49 #[.pointer (some ⟨jb, 0, none⟩), .slice ra rn rc] W (DxR X B d (N + 24) W r) from fun W hW => by
  have hj := h.below hW
  obtain ⟨g1, g2, g3⟩ := hj.cells
  have := jrewrite_c hj.dx hN hj.xj (nm := nm) (by
   intro p hp
   simp only [List.mem_cons, List.not_mem_nil, or_false] at hp
   rcases hp with rfl | rfl
   ·
    exact g1
   ·
    exact g2) hn ra rn rc ps (hr.below hW) hrn hfl hpb
  rw [show nm ++ ⟨#[43]⟩ = spJ nm from rfl, hrr] at this
  exact this)
 have HXB := Lib.hid (show B ≤ w.heap.size from Nat.le_of_lt (Nat.lt_of_le_of_lt h.dx.base.1 h.dx.base.2))
 clear h hr hfl hpb hrr
 obtain ⟨A', x⟩ := r
 go_enter Tryz.func15, Tryz.ntmps15
 go_wp2_with fail
 go_loopw [5, 13] (fun s i wr => ∃ k : Nat, k ≤ rn ∧ i = .int .i64 k ∧ s = .int .i64 ((Frm.flatF (ps.take k)).length : Nat) ∧ wr = w) (fun _ i _ => rn - (intOf i).toNat)
 case atStart => exact ⟨0, Nat.zero_le _, rfl, rfl, rfl⟩
 case round =>
  obtain ⟨k, hk, rfl, rfl, hwr⟩ := hrel
  by_cases hkn : k < rn
  ·
   obtain ⟨p, hp⟩ : ∃ p, ps[k]? = some p := ⟨_, List.getElem?_eq_getElem (by rw [HR.out.ln]; exact hkn)⟩
   have HSN := Lib.hid (Frm.flat_snoc ps k p hp)
   obtain ⟨pn, hpn⟩ : ∃ pn, pn = p.length := ⟨_, rfl⟩
   obtain ⟨S, hS⟩ : ∃ S, S = (Frm.flatF (ps.take k)).length := ⟨_, rfl⟩
   have hSN : (Frm.flatF (ps.take (k + 1))).length = S + (8 + pn) := by rw [HSN.out, List.length_append, Frm.frame_len, hS, hpn]
   have hlt : S + (8 + pn) < 1048576 := by rw [← hSN]; exact HFL.out (k + 1)
   obtain ⟨b, o, pa, pc, rfl, hb1, hb2, hc, hrd, _, hnil, hpc, hpm⟩ := HR.out.rc k p hp
   have hcr : wr.cell? ⟨b, o + k, none⟩ = some (.slice pa pn pc) := by rw [hwr, hpn]; exact hc
   have kI := fun W => run_bidx W b o rn rc k hkn
   have hfd : decide ((pn : Int) ≤ 1048568) = true := decide_eq_true (by omega)
   have HFI := Lib.hid (show Calls Tryz.prog 42 #[.slice pa pn pc] wr fun e w' => e = .returned (.bool true) ∧ w' = wr from by
    clear HSN hcr kI hp hb1 hb2 hc hrd hnil hpc hpm hpn hS hSN hlt hwr HRW
    go_enter Tryz.func42, Tryz.ntmps42
    go_wp2_with fail
    go_ret
    exact ⟨rfl, rfl⟩)
   have hw1 : wrap64 (8 + (pn : Int)) = 8 + (pn : Int) := wrap64_id (by omega) (by omega)
   have hw2 : wrap64 ((S : Int) + (8 + (pn : Int))) = (S : Int) + (8 + (pn : Int)) := wrap64_id (by omega) (by omega)
   have HSE := Lib.hid (show (S : Int) + (8 + (pn : Int)) = ((Frm.flatF (ps.take (k + 1))).length : Nat) from by rw [hSN]; omega)
   have HWW := Lib.hid (show Value.int .i64 (wrap64 ((S : Int) + wrap64 (8 + (pn : Int)))) = Value.int .i64 (((Frm.flatF (ps.take (k + 1))).length : Nat) : Int) from by rw [hw1, hw2, HSE.out])
   have HWR := Lib.hid hwr
   rw [← hS]
   clear hw1 hw2 HSN hp hb1 hb2 hc hrd hnil hpc hpm hpn hS hSN hlt hfd hwr
   go_wp2_with fail
   refine HFI.out.mono ?_
   rintro e1 w1 ⟨rfl, rfl⟩
   clear HFI
   go_wp2_with fail
   go_roundw
   case rel => exact ⟨k + 1, by omega, by go_num, HWW.out, HWR.out⟩
   case measure => simp [intOf]; omega
  ·
   have hkr : k = rn := by omega
   have hz : ps.take k = ps := List.take_of_length_le (by rw [HR.out.ln]; omega)
   rw [hz]
   subst hwr
   have HC := Lib.hid (HRW.out wr (Below.refl _ _))
   obtain ⟨S, hS⟩ : ∃ S, S = (Frm.flatF ps).length := ⟨_, rfl⟩
   rw [← hS]
   have HSS := Lib.hid hS
   clear hz HRW hS
   go_wp2_with fail
   refine HC.out.mono ?_
   rintro e5 w5 ⟨rfl, g1, g2, g3⟩
   have HJ5 := Lib.hid (HH.out.kp g1 g3 (Y := X))
   have HB5 := Lib.hid g2
   have HK5 := Lib.hid g3
   clear g1 g2 g3 HC
   by_cases h0 : x = 0
   ·
    subst h0
    obtain ⟨z1, z2, z3⟩ := HJ5.out.cells
    have z4 := HJ5.out.frozen
    have HE := Lib.hid (show RwR X B d jb (N + 24) nm wr sz (Frm.flatF ps).length (A', 0) (.returned (.int .i64 0)) (w5.setCell ⟨jb, 2, none⟩ (.int .i64 (S : Int))) from by
     obtain ⟨s1, s2, s3, s4⟩ := HJ5.out.set (S : Int)
     refine ⟨rfl, ?_, HB5.out.trans s4, fun j hj hne => (s3 j hne).trans (HK5.out j hj)⟩
     rw [if_pos rfl, ← HSS.out]
     exact s1)
    go_wp2_with fail
    go_ret
    exact HE.out
   ·
    have hx0 : (x != 0) = true := by simp [h0]
    have HE := Lib.hid (show RwR X B d jb (N + 24) nm wr sz (Frm.flatF ps).length (A', x) (.returned (.int .i64 x)) w5 from by
     refine ⟨rfl, ?_, HB5.out, fun j hj _ => HK5.out j hj⟩
     rw [if_neg h0]
     exact HJ5.out)
    go_wp2_with fail
    go_ret
    exact HE.out
end Go.Proofs.YtihbgigledmliaaGreat

namespace Go.Proofs.YtihbgigledmliaaGreat
open Go.RowKit
set_option linter.unusedVariables false
/-- a step of a script that lies in a box -/
def OpB (W : World) (X : Nat) (kd : Int) (s t : ByteArray) (p : Value) (n q : Int) : Prop := W.heap[X]? = some (.cells #[.int .i64 kd, .string s, .string t, p, .int .i64 n, .int .i64 q] 50 (0, 0))
theorem OpB.cells {W : World} {X : Nat} {kd : Int} {s t : ByteArray} {p : Value} {n q : Int} (h : OpB W X kd s t p n q) : W.cell? ⟨X, 0, none⟩ = some (.int .i64 kd) ∧ W.cell? ⟨X, 1, none⟩ = some (.string s) ∧ W.cell? ⟨X, 2, none⟩ = some (.string t) ∧ W.cell? ⟨X, 3, none⟩ = some p ∧ W.cell? ⟨X, 4, none⟩ = some (.int .i64 n) ∧ W.cell? ⟨X, 5, none⟩ = some (.int .i64 q) :=
 ⟨(cell_of_row W X 0 _ _ _ h).trans rfl, (cell_of_row W X 1 _ _ _ h).trans rfl, (cell_of_row W X 2 _ _ _ h).trans rfl, (cell_of_row W X 3 _ _ _ h).trans rfl, (cell_of_row W X 4 _ _ _ h).trans rfl, (cell_of_row W X 5 _ _ _ h).trans rfl⟩
theorem OpB.kp {W W' : World} {X : Nat} {kd : Int} {s t : ByteArray} {p : Value} {n q : Int} {Y : Nat → Prop} (h : OpB W X kd s t p n q) (hk : KpX Y W W') (hX : Y X) : OpB W' X kd s t p n q := (hk X hX).trans h
theorem Two.boxed {X0 : Nat → Prop} {B d m k : Nat} {A : Ad} {w : World} (h : Two X0 B d m k A w) (hB : B ≤ w.heap.size) {o : Obj} : Two (fun j => X0 j ∨ j = w.heap.size) B d m k A (w.alloc o) := by
 have hb : Below w.heap.size w (w.alloc o) := (Below.refl _ _).alloc (Nat.le_refl _) _
 refine ⟨h.rel.more (Sta.ofBelow hb) (fun j hj => ?_) (fun j hj => ?_), h.bnd⟩
 ·
  rcases hj with hj | rfl
  ·
   exact .inl hj
  ·
   exact .inr (Nat.le_refl _)
 ·
  rcases hj with hj | rfl
  ·
   exact ⟨(h.rel.lt j hj).1, Nat.lt_of_lt_of_le (h.rel.lt j hj).2 hb.size⟩
  ·
   exact ⟨hB, by simp⟩
/-- what a step leaves -/
def DoR (X0 : Nat → Prop) (B d m k : Nat) (w : World) (A' : Ad) (e : Ending) (w' : World) : Prop := e = .returned (.bool true) ∧ Two X0 B d m (k + 1) A' w' ∧ Below B w w' ∧ KpX X0 w w'
end Go.Proofs.YtihbgigledmliaaGreat

namespace Go.Proofs.YtihbgigledmliaaGreat
open Go.RowKit
set_option linter.unusedVariables false
theorem DoR.fin {X0 X1 : Nat → Prop} {B d m k : Nat} {w w3 : World} {A' : Ad} (hX : ∀ j, X0 j → X1 j) (hr : Rel X1 B d m (3 * k + 3) A' A' w3) (hb : Bnd (k + 1) A') (hbl : Below B w w3) (hkp : KpX X0 w w3) : DoR X0 B d m k w A' (.returned (.bool true)) w3 :=
 ⟨rfl, ⟨(hr.more (Sta.refl _ _) (fun j hj => .inl (hX j hj)) fun j hj => hr.lt j (hX j hj)).mono (by omega), hb⟩, hbl, hkp⟩
set_option maxRecDepth 100000 in
set_option maxHeartbeats 8000000 in
theorem does4_c {X0 : Nat → Prop} {B d m k : Nat} {A : Ad} {w : World} (h : Two X0 B d m k A w) (hB : B ≤ w.heap.size) (hk : k ≤ 1000) (s t : ByteArray) (pa : Option Addr) (pn pc : Nat) (n q : Int) : Calls Tryz.prog 17 #[.pointer (some ⟨d, 0, none⟩), .pointer (some ⟨m, 0, none⟩), .agg #[.int .i64 4, .string s, .string t, .slice pa pn pc, .int .i64 n, .int .i64 q]] w (DoR X0 B d m k w A.sync.1) := by
 obtain ⟨X, hX⟩ : ∃ X, X = w.heap.size := ⟨_, rfl⟩
 obtain ⟨w1, hw1⟩ : ∃ w1, w1 = w.alloc (.cells #[.int .i64 4, .string s, .string t, .slice pa pn pc, .int .i64 n, .int .i64 q] 50) := ⟨_, rfl⟩
 have hbx : OpB w1 X 4 s t (.slice pa pn pc) n q := by rw [hw1, hX]; exact heap_alloc_new w _
 have hr1 := (h.boxed (o := .cells #[.int .i64 4, .string s, .string t, .slice pa pn pc, .int .i64 n, .int .i64 q] 50) hB)
 rw [← hX, ← hw1] at hr1
 have hg := h.gd
 have HBX := Lib.hid hbx
 have HXW := Lib.hid hX
 have HW1 := Lib.hid (show Below w.heap.size w w1 from by rw [hw1]; exact (Below.refl _ _).alloc (Nat.le_refl _) _)
 have HLT := Lib.hid h.rel.lt
 obtain ⟨i0, i1, i2, i3, i4, i5⟩ := hbx.cells
 obtain ⟨x, hx⟩ : ∃ x, A.sync.2 = x := ⟨_, rfl⟩
 have HC1 := Lib.hid (hr1.rel.prog (N' := 3 * k) (fun S h1 h2 _ => async h1 h2))
 have HC2 := Lib.hid (fun (w2 : World) (hr2 : Rel (fun j => X0 j ∨ j = X) B d m (3 * k) A.sync.1 A w2) => hr2.sync hg)
 rw [hx] at HC1 HC2
 have HBND := Lib.hid (h.bnd.sync hg)
 have hxx : (x == x) = true := by simp
 clear h hbx hr1 hg hx
 go_enter Tryz.func17, Tryz.ntmps17
 go_upto_region 18 with fail
 rw [← hX]
 rw [← hw1]
 clear hX hw1
 clear i0 i1 i2 i3 i4 i5
 go_wp2_with fail
 refine HC1.out.mono ?_
 rintro e2 w2 ⟨rfl, hr2, hb2, hk2⟩
 have HR2 := Lib.hid hr2
 have HB2 := Lib.hid hb2
 have HK2 := Lib.hid hk2
 clear hr2 hb2 hk2 HC1
 go_wp2_with fail
 refine (HC2.out _ HR2.out).mono ?_
 rintro e3 w3 ⟨rfl, hr3, hb3, hk3⟩
 have HE := Lib.hid (show DoR X0 B d m k w A.sync.1 (.returned (.bool true)) w3 from DoR.fin (fun j hj => Or.inl hj) (hr3.mono (by omega)) HBND.out ((HW1.out.mono hB).trans (HB2.out.trans hb3)) fun j hj => by
  rw [hk3 j (.inl hj), HK2.out j (.inl hj)]
  exact HW1.out.block j (HLT.out j hj).2)
 clear hr3 hb3 hk3 HC2 HR2 HB2 HK2 HBX HXW HW1 HLT HBND
 go_wp2_with fail
 go_ret
 exact HE.out
set_option maxRecDepth 100000 in
set_option maxHeartbeats 8000000 in
theorem does6_c {X0 : Nat → Prop} {B d m k : Nat} {A : Ad} {w : World} (h : Two X0 B d m k A w) (hB : B ≤ w.heap.size) (hk : k ≤ 1000) (s t : ByteArray) (pa : Option Addr) (pn pc : Nat) (n q : Int) : Calls Tryz.prog 17 #[.pointer (some ⟨d, 0, none⟩), .pointer (some ⟨m, 0, none⟩), .agg #[.int .i64 6, .string s, .string t, .slice pa pn pc, .int .i64 n, .int .i64 q]] w (DoR X0 B d m k w (A.crash n q)) := by
 obtain ⟨X, hX⟩ : ∃ X, X = w.heap.size := ⟨_, rfl⟩
 obtain ⟨w1, hw1⟩ : ∃ w1, w1 = w.alloc (.cells #[.int .i64 6, .string s, .string t, .slice pa pn pc, .int .i64 n, .int .i64 q] 50) := ⟨_, rfl⟩
 have hbx : OpB w1 X 6 s t (.slice pa pn pc) n q := by rw [hw1, hX]; exact heap_alloc_new w _
 have hr1 := (h.boxed (o := .cells #[.int .i64 6, .string s, .string t, .slice pa pn pc, .int .i64 n, .int .i64 q] 50) hB)
 rw [← hX, ← hw1] at hr1
 have hg := h.gd
 have HBX := Lib.hid hbx
 have HXW := Lib.hid hX
 have HW1 := Lib.hid (show Below w.heap.size w w1 from by rw [hw1]; exact (Below.refl _ _).alloc (Nat.le_refl _) _)
 have HLT := Lib.hid h.rel.lt
 obtain ⟨i0, i1, i2, i3, i4, i5⟩ := hbx.cells
 have HC1 := Lib.hid (hr1.rel.crash hg h.bnd (by omega) n q)
 have HC2 := Lib.hid (fun (w2 : World) (hr2 : Rel (fun j => X0 j ∨ j = X) B d m (3 * k) A (A.crash n q) w2) => hr2.prog (N' := 3 * k) (fun S h1 h2 _ => acrash h1 h2 n q (by omega)))
 have HBND := Lib.hid (h.bnd.crash hg n q)
 clear h hbx hr1 hg
 go_enter Tryz.func17, Tryz.ntmps17
 go_upto_region 25 with fail
 rw [← hX]
 rw [← hw1]
 clear hX hw1
 clear i0 i1 i2 i3
 go_wp2_with fail
 refine HC1.out.mono ?_
 rintro e2 w2 ⟨rfl, hr2, hb2, hk2⟩
 have HR2 := Lib.hid hr2
 have HB2 := Lib.hid hb2
 have HK2 := Lib.hid hk2
 obtain ⟨-, -, -, -, i4, i5⟩ := (HBX.out.kp hk2 (.inr rfl)).cells
 clear hr2 hb2 hk2 HC1
 go_wp2_with fail
 refine (HC2.out _ HR2.out).mono ?_
 rintro e3 w3 ⟨rfl, hr3, hb3, hk3⟩
 have HE := Lib.hid (show DoR X0 B d m k w (A.crash n q) (.returned (.bool true)) w3 from DoR.fin (fun j hj => Or.inl hj) (hr3.mono (by omega)) HBND.out ((HW1.out.mono hB).trans (HB2.out.trans hb3)) fun j hj => by
  rw [hk3 j (.inl hj), HK2.out j (.inl hj)]
  exact HW1.out.block j (HLT.out j hj).2)
 clear hr3 hb3 hk3 HC2 HR2 HB2 HK2 HBX HXW HW1 HLT HBND
 go_wp2_with fail
 go_ret
 exact HE.out
set_option maxRecDepth 100000 in
set_option maxHeartbeats 8000000 in
theorem does5_c {X0 : Nat → Prop} {B d m k : Nat} {A : Ad} {w : World} (h : Two X0 B d m k A w) (hB : B ≤ w.heap.size) (hk : k ≤ 1000) (s t : ByteArray) (pa : Option Addr) (pn pc : Nat) (n q : Int) (hn : n ≤ 9223372036854775807) : Calls Tryz.prog 17 #[.pointer (some ⟨d, 0, none⟩), .pointer (some ⟨m, 0, none⟩), .agg #[.int .i64 5, .string s, .string t, .slice pa pn pc, .int .i64 n, .int .i64 q]] w (DoR X0 B d m k w (A.fused n).1) := by
 obtain ⟨X, hX⟩ : ∃ X, X = w.heap.size := ⟨_, rfl⟩
 obtain ⟨w1, hw1⟩ : ∃ w1, w1 = w.alloc (.cells #[.int .i64 5, .string s, .string t, .slice pa pn pc, .int .i64 n, .int .i64 q] 50) := ⟨_, rfl⟩
 have hbx : OpB w1 X 5 s t (.slice pa pn pc) n q := by rw [hw1, hX]; exact heap_alloc_new w _
 have hr1 := (h.boxed (o := .cells #[.int .i64 5, .string s, .string t, .slice pa pn pc, .int .i64 n, .int .i64 q] 50) hB)
 rw [← hX, ← hw1] at hr1
 have hg := h.gd
 have HBX := Lib.hid hbx
 have HXW := Lib.hid hX
 have HW1 := Lib.hid (show Below w.heap.size w w1 from by rw [hw1]; exact (Below.refl _ _).alloc (Nat.le_refl _) _)
 have HLT := Lib.hid h.rel.lt
 obtain ⟨i0, i1, i2, i3, i4, i5⟩ := hbx.cells
 have HBND := Lib.hid ((h.bnd.fused n).mono (Nat.le_succ _))
 obtain ⟨S, lv, h1, h2, h3, h4⟩ := hr1.rel.ex
 obtain ⟨na, nn, nc, sa, sn, sc, ⟨c0, c1, c2, c3, c4, c5⟩, hfz, -, -⟩ := h3.cells
 rcases down_cases A with hd | hd
 ·
  have hfu : A.fused n = (A, 5) := by unfold Ad.fused; rw [if_pos hd]
  rw [hfu] at HBND ⊢
  rw [hd] at c5
  have HC1 := Lib.hid (hr1.rel.prog (N' := 3 * k) (fun S h1 h2 _ => afuse h1 h2 n hn))
  rw [hfu] at HC1
  clear h hbx hr1 hg h1 h2 h3 h4 c0 c1 c2 c3 c4 hfz hfu
  go_enter Tryz.func17, Tryz.ntmps17
  go_upto_region 20 with fail
  rw [← hX]
  rw [← hw1]
  clear hX hw1
  go_wp2_with fail
  refine HC1.out.mono ?_
  rintro e2 w2 ⟨rfl, hr2, hb2, hk2⟩
  have HE := Lib.hid (show DoR X0 B d m k w A (.returned (.bool true)) w2 from DoR.fin (fun j hj => Or.inl hj) (hr2.mono (by omega)) HBND.out ((HW1.out.mono hB).trans hb2) fun j hj => by
   rw [hk2 j (.inl hj)]
   exact HW1.out.block j (HLT.out j hj).2)
  clear hr2 hb2 hk2 HC1 HBX HXW HW1 HLT HBND i0 i1 i2 i3 i4 i5 c5
  go_wp2_with fail
  go_ret
  exact HE.out
 ·
  have hfu : A.fused n = ({ A with fuse := max n (-1) }, 0) := by unfold Ad.fused; rw [hd]; rfl
  rw [hfu] at HBND ⊢
  rw [hd] at c5
  obtain ⟨w2, hw2⟩ : ∃ w2, w2 = w1.setCell ⟨m, 4, none⟩ (.int .i64 (max n (-1))) := ⟨_, rfl⟩
  obtain ⟨hr2, hb2, hk2⟩ := hr1.rel.docSet (A2' := { A with fuse := max n (-1) }) (w' := w2) (fun F lv hr => by
   rw [hw2]
   exact hr.cellSet 4 (.int .i64 (max n (-1))) { A with fuse := max n (-1) } (na := none) (sa := none) (nn := 0) (nc := 0) (sn := 0) (sc := 0) (fun na nn nc sa sn sc _ h2 h3 => ⟨na, nn, nc, sa, sn, sc, rfl, h2, h3⟩) (by omega) rfl)
  have HC1 := Lib.hid (hr2.prog (N' := 3 * k) (fun S h1 h2 _ => afuse h1 h2 n hn))
  rw [hfu] at HC1
  have HB2 := Lib.hid hb2
  have HK2 := Lib.hid hk2
  have j4 := (HBX.out.kp hk2 (.inr rfl)).cells.2.2.2.2.1
  have f4 := hfz 4
  clear h hbx hr1 hg h1 h2 h3 h4 c0 c1 c2 c3 hfz hfu hr2 hb2 hk2
  go_enter Tryz.func17, Tryz.ntmps17
  go_upto_region 20 with fail
  rw [← hX]
  rw [← hw1]
  clear hX hw1
  go_upto_region 23 with fail
  rw [← hw2]
  clear hw2 i0 i1 i2 i3 i4 i5 c5 f4 c4
  go_wp2_with fail
  refine HC1.out.mono ?_
  rintro e3 w3 ⟨rfl, hr3, hb3, hk3⟩
  have HE := Lib.hid (show DoR X0 B d m k w { A with fuse := max n (-1) } (.returned (.bool true)) w3 from DoR.fin (fun j hj => Or.inl hj) (hr3.mono (by omega)) HBND.out ((HW1.out.mono hB).trans (HB2.out.trans hb3)) fun j hj => by
   rw [hk3 j (.inl hj), HK2.out j (.inl hj)]
   exact HW1.out.block j (HLT.out j hj).2)
  clear hr3 hb3 hk3 HC1 HB2 HK2 HBX HXW HW1 HLT HBND j4
  go_wp2_with fail
  go_ret
  exact HE.out
end Go.Proofs.YtihbgigledmliaaGreat

namespace Go.Proofs.YtihbgigledmliaaGreat
open Go.RowKit Go.Maps Go.Sort
set_option linter.unusedVariables false
theorem run_cell_bo (W : World) (a : Addr) (v : Bool) (hc : W.cell? a = some (.bool v)) : (Instr.loadAt 4 (.pointer (some a))).run Tryz.prog W = .ok (.bool v) W := by go_simp
theorem names_all (l : Fls) : namesF l ⟨#[]⟩ = l.map (·.1) := by
 unfold namesF
 refine List.filter_eq_self.2 fun x _ => ?_
 rfl
theorem rd_own {w : World} {B vn vc : Nat} {va : Option Addr} {fz : List Nat} (h : Own w B (.slice va vn vc) fz) (hn : vn = fz.length) (hz : ∀ z ∈ fz, z < 256) : Rd w va vn fz ∧ vn ≤ 9223372036854775807 := by
 obtain ⟨a, cap, h1, h2, h3, h4⟩ := h.rd hz
 obtain ⟨e1, e2, e3⟩ := Value.slice.inj h1
 subst e1
 subst hn
 exact ⟨h4, by omega⟩
theorem run_sidx (W : World) (b o len cap i : Nat) (hi : i < len) : (Instr.indexAt 111 (.slice (some ⟨b, o, none⟩) len cap) (.int .i64 (i : Int))).run Tryz.prog W = .ok (.pointer (some ⟨b, o + i, none⟩)) W := by
 rw [run_indexAt_slice W 111 ⟨b, o, none⟩ len cap .i64 (i : Int) (by kernel_rfl)]
 have h1 : (0 : Int) ≤ (i : Int) ∧ (i : Int) < (len : Int) := by omega
 rw [if_pos h1, show (Go.sizeOf (Tryz.prog.elem 111)).run Tryz.prog W = .ok 1 W from by kernel_rfl]
 simp [Result.andThen, Addr.add]
theorem exec_sidx0 {b len cap i : Nat} (hi : i < len) {A : Act} {x y : Operand} (hx : A.eval x = .slice (some ⟨b, 0, none⟩) len cap) (hy : A.eval y = .int .i64 (i : Int)) (op : Oper) (ho : op.op = .indexAddr 111 x y) (W : World) :
  (execOp A.eval op).run Tryz.prog W = .ok (.value (.pointer (some ⟨b, i, none⟩))) W := by
 unfold execOp
 simp only [ho, hx, hy]
 rw [Sem.run_bind, run_sidx W b 0 len cap i hi, Nat.zero_add]
 rfl
/-- cells of strings -/
theorem OwnS.cell {w : World} {B n c : Nat} {a : Option Addr} {cs : List ByteArray} (h : OwnS w B (.slice a n c) cs) (hn : n = cs.length) {i : Nat} {s : ByteArray} (hs : cs[i]? = some s) : ∃ g, a = some ⟨g, 0, none⟩ ∧ g < w.heap.size ∧ w.cell? ⟨g, i, none⟩ = some (.string s) := by
 have hi := (List.getElem?_eq_some_iff.1 hs).1
 rcases h.2 with ⟨h1, h2⟩ | ⟨g, c', cur, h1, h2, h3, h4, h5, h6, h7⟩
 ·
  omega
 ·
  obtain ⟨e1, e2, e3⟩ := Value.slice.inj h1
  subst e1
  refine ⟨g, rfl, (Array.getElem?_eq_some_iff.1 h3).1, ?_⟩
  rw [cell_of_row w g i cur _ _ h3, ← Array.getElem?_toList]
  have h8 := congrArg (fun l => l[i]?) h7
  simp only [List.getElem?_map, hs, Option.map_some, List.getElem?_take] at h8
  rw [if_pos (by omega)] at h8
  exact h8
set_option maxRecDepth 100000 in
set_option maxHeartbeats 8000000 in
theorem is_c {X : Nat → Prop} {B d m N k0 : Nat} {A : Ad} {w : World} (h : Rel X B d m N A A w) (hbd : Bnd k0 A) (hk0 : k0 ≤ 1000) :
  Calls Tryz.prog 19 #[.pointer (some ⟨d, 0, none⟩), .pointer (some ⟨m, 0, none⟩)] w fun e w' => e = .returned (.bool true) ∧ Below w.heap.size w w' := by
 have hg := h.gd
 have hnl := hg.now hbd
 have hdR := h.below (w' := World.drew w) (below_drewN' _ w 1)
 obtain ⟨S, lv, h1, h2, h3, h4⟩ := hdR.ex
 obtain ⟨na, nn, nc, sa, sn, sc, ⟨c0, c1, c2, c3, c4, c5⟩, -, hnow, -⟩ := h3.cells
 obtain ⟨la, lc, hlv, hlc, -⟩ := h3.lcell
 obtain ⟨dn, hdn⟩ : ∃ dn, A.down = dn := ⟨_, rfl⟩
 obtain ⟨u, hu⟩ : ∃ u, usedF A.now = u := ⟨_, rfl⟩
 obtain ⟨ll, hll⟩ : ∃ ll, A.loose.length = ll := ⟨_, rfl⟩
 have hlb : ll ≤ 1000 := by unfold Bnd at hbd; omega
 rw [hlv, hll] at c3
 rw [hdn] at c5
 have hnn : nn ≤ 1000 := by have := hnow.ln; omega
 have hu2 := hg.used
 have HC1 := Lib.hid (ddown_c h1)
 rw [h2.down, hdn] at HC1
 have HC2 := Lib.hid (dused_c h1)
 rw [h2.used, hu] at HC2
 have HC3 := Lib.hid (rused_c (cap := nc) hnow (by omega) (by omega))
 rw [hu] at HC3
 have HC4 := Lib.hid (dloose_c h1)
 rw [h2.loose, hll] at HC4
 have HNM := Lib.hid (anames h1 h2 ⟨#[]⟩ (by omega))
 have HRW := Lib.hid hnow
 have HLN := Lib.hid hnow.ln
 have HR := Lib.hid hdR
 have HG := Lib.hid hg
 have HDN := Lib.hid hdn
 have HMC := Lib.hid c1
 have HMD := Lib.hid c5
 have hm5 : (World.drew w).cell? ⟨m, 5, none⟩ = some (.bool dn) := c5
 have hmlt := h3.lt
 have huu : ((u : Int) != (u : Int)) = false := by simp
 have hlll : ((ll : Int) != (ll : Int)) = false := by simp
 clear h h1 h2 h3 h4 hdR hg hnow hdn hu hll hlv hbd c0 c2 c4 hu2 hnl hm5
 go_enter Tryz.func19, Tryz.ntmps19
 go_upto_region 1 with fail
 have HS := Lib.hid (show World.drew w = World.drew w from rfl)
 have HL5 := Lib.hid (fun W (hW : W = World.drew w) => run_cell_bo W ⟨m, 5, none⟩ dn (by rw [hW]; exact c5))
 have HL1 := Lib.hid (fun W (hW : W = World.drew w) => run_cell_fl W ⟨m, 1, none⟩ na nn nc (by rw [hW]; exact c1))
 have HL3 := Lib.hid (fun W (hW : W = World.drew w) => run_cell_cs W ⟨m, 3, none⟩ la ll lc (by rw [hW]; exact c3))
 clear c1 c3 c5
 refine anyH_begin (S := fun W => W = World.drew w) (by kernel_rfl) ?_
 refine aP 0 (d := 13) (op := .move (.tmp 0)) (.pointer (some ⟨d, 0, none⟩)) HS.out ?_
 simp only [Act.put, sT, sZ, sS]
 refine aP 2 (d := 15) (op := .move (.tmp 1)) (.pointer (some ⟨m, 0, none⟩)) HS.out ?_
 simp only [Act.put, sT, sZ, sS]
 refine aP 3 (d := 16) (op := .nilCheck (.tmp 15)) (.pointer (some ⟨m, 0, none⟩)) HS.out ?_
 simp only [Act.put, sT, sZ, sS]
 refine aP 4 (d := 17) (op := .fieldAddr 84 (.tmp 16) 5) (.pointer (some ⟨m, 5, none⟩)) HS.out ?_
 simp only [Act.put, sT, sZ, sS]
 refine aL 5 (d := 18) (ty := 4) (x := (.tmp 17)) (p := .pointer (some ⟨m, 5, none⟩)) (.bool dn) HL5.out HS.out ?_
 simp only [Act.put, sT, sZ, sS]
 refine anyH_callG 1 (d := some 14) (f := 57) (xs := #[(.tmp 13)]) (ts := #[25]) (gd := none) (vs := #[.pointer (some ⟨d, 0, none⟩)]) (by kernel_rfl) (by rfl) wantedP (by go_simp) (by go_simp) (HC1.out) ?_
 rintro e91 w91 ⟨rfl, rfl⟩
 refine ⟨_, rfl, HS.out, fun hS91 => ?_⟩
 clear hS91
 simp only [Act.put, sT, sZ, sS]
 refine anyH_pureG 6 (d := 19) (op := .binOp .neq 4 (.tmp 14) (.tmp 18) 4) (gd := none) (.bool false) (by rfl) wantedP (by kernel_rfl) (by kernel_rfl) (by kernel_rfl) (fun _ _ _ h => h) (fun o1 ho W hW => by unfold execOp; simp only [ho]; go_simp; try simp) HS.out ?_
 simp only [Act.put, sT, sZ, sS]
 refine aP 7 (d := 20) (op := .move (.tmp 19)) (.bool false) HS.out ?_
 simp only [Act.put, sT, sZ, sS]
 refine anyH_pureG 8 (d := 21) (op := .move (.tmp 0)) (gd := some (7, false)) (.pointer (some ⟨d, 0, none⟩)) (by rfl) (fun o ho => by simp only [Region.wanted, ho]; rfl) (by kernel_rfl) (by kernel_rfl) (by kernel_rfl) (fun _ _ _ h => h) (fun o ho W hW => by unfold execOp; simp only [ho]; go_simp) HS.out ?_
 simp only [Act.put, sT, sZ, sS]
 refine anyH_pureG 10 (d := 23) (op := .move (.tmp 1)) (gd := some (7, false)) (.pointer (some ⟨m, 0, none⟩)) (by rfl) (fun o ho => by simp only [Region.wanted, ho]; rfl) (by kernel_rfl) (by kernel_rfl) (by kernel_rfl) (fun _ _ _ h => h) (fun o ho W hW => by unfold execOp; simp only [ho]; go_simp) HS.out ?_
 simp only [Act.put, sT, sZ, sS]
 refine anyH_pureG 11 (d := 24) (op := .nilCheck (.tmp 23)) (gd := some (7, false)) (.pointer (some ⟨m, 0, none⟩)) (by rfl) (fun o ho => by simp only [Region.wanted, ho]; rfl) (by kernel_rfl) (by kernel_rfl) (by kernel_rfl) (fun _ _ _ h => h) (fun o ho W hW => by unfold execOp; simp only [ho]; go_simp) HS.out ?_
 simp only [Act.put, sT, sZ, sS]
 refine anyH_pureG 12 (d := 25) (op := .fieldAddr 84 (.tmp 24) 1) (gd := some (7, false)) (.pointer (some ⟨m, 1, none⟩)) (by rfl) (fun o ho => by simp only [Region.wanted, ho]; rfl) (by kernel_rfl) (by kernel_rfl) (by kernel_rfl) (fun _ _ _ h => h) (fun o ho W hW => by unfold execOp; simp only [ho]; go_simp) HS.out ?_
 simp only [Act.put, sT, sZ, sS]
 refine anyH_loadG 13 (d := 26) (ty := 81) (x := (.tmp 25)) (gd := some (7, false)) (p := .pointer (some ⟨m, 1, none⟩)) (.slice na nn nc) (by rfl) (fun o ho => by simp only [Region.wanted, ho]; rfl) (by kernel_rfl) (by kernel_rfl) (by kernel_rfl) (fun _ _ _ h => h) (by rfl) HL1.out HS.out ?_
 simp only [Act.put, sT, sZ, sS]
 refine anyH_callG 9 (d := some 22) (f := 58) (xs := #[(.tmp 21)]) (ts := #[25]) (gd := some (7, false)) (vs := #[.pointer (some ⟨d, 0, none⟩)]) (by kernel_rfl) (by rfl) (fun o ho => by simp only [Region.wanted, ho]; rfl) (by go_simp) (by go_simp) (HC2.out) ?_
 rintro e92 w92 ⟨rfl, rfl⟩
 refine ⟨_, rfl, HS.out, fun hS92 => ?_⟩
 clear hS92
 simp only [Act.put, sT, sZ, sS]
 refine anyH_callG 14 (d := some 27) (f := 59) (xs := #[(.tmp 26)]) (ts := #[81]) (gd := some (7, false)) (vs := #[.slice na nn nc]) (by kernel_rfl) (by rfl) (fun o ho => by simp only [Region.wanted, ho]; rfl) (by go_simp) (by go_simp) (HC3.out) ?_
 rintro e93 w93 ⟨rfl, rfl⟩
 refine ⟨_, rfl, HS.out, fun hS93 => ?_⟩
 clear hS93
 simp only [Act.put, sT, sZ, sS]
 refine anyH_pureG 15 (d := 28) (op := .binOp .neq 3 (.tmp 22) (.tmp 27) 3) (gd := some (7, false)) (.bool false) (by rfl) (fun o ho => by simp only [Region.wanted, ho]; rfl) (by kernel_rfl) (by kernel_rfl) (by kernel_rfl) (fun _ _ _ h => h) (fun o1 ho W hW => by unfold execOp; simp only [ho]; go_simp; try simp) HS.out ?_
 simp only [Act.put, sT, sZ, sS]
 refine aP 16 (d := 29) (op := .pick (.tmp 20) (.const (.bool true)) (.tmp 28)) (.bool false) HS.out ?_
 simp only [Act.put, sT, sZ, sS]
 refine aP 17 (d := 30) (op := .move (.tmp 29)) (.bool false) HS.out ?_
 simp only [Act.put, sT, sZ, sS]
 refine anyH_pureG 18 (d := 31) (op := .move (.tmp 0)) (gd := some (17, false)) (.pointer (some ⟨d, 0, none⟩)) (by rfl) (fun o ho => by simp only [Region.wanted, ho]; rfl) (by kernel_rfl) (by kernel_rfl) (by kernel_rfl) (fun _ _ _ h => h) (fun o ho W hW => by unfold execOp; simp only [ho]; go_simp) HS.out ?_
 simp only [Act.put, sT, sZ, sS]
 refine anyH_pureG 20 (d := 33) (op := .move (.tmp 1)) (gd := some (17, false)) (.pointer (some ⟨m, 0, none⟩)) (by rfl) (fun o ho => by simp only [Region.wanted, ho]; rfl) (by kernel_rfl) (by kernel_rfl) (by kernel_rfl) (fun _ _ _ h => h) (fun o ho W hW => by unfold execOp; simp only [ho]; go_simp) HS.out ?_
 simp only [Act.put, sT, sZ, sS]
 refine anyH_pureG 21 (d := 34) (op := .nilCheck (.tmp 33)) (gd := some (17, false)) (.pointer (some ⟨m, 0, none⟩)) (by rfl) (fun o ho => by simp only [Region.wanted, ho]; rfl) (by kernel_rfl) (by kernel_rfl) (by kernel_rfl) (fun _ _ _ h => h) (fun o ho W hW => by unfold execOp; simp only [ho]; go_simp) HS.out ?_
 simp only [Act.put, sT, sZ, sS]
 refine anyH_pureG 22 (d := 35) (op := .fieldAddr 84 (.tmp 34) 3) (gd := some (17, false)) (.pointer (some ⟨m, 3, none⟩)) (by rfl) (fun o ho => by simp only [Region.wanted, ho]; rfl) (by kernel_rfl) (by kernel_rfl) (by kernel_rfl) (fun _ _ _ h => h) (fun o ho W hW => by unfold execOp; simp only [ho]; go_simp) HS.out ?_
 simp only [Act.put, sT, sZ, sS]
 refine anyH_loadG 23 (d := 36) (ty := 82) (x := (.tmp 35)) (gd := some (17, false)) (p := .pointer (some ⟨m, 3, none⟩)) (.slice la ll lc) (by rfl) (fun o ho => by simp only [Region.wanted, ho]; rfl) (by kernel_rfl) (by kernel_rfl) (by kernel_rfl) (fun _ _ _ h => h) (by rfl) HL3.out HS.out ?_
 simp only [Act.put, sT, sZ, sS]
 refine anyH_pureG 24 (d := 37) (op := .call { callee := .builtin .len, args := #[(.tmp 36)], argTypes := #[82] }) (gd := some (17, false)) (.int .i64 (ll : Int)) (by rfl) (fun o ho => by simp only [Region.wanted, ho]; rfl) (by kernel_rfl) (by kernel_rfl) (by kernel_rfl) (fun _ _ _ h => h) (fun o ho W hW => by unfold execOp; simp only [ho]; go_simp) HS.out ?_
 simp only [Act.put, sT, sZ, sS]
 refine anyH_callG 19 (d := some 32) (f := 60) (xs := #[(.tmp 31)]) (ts := #[25]) (gd := some (17, false)) (vs := #[.pointer (some ⟨d, 0, none⟩)]) (by kernel_rfl) (by rfl) (fun o ho => by simp only [Region.wanted, ho]; rfl) (by go_simp) (by go_simp) (HC4.out) ?_
 rintro e94 w94 ⟨rfl, rfl⟩
 refine ⟨_, rfl, HS.out, fun hS94 => ?_⟩
 clear hS94
 simp only [Act.put, sT, sZ, sS]
 refine anyH_pureG 25 (d := 38) (op := .binOp .neq 3 (.tmp 32) (.tmp 37) 3) (gd := some (17, false)) (.bool false) (by rfl) (fun o ho => by simp only [Region.wanted, ho]; rfl) (by kernel_rfl) (by kernel_rfl) (by kernel_rfl) (fun _ _ _ h => h) (fun o1 ho W hW => by unfold execOp; simp only [ho]; go_simp; try simp) HS.out ?_
 simp only [Act.put, sT, sZ, sS]
 refine aP 26 (d := 39) (op := .pick (.tmp 30) (.const (.bool true)) (.tmp 38)) (.bool false) HS.out ?_
 simp only [Act.put, sT, sZ, sS]
 refine wpAnyH_done (by kernel_rfl) ?_ _
 clear HS HL5 HL1 HL3 HC1 HC2 HC3 HC4 huu hlll
 go_wp2_with fail
 unfold NmA at HNM
 cases dn with
 | true =>
  rw [HDN.out] at HNM
  simp only [if_true] at HNM
  refine HNM.out.mono ?_
  rintro e2 w2 ⟨rfl, rfl⟩
  have c5 := HMD.out
  clear HNM HMD HMC HDN HRW HLN HR HG
  go_wp2_with fail
  go_ret
  exact ⟨rfl, below_drewN' _ w 1⟩
 | false =>
  rw [HDN.out] at HNM
  simp only [Bool.false_eq_true, if_false] at HNM
  refine HNM.out.mono ?_
  rintro e4 w4 ⟨la2, ln, lc2, rfl, hown, hln, hb4⟩
  rw [names_all] at hown hln
  rw [List.length_map, ← HLN.out] at hln
  subst hln
  have HOW := Lib.hid hown
  have c5 := (hb4.cell (p := ⟨m, 5, none⟩) hmlt).trans HMD.out
  have c1 := (hb4.cell (p := ⟨m, 1, none⟩) hmlt).trans HMC.out
  have HB4 := Lib.hid hb4
  clear HNM HMD HMC hown hb4
  have hnnn : ((ln : Int) != (ln : Int)) = false := by simp
  go_wp2_with fail
  clear c5 c1 hnnn
  go_loopw [73] (fun i wr => ∃ k : Nat, k ≤ ln ∧ i = .int .i64 k ∧ Hid (Below w4.heap.size w4 wr)) (fun i _ => ln - (intOf i).toNat)
  case atStart => exact ⟨0, Nat.zero_le _, rfl, Lib.hid (Below.refl _ _)⟩
  case round =>
   obtain ⟨k, hk, rfl, HB⟩ := hrel
   by_cases hkn : k < ln
   ·
    obtain ⟨b, o, f, ra, rn, rc, hna, hb, hf, d0, d1, hrb⟩ := HRW.out.at hkn
    subst hna
    obtain ⟨fn, fz⟩ := f
    have hbw := Nat.lt_of_lt_of_le hb HB4.out.size
    have c0 := (HB.out.cell (p := ⟨b, o + 2 * k, none⟩) hbw).trans ((HB4.out.cell (p := ⟨b, o + 2 * k, none⟩) hb).trans d0)
    have c1 := (HB.out.cell (p := ⟨b, o + 2 * k + 1, none⟩) hbw).trans ((HB4.out.cell (p := ⟨b, o + 2 * k + 1, none⟩) hb).trans d1)
    have hix := fun W => run_file_idx W b o ln nc k hkn
    have hlk := lookF_of_mem HG.out.srt (List.mem_of_getElem? hf)
    have hfs : fn.size ≤ maxLen := Nat.le_trans (HG.out.nm _ _ hlk) (by unfold maxLen; omega)
    obtain ⟨X1, hX⟩ : ∃ X1, X1 = wr.heap.size := ⟨_, rfl⟩
    obtain ⟨w5, hw5⟩ : ∃ w5, w5 = wr.alloc (.cells #[.string fn, .slice ra rn rc] 96) := ⟨_, rfl⟩
    have hb5 : Below wr.heap.size wr w5 := by rw [hw5]; exact (Below.refl _ _).alloc (Nat.le_refl _) _
    have hX5 : X1 < w5.heap.size := by rw [hw5, hX]; simp
    have x0 : w5.cell? ⟨X1, 0, none⟩ = some (.string fn) := by rw [hw5, hX]; simp
    have x1 : w5.cell? ⟨X1, 1, none⟩ = some (.slice ra rn rc) := by rw [hw5, hX]; simp
    have hb45 := HB.out.trans (hb5.mono HB.out.size)
    have hbd5 := HB4.out.trans (hb45.mono HB4.out.size)
    have hr5 := HR.out.below hbd5
    obtain ⟨S5, lv5, k1, k2, -, -⟩ := hr5.ex
    have hsz := asize k1 k2 fn hfs
    unfold SzA at hsz
    rw [HDN.out, hlk] at hsz
    simp only [Bool.false_eq_true, if_false] at hsz
    have hrd := aread k1 k2 fn hfs 0 (fz.length : Int)
    unfold RdA at hrd
    rw [HDN.out, hlk] at hrd
    simp only [Bool.false_eq_true, if_false] at hrd
    simp only [if_neg (show ¬ ((0 : Int) < 0 ∨ (fz.length : Int) < 0) by omega)] at hrd
    simp only [Int.toNat_zero, List.drop_zero, Int.toNat_natCast, List.take_length] at hrd
    obtain ⟨g, hla, hgl, hgc⟩ := HOW.out.cell (by rw [List.length_map]; exact HLN.out) (i := k) (s := fn) (by rw [List.getElem?_map, hf]; rfl)
    subst hla
    have hg5 := (hb45.cell (p := ⟨g, k, none⟩) hgl).trans hgc
    have hgl5 := Nat.lt_of_lt_of_le hgl hb45.size
    have HRB := Lib.hid ((hrb.below hbd5).rd)
    have HSZ := Lib.hid hsz
    have HRD := Lib.hid hrd
    have HX0 := Lib.hid x0
    have HX1 := Lib.hid x1
    have HG5 := Lib.hid hg5
    have HB45 := Lib.hid hb45
    clear hf d0 d1 hrb hb5 hlk hr5 k1 k2 hsz hrd hgc hg5 hb45 hbd5 hb hbw
    go_upto_region 11 with fail
    rw [← hX]
    rw [← hw5]
    clear hX hw5 c0 c1 hix
    go_wp2_with fail
    refine HSZ.out.mono ?_
    rintro e5 w5b ⟨rfl, rfl⟩
    clear HSZ
    go_wp2_with fail
    refine HRD.out.mono ?_
    rintro e6 w6 ⟨va, vn, vc, rfl, hown6, hvn, hz6, hb6⟩
    obtain ⟨hrd6, hvb⟩ := rd_own hown6 hvn hz6
    have HSM := Lib.hid (show ∀ W, Drw (World.drew w6) W → Calls Tryz.prog 55 #[.slice va vn vc, .slice ra rn rc] W (RetD (.bool true) W) from fun W hq => by
     obtain ⟨q, rfl⟩ := hq
     have e1 := (hrd6.below (below_drewN' _ w6 1)).below (below_drewN' _ _ q)
     have e2 := ((HRB.out.below hb6).below (below_drewN' _ w6 1)).below (below_drewN' _ _ q)
     have := same_c va ra vn vc rn rc fz fz _ e1 e2 hvb
     simpa using this)
    have x0 := (hb6.cell (p := ⟨X1, 0, none⟩) hX5).trans HX0.out
    have x1 := (hb6.cell (p := ⟨X1, 1, none⟩) hX5).trans HX1.out
    have g0 := (hb6.cell (p := ⟨g, k, none⟩) hgl5).trans HG5.out
    have HB6 := Lib.hid (HB45.out.trans (hb6.mono HB45.out.size))
    clear HRD hown6 hvn hb6 hrd6 hz6 hvb
    go_wp2_with fail
    (try dsimp only [Act.put, sT, sZ, sS])
    have HS := Lib.hid (show Drw (World.drew w6) (World.drew w6) from ⟨0, rfl⟩)
    have HL1 := Lib.hid (fun W (hW : Drw (World.drew w6) W) => run_cell_s W ⟨g, k, none⟩ fn (by obtain ⟨q, rfl⟩ := hW; exact g0))
    have HL2 := Lib.hid (fun W (hW : Drw (World.drew w6) W) => run_cell_s W ⟨X1, 0, none⟩ fn (by obtain ⟨q, rfl⟩ := hW; exact x0))
    have HL3 := Lib.hid (fun W (hW : Drw (World.drew w6) W) => run_cell_b W ⟨X1, 1, none⟩ ra rn rc (by obtain ⟨q, rfl⟩ := hW; exact x1))
    clear g0 x0 x1
    refine anyH_begin (S := Drw (World.drew w6)) (by kernel_rfl) ?_
    refine aP 0 (d := 93) (op := .move (.tmp 5)) (.slice (some ⟨g, 0, none⟩) ln lc2) HS.out ?_
    simp only [Act.put, sT, sZ, sS]
    refine aP 1 (d := 94) (op := .move (.tmp 7)) (.int .i64 (k : Int)) HS.out ?_
    simp only [Act.put, sT, sZ, sS]
    refine anyH_pureG 2 (d := 95) (op := .indexAddr 111 (.tmp 93) (.tmp 94)) (gd := none) (.pointer (some ⟨g, k, none⟩)) (by rfl) wantedP (by kernel_rfl) (by kernel_rfl) (by kernel_rfl) (fun _ _ _ h => h) (fun o1 ho W hW => exec_sidx0 hkn (x := .tmp 93) (y := .tmp 94) (by rfl) (by rfl) o1 ho W) HS.out ?_
    simp only [Act.put, sT, sZ, sS]
    refine aL 3 (d := 96) (ty := 9) (x := (.tmp 95)) (p := .pointer (some ⟨g, k, none⟩)) (.string fn) HL1.out HS.out ?_
    simp only [Act.put, sT, sZ, sS]
    refine aP 4 (d := 97) (op := .fieldAddr 96 (.tmp 8) 0) (.pointer (some ⟨X1, 0, none⟩)) HS.out ?_
    simp only [Act.put, sT, sZ, sS]
    refine aL 5 (d := 98) (ty := 9) (x := (.tmp 97)) (p := .pointer (some ⟨X1, 0, none⟩)) (.string fn) HL2.out HS.out ?_
    simp only [Act.put, sT, sZ, sS]
    refine anyH_pureG 6 (d := 99) (op := .binOp .neq 9 (.tmp 96) (.tmp 98) 9) (gd := none) (.bool false) (by rfl) wantedP (by kernel_rfl) (by kernel_rfl) (by kernel_rfl) (fun _ _ _ h => h) (fun o1 ho W hW => by unfold execOp; simp only [ho]; go_simp; try simp) HS.out ?_
    simp only [Act.put, sT, sZ, sS]
    refine aP 7 (d := 100) (op := .move (.tmp 99)) (.bool false) HS.out ?_
    simp only [Act.put, sT, sZ, sS]
    refine anyH_pureG 8 (d := 101) (op := .move (.tmp 10)) (gd := some (7, false)) (.int .i64 0) (by rfl) (fun o ho => by simp only [Region.wanted, ho]; rfl) (by kernel_rfl) (by kernel_rfl) (by kernel_rfl) (fun _ _ _ h => h) (fun o ho W hW => by unfold execOp; simp only [ho]; go_simp) HS.out ?_
    simp only [Act.put, sT, sZ, sS]
    refine anyH_pureG 9 (d := 102) (op := .binOp .neq 26 (.tmp 101) (.const (.int .i64 0)) 26) (gd := some (7, false)) (.bool false) (by rfl) (fun o ho => by simp only [Region.wanted, ho]; rfl) (by kernel_rfl) (by kernel_rfl) (by kernel_rfl) (fun _ _ _ h => h) (fun o1 ho W hW => by unfold execOp; simp only [ho]; go_simp; try simp) HS.out ?_
    simp only [Act.put, sT, sZ, sS]
    refine aP 10 (d := 103) (op := .pick (.tmp 100) (.const (.bool true)) (.tmp 102)) (.bool false) HS.out ?_
    simp only [Act.put, sT, sZ, sS]
    refine aP 11 (d := 104) (op := .move (.tmp 103)) (.bool false) HS.out ?_
    simp only [Act.put, sT, sZ, sS]
    refine anyH_pureG 12 (d := 105) (op := .move (.tmp 12)) (gd := some (11, false)) (.int .i64 0) (by rfl) (fun o ho => by simp only [Region.wanted, ho]; rfl) (by kernel_rfl) (by kernel_rfl) (by kernel_rfl) (fun _ _ _ h => h) (fun o ho W hW => by unfold execOp; simp only [ho]; go_simp) HS.out ?_
    simp only [Act.put, sT, sZ, sS]
    refine anyH_pureG 13 (d := 106) (op := .binOp .neq 26 (.tmp 105) (.const (.int .i64 0)) 26) (gd := some (11, false)) (.bool false) (by rfl) (fun o ho => by simp only [Region.wanted, ho]; rfl) (by kernel_rfl) (by kernel_rfl) (by kernel_rfl) (fun _ _ _ h => h) (fun o1 ho W hW => by unfold execOp; simp only [ho]; go_simp; try simp) HS.out ?_
    simp only [Act.put, sT, sZ, sS]
    refine aP 14 (d := 107) (op := .pick (.tmp 104) (.const (.bool true)) (.tmp 106)) (.bool false) HS.out ?_
    simp only [Act.put, sT, sZ, sS]
    refine aP 15 (d := 108) (op := .move (.tmp 107)) (.bool false) HS.out ?_
    simp only [Act.put, sT, sZ, sS]
    refine anyH_pureG 16 (d := 109) (op := .move (.tmp 11)) (gd := some (15, false)) (.slice va vn vc) (by rfl) (fun o ho => by simp only [Region.wanted, ho]; rfl) (by kernel_rfl) (by kernel_rfl) (by kernel_rfl) (fun _ _ _ h => h) (fun o ho W hW => by unfold execOp; simp only [ho]; go_simp) HS.out ?_
    simp only [Act.put, sT, sZ, sS]
    refine anyH_pureG 17 (d := 110) (op := .fieldAddr 96 (.tmp 8) 1) (gd := some (15, false)) (.pointer (some ⟨X1, 1, none⟩)) (by rfl) (fun o ho => by simp only [Region.wanted, ho]; rfl) (by kernel_rfl) (by kernel_rfl) (by kernel_rfl) (fun _ _ _ h => h) (fun o ho W hW => by unfold execOp; simp only [ho]; go_simp) HS.out ?_
    simp only [Act.put, sT, sZ, sS]
    refine anyH_loadG 18 (d := 111) (ty := 38) (x := (.tmp 110)) (gd := some (15, false)) (p := .pointer (some ⟨X1, 1, none⟩)) (.slice ra rn rc) (by rfl) (fun o ho => by simp only [Region.wanted, ho]; rfl) (by kernel_rfl) (by kernel_rfl) (by kernel_rfl) (fun _ _ _ h => h) (by rfl) HL3.out HS.out ?_
    simp only [Act.put, sT, sZ, sS]
    refine anyH_callG 19 (d := some 112) (f := 55) (xs := #[(.tmp 109), (.tmp 111)]) (ts := #[38, 38]) (gd := some (15, false)) (vs := #[.slice va vn vc, .slice ra rn rc]) (by kernel_rfl) (by rfl) (fun o ho => by simp only [Region.wanted, ho]; rfl) (by go_simp) (by go_simp) (HSM.out _ HS.out) ?_
    rintro e8 w8 ⟨rfl, q8, hw8⟩
    have HS1 := Lib.hid (show Drw (World.drew w6) w8 from ⟨q8, hw8⟩)
    clear hw8
    refine ⟨_, rfl, HS1.out, fun _ => ?_⟩
    simp only [Act.put, sT, sZ, sS]
    refine anyH_pureG 20 (d := 113) (op := .unOp .not 4 (.tmp 112)) (gd := some (15, false)) (.bool false) (by rfl) (fun o ho => by simp only [Region.wanted, ho]; rfl) (by kernel_rfl) (by kernel_rfl) (by kernel_rfl) (fun _ _ _ h => h) (fun o ho W hW => by unfold execOp; simp only [ho]; go_simp) HS1.out ?_
    simp only [Act.put, sT, sZ, sS]
    refine aP 21 (d := 114) (op := .pick (.tmp 108) (.const (.bool true)) (.tmp 113)) (.bool false) HS1.out ?_
    simp only [Act.put, sT, sZ, sS]
    refine wpAnyH_done (by kernel_rfl) ?_ _
    obtain ⟨q8, hq8⟩ := HS1.out
    have HB8 := Lib.hid (show Below w4.heap.size w4 w8 from by rw [hq8]; exact (HB6.out.trans (below_drewN' _ w6 1)).trans (below_drewN' _ _ q8))
    clear HS HS1 HL1 HL2 HL3 HSM hq8
    go_wp2_with fail
    go_roundw
    case rel => exact ⟨k + 1, by omega, by go_num, HB8⟩
    case measure => simp [intOf]; omega
   ·
    go_wp2_with fail
    go_ret
    exact ⟨rfl, (below_drewN' _ w 1).trans (HB4.out.trans (HB.out.mono HB4.out.size))⟩
end Go.Proofs.YtihbgigledmliaaGreat

namespace Go.Proofs.YtihbgigledmliaaGreat
open Go.RowKit
set_option linter.unusedVariables false
theorem Rel.less {X Y : Nat → Prop} {B d m N : Nat} {A1 A2 : Ad} {w : World} (h : Rel X B d m N A1 A2 w) (hY : ∀ j, Y j → X j) : Rel Y B d m N A1 A2 w := by
 obtain ⟨S, lv, h1, h2, h3, h4⟩ := h.ex
 exact ⟨⟨S, lv, h1, h2, h3.sta (Sta.refl _ _) (fun j hj => .inl (hj.imp id (hY j))), fun j hj => h4 j (hY j hj)⟩, fun j hj => h.lt j (hY j hj)⟩
/-- a block that is new is others' -/
theorem Rel.with {X : Nat → Prop} {B d m N : Nat} {A1 A2 : Ad} {w w' : World} (h : Rel X B d m N A1 A2 w) (hb : Below w.heap.size w w') (hB : B ≤ w.heap.size) (Z : Nat → Prop) (hZ : ∀ j, Z j → w.heap.size ≤ j ∧ j < w'.heap.size) : Rel (fun j => X j ∨ Z j) B d m N A1 A2 w' :=
 h.more (Sta.ofBelow hb) (fun j hj => hj.imp id fun e => (hZ j e).1) fun j hj => hj.elim (fun e => ⟨(h.lt j e).1, Nat.lt_of_lt_of_le (h.lt j e).2 hb.size⟩) fun e => ⟨by have := (hZ j e).1; omega, (hZ j e).2⟩
/-- the document's step, its bytes in a block that is others', and is nobody's then -/
theorem Rel.stepX {X Y : Nat → Prop} {B d m N : Nat} {A1 A2 : Ad} {w : World} (h : Rel Y B d m N A1 A2 w) (hXY : ∀ j, X j → Y j) (g : Gs A2) (hn : A2.now.length ≤ 1000000) (hb : A2.loose.length ≤ 1000000) (c : DCh) (hc : c.kind ≤ 3) (pa : Option Addr) (pn pc : Nat) (hrd : Rd w pa pn c.p)
  (hlo : ∀ b o s, pa = some ⟨b, o, s⟩ → pn ≠ 0 → b < B ∨ (Y b ∧ ¬ X b)) (hnil : pa = none → pc = 0) (hle : pn ≤ pc) (hpn : pn ≤ 140737488355327) (hs : c.a.size ≤ maxLen) (ht : c.b.size ≤ maxLen) :
  Calls Tryz.prog 39 #[.pointer (some ⟨m, 0, none⟩), .agg #[.int .i64 (c.kind : Int), .string c.a, .string c.b, .slice pa pn pc]] w fun e w' => e = .returned (.int .i64 (A2.step c).2) ∧ Rel X B d m N A1 (A2.step c).1 w' ∧ Below B w w' ∧ KpX Y w w' := by
 obtain ⟨S, lv, h1, h2, h3, h4⟩ := h.ex
 have hX : RDK (fun j => S.own d j ∨ X j) B m lv A2 w := h3.sta (Sta.refl _ _) (fun j hj => .inl (hj.imp id (hXY j)))
 have hlt : ∀ j, (S.own d j ∨ X j) → j < w.heap.size := fun j hj => hj.elim (fun e => (h1.ownLt e).2) fun e => (h.lt j (hXY j e)).2
 refine (rstep_any hX hlt c hc pa pn pc ⟨hrd, fun b o s e hn' hN => ?_, hnil, hle⟩ hpn hs ht g.srt (by omega) g.used g.r0 g.r1 g.fuse (by omega)).mono ?_
 ·
  rcases hlo b o s e hn' with h5 | ⟨h5, h6⟩
  ·
   rcases hN with (hN | hN) | hN
   ·
    have := (h1.ownLt hN).1; omega
   ·
    have := (h.lt b (hXY b hN)).1; omega
   ·
    have := (h3.ownLt hN).1; omega
  ·
   rcases hN with (hN | hN) | hN
   ·
    exact h4 b h5 hN
   ·
    exact h6 hN
   ·
    exact h3.noF b hN (.inr h5)
 ·
  rintro e w' ⟨rfl, lv', k1, k2⟩
  exact ⟨rfl, ⟨⟨S, lv', h1.sta (fun k hk ho => h3.noF k hk (.inl ho)) k2, h2, k1, fun j hj => h4 j (hXY j hj)⟩, fun j hj => ⟨(h.lt j (hXY j hj)).1, Nat.lt_of_lt_of_le (h.lt j (hXY j hj)).2 k2.size⟩⟩, k2.below h3, fun j hj => k2.block j (h.lt j hj).2 fun ho => h3.noF j ho (.inr hj)⟩
theorem Rel.step0 {X : Nat → Prop} {B d m N : Nat} {A1 A2 : Ad} {w : World} (h : Rel X B d m N A1 A2 w) (g : Gs A2) (hn : A2.now.length ≤ 1000000) (hb : A2.loose.length ≤ 1000000) (k : Nat) (hc : k ≤ 3) (s t : ByteArray) (hs : s.size ≤ maxLen) (ht : t.size ≤ maxLen) :
  Calls Tryz.prog 39 #[.pointer (some ⟨m, 0, none⟩), .agg #[.int .i64 (k : Int), .string s, .string t, .slice none 0 0]] w fun e w' => e = .returned (.int .i64 (A2.step ⟨k, s, t, []⟩).2) ∧ Rel X B d m N A1 (A2.step ⟨k, s, t, []⟩).1 w' ∧ Below B w w' ∧ KpX X w w' :=
 h.stepX (fun _ hj => hj) g hn hb ⟨k, s, t, []⟩ hc none 0 0 ⟨rfl, fun z hz => (by cases hz), .inl rfl⟩ (fun b o s e => by cases e) (fun _ => rfl) (Nat.le_refl _) (by omega) hs ht
theorem Rel.mkf {X : Nat → Prop} {B d m N : Nat} {A1 A2 : Ad} {w : World} (h : Rel X B d m N A1 A2 w) (g : Gs A2) (hn : A2.now.length ≤ 1000000) (hb : A2.loose.length ≤ 1000000) (s : ByteArray) (hs : s.size ≤ maxLen) :
  Calls Tryz.prog 39 #[.pointer (some ⟨m, 0, none⟩), .agg #[.int .i64 0, .string s, .string ⟨#[]⟩, .slice none 0 0]] w fun e w' => e = .returned (.int .i64 (A2.step ⟨0, s, ⟨#[]⟩, []⟩).2) ∧ Rel X B d m N A1 (A2.step ⟨0, s, ⟨#[]⟩, []⟩).1 w' ∧ Below B w w' ∧ KpX X w w' :=
 h.step0 g hn hb 0 (by omega) s ⟨#[]⟩ hs (by unfold maxLen; exact Nat.zero_le _)
theorem Rel.rm {X : Nat → Prop} {B d m N : Nat} {A1 A2 : Ad} {w : World} (h : Rel X B d m N A1 A2 w) (g : Gs A2) (hn : A2.now.length ≤ 1000000) (hb : A2.loose.length ≤ 1000000) (s : ByteArray) (hs : s.size ≤ maxLen) :
  Calls Tryz.prog 39 #[.pointer (some ⟨m, 0, none⟩), .agg #[.int .i64 2, .string s, .string ⟨#[]⟩, .slice none 0 0]] w fun e w' => e = .returned (.int .i64 (A2.step ⟨2, s, ⟨#[]⟩, []⟩).2) ∧ Rel X B d m N A1 (A2.step ⟨2, s, ⟨#[]⟩, []⟩).1 w' ∧ Below B w w' ∧ KpX X w w' :=
 h.step0 g hn hb 2 (by omega) s ⟨#[]⟩ hs (by unfold maxLen; exact Nat.zero_le _)
theorem Rel.mv {X : Nat → Prop} {B d m N : Nat} {A1 A2 : Ad} {w : World} (h : Rel X B d m N A1 A2 w) (g : Gs A2) (hn : A2.now.length ≤ 1000000) (hb : A2.loose.length ≤ 1000000) (s t : ByteArray) (hs : s.size ≤ maxLen) (ht : t.size ≤ maxLen) :
  Calls Tryz.prog 39 #[.pointer (some ⟨m, 0, none⟩), .agg #[.int .i64 3, .string s, .string t, .slice none 0 0]] w fun e w' => e = .returned (.int .i64 (A2.step ⟨3, s, t, []⟩).2) ∧ Rel X B d m N A1 (A2.step ⟨3, s, t, []⟩).1 w' ∧ Below B w w' ∧ KpX X w w' :=
 h.step0 g hn hb 3 (by omega) s t hs ht
theorem Rel.ap {X Y : Nat → Prop} {B d m N : Nat} {A1 A2 : Ad} {w : World} (h : Rel Y B d m N A1 A2 w) (hXY : ∀ j, X j → Y j) (g : Gs A2) (hn : A2.now.length ≤ 1000000) (hb : A2.loose.length ≤ 1000000) (s : ByteArray) (hs : s.size ≤ maxLen) (pa : Option Addr) (pn pc : Nat) (z : List Nat) (hrd : Rd w pa pn z)
  (hlo : ∀ b o s, pa = some ⟨b, o, s⟩ → pn ≠ 0 → b < B ∨ (Y b ∧ ¬ X b)) (hnil : pa = none → pc = 0) (hle : pn ≤ pc) (hpn : pn ≤ 140737488355327) :
  Calls Tryz.prog 39 #[.pointer (some ⟨m, 0, none⟩), .agg #[.int .i64 1, .string s, .string ⟨#[]⟩, .slice pa pn pc]] w fun e w' => e = .returned (.int .i64 (A2.step ⟨1, s, ⟨#[]⟩, z⟩).2) ∧ Rel X B d m N A1 (A2.step ⟨1, s, ⟨#[]⟩, z⟩).1 w' ∧ Below B w w' ∧ KpX Y w w' :=
 h.stepX hXY g hn hb ⟨1, s, ⟨#[]⟩, z⟩ (by show 1 ≤ 3; omega) pa pn pc hrd hlo hnil hle hpn hs (by unfold maxLen; exact Nat.zero_le _)
theorem Rel.syncS {X : Nat → Prop} {B d m N : Nat} {A1 A2 : Ad} {w : World} (h : Rel X B d m N A1 A2 w) (g : Gs A2) :
  Calls Tryz.prog 14 #[.pointer (some ⟨m, 0, none⟩)] w fun e w' => e = .returned (.int .i64 A2.sync.2) ∧ Rel X B d m N A1 A2.sync.1 w' ∧ Below B w w' ∧ KpX X w w' :=
 h.doc fun F lv hr hF hFB => rsync_c hr g.fuse
end Go.Proofs.YtihbgigledmliaaGreat

namespace Go.Proofs.YtihbgigledmliaaGreat
open Go.RowKit
set_option linter.unusedVariables false
set_option maxRecDepth 100000 in
set_option maxHeartbeats 4000000 in
theorem rframe_c (a : Option Addr) (len cap : Nat) (p : List Nat) (w : World) (h : Rd w a len p) (hnil : a = none → cap = 0) (hm : len ≤ 140737488355000) :
  Calls Tryz.prog 45 #[.slice a len cap] w (RetB w.heap.size w (Frm.frameL p)) := by
 have hpl := h.1
 have HP := Lib.hid h
 have HNIL := Lib.hid hnil
 obtain ⟨N4, hN4⟩ : ∃ N4, N4 = Numm.put len 4 := ⟨_, rfl⟩
 have hNl : N4.length = 4 := by rw [hN4, Numm.put_len]
 have HNB := Lib.hid (show ∀ z ∈ N4, z < 256 from by rw [hN4]; exact Numm.put_byte _ _)
 have HPUT0 := Lib.hid ((refPut_in len 4 w (by omega) (by omega) (by omega)).mono (RetB.form (Numm.put_byte _ _)))
 rw [← hN4] at HPUT0
 obtain ⟨K, hK⟩ : ∃ K, K = Frm.crcL (N4 ++ p) := ⟨_, rfl⟩
 have HK32 := Lib.hid (show K < 4294967296 from by rw [hK]; exact Frm.crc_lt _)
 have HEND := Lib.hid (show Frm.frameL p = N4 ++ Numm.put K 4 ++ p from by rw [hK, hN4, ← hpl, List.append_assoc]; rfl)
 have HKE := Lib.hid (show 4294967295 - Crcm.reg 4294967295 (N4 ++ p) = K from hK.symm)
 have HNL := Lib.hid hNl
 have HPL := Lib.hid hpl
 have HNPB := Lib.hid (show ∀ z ∈ N4 ++ p, z < 256 from fun z hz => (List.mem_append.1 hz).elim (HNB.out z) (h.2.1 z))
 have HLE1 := Lib.hid (show N4.length + p.length ≤ 140737488355328 from by rw [hNl, hpl]; omega)
 clear h hnil hK hN4 hNl hpl
 go_enter Tryz.func45, Tryz.ntmps45
 go_wp2_with fail
 refine HPUT0.out.mono ?_
 rintro e1 w1 ⟨a1, L1, c1, rfl, hl1, hlc1, hcm1, hn1, hr1, ho1, hb1⟩
 have hL1 : L1 = 4 := by rw [← hl1, HNL.out]
 subst hL1
 have HO1 := Lib.hid ho1
 have HB1 := Lib.hid hb1
 have HTW := Lib.hid ((twin_c a1 4 c1 N4 w1 hr1 (by omega)).mono (RetB.form HNB.out))
 clear hl1 hlc1 hcm1 hn1 hr1 ho1 hb1 HPUT0
 go_wp2_with fail
 refine HTW.out.mono ?_
 rintro e2 w2 ⟨a2, L2, c2, rfl, hl2, hlc2, hcm2, hn2, hr2, ho2, hb2⟩
 have hL2 : L2 = 4 := by rw [← hl2, HNL.out]
 subst hL2
 have HO2 := Lib.hid ho2
 have H12 := Lib.hid hb2
 have HRP := Lib.hid (HP.out.below (HB1.out.trans (hb2.mono HB1.out.size)))
 have hsz2 := hb2.size
 clear hl2 hlc2 hcm2 hn2 hr2 ho2 hb2 HTW
 go_upto_region 4 with (at_builtin; (refine wpList_catR rfl (.tmp 11) (.tmp 12) rfl w1.heap.size _ N4 p rfl HO2.out hsz2 _ _ _ rfl HRP.out HNIL.out HNB.out HLE1.out ?_); intro a3 L3 c3 w3 g1 g2 g3 g4 g5 g6 g7; have HL3 := Lib.hid g1; have HC3 := Lib.hid (And.intro g2 g3); have HR3 := Lib.hid g5; have H13 := Lib.hid (H12.out.trans g7); clear g1 g2 g3 g4 g5 g6 g7)
 have HCRC := Lib.hid (refCrc_c a3 L3 c3 (N4 ++ p) w3 HR3.out (by rw [← HL3.out, List.length_append, HNL.out, HPL.out]; omega))
 rw [HKE.out] at HCRC
 have HPUT := Lib.hid ((refPut_in K 4 w3 (by have := HK32.out; omega) (by omega) (by omega)).mono (RetB.form (Numm.put_byte _ _)))
 have hwK : IntKind.u64.wrap (K : Int) = (K : Int) := wrap_u64_nat K (by have := HK32.out; omega)
 go_wp2_with fail
 refine HCRC.out.mono ?_
 rintro e4 w4 ⟨rfl, rfl⟩
 go_wp2_with fail
 refine HPUT.out.mono ?_
 rintro e5 w5 ⟨a5, L5, c5, rfl, hl5, hlc5, hcm5, hn5, hr5, ho5, hb5⟩
 have HO5 := Lib.hid (HO1.out.keep (H13.out.trans (hb5.mono H13.out.size)))
 have HB5 := Lib.hid (HB1.out.trans ((H13.out.trans (hb5.mono H13.out.size)).mono HB1.out.size))
 have HR5 := Lib.hid hr5
 have HN5 := Lib.hid hn5
 have HLE5 := Lib.hid (show N4.length + (Numm.put K 4).length ≤ 140737488355328 from by rw [HNL.out, Numm.put_len]; omega)
 clear hl5 hlc5 hcm5 hn5 hr5 ho5 hb5 HPUT HCRC hwK
 have hsz5 := HB5.out.size
 obtain ⟨C4, hC4⟩ : ∃ C4, C4 = Numm.put K 4 := ⟨_, rfl⟩
 rw [← hC4] at HEND HR5 HLE5
 have HCB := Lib.hid (show ∀ z ∈ N4 ++ C4, z < 256 from fun z hz => (List.mem_append.1 hz).elim (HNB.out z) (fun h => by rw [hC4] at h; exact Numm.put_byte _ _ z h))
 have HLE6 := Lib.hid (show (N4 ++ C4).length + p.length ≤ 140737488355328 from by rw [List.length_append, HNL.out, HPL.out, hC4, Numm.put_len]; omega)
 clear hC4
 go_upto_region 5 with (at_builtin; (refine wpList_catR rfl (.tmp 14) (.tmp 18) rfl w.heap.size _ N4 C4 rfl HO5.out hsz5 _ _ _ rfl HR5.out HN5.out HNB.out HLE5.out ?_); intro a6 L6 c6 w6 g1 g2 g3 g4 g5 g6 g7; have HO6 := Lib.hid g6; have HB6 := Lib.hid (HB5.out.trans g7); clear g1 g2 g3 g4 g5 g6 g7)
 have HRP6 := Lib.hid (HP.out.below HB6.out)
 have hsz6 := HB6.out.size
 clear HO5 HB5
 go_wp2_with (at_builtin; (refine wpList_catR rfl (.tmp 20) (.tmp 21) rfl w.heap.size _ (N4 ++ C4) p rfl HO6.out hsz6 _ _ _ rfl HRP6.out HNIL.out HCB.out HLE6.out ?_); intro a7 L7 c7 w7 g1 g2 g3 g4 g5 g6 g7; have HO7 := Lib.hid g6; have HB7 := Lib.hid (HB6.out.trans g7); clear g1 g2 g3 g4 g5 g6 g7)
 go_ret
 refine ⟨_, rfl, ?_, HB7.out⟩
 rw [HEND.out]
 exact HO7.out
end Go.Proofs.YtihbgigledmliaaGreat

namespace Go.Proofs.YtihbgigledmliaaGreat
open Go.RowKit
set_option linter.unusedVariables false
/-- bytes in a block of bytes -/
def Bz (B : Nat) (W : World) (v : Value) (p : List Nat) : Prop := ∃ a n c, v = .slice a n c ∧ n ≤ c ∧ c ≤ 9223372036854775807 ∧ (a = none → c = 0) ∧ p.length = n ∧ (∀ z ∈ p, z < 256) ∧ (n = 0 ∨ ∃ g off cur fr, a = some ⟨g, off, none⟩ ∧ B ≤ g ∧ W.heap[g]? = some (.cells cur 5 fr) ∧ ∀ i, i < n → cur[off + i]? = some (.int .u8 ((p.getD i 0 : Nat) : Int)))
theorem Bz.keep {B : Nat} {W W' : World} {v : Value} {p : List Nat} (h : Bz B W v p) (hk : KeepsB W W') : Bz B W' v p := by
 obtain ⟨a, n, c, h1, h2, h3, h4, h5, h6, h7⟩ := h
 refine ⟨a, n, c, h1, h2, h3, h4, h5, h6, h7.imp id ?_⟩
 rintro ⟨g, off, cur, fr, e1, e0, e2, e3⟩
 exact ⟨g, off, cur, fr, e1, e0, hk g cur fr e2, e3⟩
theorem Bz.rd {B : Nat} {W : World} {v : Value} {p : List Nat} (h : Bz B W v p) : ∃ a n c, v = .slice a n c ∧ n ≤ c ∧ c ≤ 9223372036854775807 ∧ (a = none → c = 0) ∧ Rd W a n p := by
 obtain ⟨a, n, c, h1, h2, h3, h4, h5, h6, h7⟩ := h
 refine ⟨a, n, c, h1, h2, h3, h4, h5, h6, h7.imp id ?_⟩
 rintro ⟨g, off, cur, fr, e1, e0, e2, e3⟩
 refine ⟨g, off, e1, (Array.getElem?_eq_some_iff.1 e2).1, fun i hi => ?_⟩
 rw [cell_of_row W g (off + i) cur _ _ e2]
 exact e3 i hi
theorem bz_own {W : World} {B : Nat} {a : Option Addr} {L c : Nat} {p : List Nat} (h : Own W B (.slice a L c) p) (hl : p.length = L) (hb : ∀ z ∈ p, z < 256) (hn : a = none → c = 0) : Bz B W (.slice a L c) p := by
 rcases h.2 with ⟨h0, h1⟩ | ⟨g, cap, cur, hv, hBg, hh, hnc, hcm, hs, ht⟩
 ·
  obtain ⟨e1, e2, e3⟩ := Value.slice.inj h0
  subst e1 e2 e3
  exact ⟨none, 0, 0, rfl, by omega, by omega, fun _ => rfl, hl, hb, .inl rfl⟩
 ·
  obtain ⟨e1, e2, e3⟩ := Value.slice.inj hv
  subst e1 e3
  refine ⟨_, L, c, rfl, by omega, hcm, fun e => (by cases e), hl, hb, .inr ⟨g, 0, cur, (0, 0), rfl, hBg, hh, fun i hi => ?_⟩⟩
  have e := congrArg (fun l => l[i]?) ht
  simp only [Nat.mul_one, List.getElem?_take] at e
  rw [if_pos (by omega), cellsOf_get p i (by omega), Array.getElem?_toList] at e
  rw [Nat.zero_add]
  exact e
structure Bzs (B : Nat) (W : World) (vs : List Value) (ps : List (List Nat)) : Prop where
 len : vs.length = ps.length
 at_ : ∀ (i : Nat) (v : Value) (p : List Nat), vs[i]? = some v → ps[i]? = some p → Bz B W v p
theorem Bzs.nil (B : Nat) (W : World) : Bzs B W [] [] := ⟨rfl, fun i v p h => by simp at h⟩
theorem Bzs.keep {B : Nat} {W W' : World} {vs : List Value} {ps : List (List Nat)} (h : Bzs B W vs ps) (hk : KeepsB W W') : Bzs B W' vs ps := ⟨h.len, fun i v p a b => (h.at_ i v p a b).keep hk⟩
theorem Bzs.push {B : Nat} {W : World} {vs : List Value} {ps : List (List Nat)} (h : Bzs B W vs ps) {v : Value} {p : List Nat} (hb : Bz B W v p) : Bzs B W (vs ++ [v]) (ps ++ [p]) where
 len := by simp [h.len]
 at_ := fun i u q hu hq => by
  have h1 := h.len
  by_cases hi : i < ps.length
  ·
   rw [List.getElem?_append_left (by omega)] at hu hq
   exact h.at_ i u q hu hq
  ·
   rw [List.getElem?_append_right (by omega)] at hu hq
   have hz : i - ps.length = 0 := by
    have := (List.getElem?_eq_some_iff.1 hq).1
    simp at this
    omega
   rw [h1, hz] at hu
   rw [hz] at hq
   simp at hu hq
   subst hu hq
   exact hb
structure RsW (w : World) (b : List Nat) (used : Nat) (v : Value) (W : World) : Prop where
 ex : ∃ vs ps, OwnV W w.heap.size v vs ∧ Bzs w.heap.size W vs ps ∧ 8 * ps.length ≤ used ∧ Frm.scanL b = (ps ++ (Frm.scanL (b.drop used)).1, used + (Frm.scanL (b.drop used)).2)
 le : used ≤ b.length
 below : Below w.heap.size w W
def RscanR (w : World) (b : List Nat) (e : Ending) (w' : World) : Prop :=
 ∃ v vs, e = .returned (.tuple #[v, .int .i64 (((Frm.scanL b).2 : Nat) : Int)]) ∧ OwnV w' w.heap.size v vs ∧ Bzs w.heap.size w' vs (Frm.scanL b).1 ∧ Below w.heap.size w w'
theorem RsW.step {w W W' : World} {b : List Nat} {used : Nat} {v : Value} (h : RsW w b used v W) (hb : Below W.heap.size W W') : RsW w b used v W' := by
 obtain ⟨vs, ps, ho, hr, hc, hs⟩ := h.ex
 exact ⟨⟨vs, ps, ho.keep hb, hr.keep (KeepsB.of hb), hc, hs⟩, h.le, h.below.trans (hb.mono h.below.size)⟩
theorem RsW.last {w W : World} {b : List Nat} {used : Nat} {v : Value} (h : RsW w b used v W) (hn : Frm.firstL (b.drop used) = none) : RscanR w b (.returned (.tuple #[v, .int .i64 (used : Int)])) W := by
 obtain ⟨vs, ps, ho, hr, _, hs⟩ := h.ex
 rw [Frm.scan_none hn, List.append_nil, Nat.add_zero] at hs
 exact ⟨v, vs, by rw [hs], ho, by rw [hs]; exact hr, h.below⟩
theorem RsW.more {w W W' : World} {b : List Nat} {used : Nat} {v' : Value} {vs : List Value} {ps : List (List Nat)} {y : Value} {p : List Nat}
  (hle : used ≤ b.length) (hc : 8 * ps.length ≤ used) (hs : Frm.scanL b = (ps ++ (Frm.scanL (b.drop used)).1, used + (Frm.scanL (b.drop used)).2)) (hf : Frm.firstL (b.drop used) = some p)
  (ho : OwnV W' w.heap.size v' (vs ++ [y])) (hr : Bzs w.heap.size W vs ps) (hk : KeepsB W W') (hrc : Bz w.heap.size W y p) (hb : Below w.heap.size w W') : RsW w b (used + (8 + p.length)) v' W' := by
 obtain ⟨h1, _⟩ := Frm.first_some hf
 rw [List.length_drop] at h1
 refine ⟨⟨vs ++ [y], ps ++ [p], ho, (hr.push hrc).keep hk, by simp; omega, ?_⟩, by omega, hb⟩
 rw [hs, Frm.scan_some hf, List.drop_drop]
 simp only [List.append_assoc, List.singleton_append, Prod.mk.injEq]
 exact ⟨trivial, by omega⟩
theorem word_take (b : List Nat) (h : 4 ≤ b.length) : Numm.num 0 (b.take 4) = Frm.wordL b := by
 match b, h with
 | x :: y :: z :: t :: r, _ => rfl
set_option maxRecDepth 100000 in
set_option maxHeartbeats 4000000 in
theorem rscan_w (a : Option Addr) (len cap : Nat) (b : List Nat) (w : World) (h : Rd w a len b) (hlc : len ≤ cap) (hm : len ≤ 1000000000) :
  Calls Tryz.prog 40 #[.slice a len cap] w (RscanR w b) := by
 have hbl := h.1
 have HR := Lib.hid h
 have HBL := Lib.hid hbl
 have HS0 : Hid (RsW w b 0 (.slice none 0 0) w) := Lib.hid ⟨⟨[], [], OwnV.nil _ _, Bzs.nil _ _, by simp, by simp⟩, Nat.zero_le _, Below.refl _ _⟩
 clear h hbl
 go_enter Tryz.func40, Tryz.ntmps40
 go_wp2_with fail
 go_loopw [4, 5] (fun v i wr => ∃ used : Nat, used ≤ len ∧ i = .int .i64 used ∧ Hid (RsW w b used v wr)) (fun _ i _ => len - (intOf i).toNat)
 case atStart => exact ⟨0, Nat.zero_le _, rfl, HS0⟩
 case round =>
  clear HS0
  obtain ⟨used, hu, rfl, HS⟩ := hrel
  by_cases h8 : len - used < 8
  ·
   have HFN := Lib.hid (show Frm.firstL (b.drop used) = none from Frm.first_short (by rw [List.length_drop, HBL.out]; exact h8))
   have i1 : ¬ (len : Int) - (used : Int) ≥ 8 := by omega
   have HE := Lib.hid (HS.out.last HFN.out)
   go_wp2_with fail
   go_ret2
   exact HE.out
  ·
   have i1 : (len : Int) - (used : Int) ≥ 8 := by omega
   obtain ⟨n, hn⟩ : ∃ n, n = Frm.wordL (b.drop used) := ⟨_, rfl⟩
   have hdl : (b.drop used).length = len - used := by rw [List.length_drop, HBL.out]
   have hrw := (HR.out.below HS.out.below).cut cap used hu hlc
   have HRW := Lib.hid hrw
   have HG := Lib.hid (refGet_c (sla a cap used) 4 (cap - used) ((b.drop used).take 4) wr (hrw.take 4 (by omega)) (by omega))
   rw [word_take _ (by omega), ← hn] at HG
   have HN32 := Lib.hid (show n < 4294967296 from by
    have h1 := Numm.num_lt ((b.drop used).take 4) (fun z hz => hrw.2.1 z (List.mem_of_mem_take hz))
    rw [word_take _ (by omega), ← hn, List.length_take, hdl, Nat.min_eq_left (by omega)] at h1
    exact h1)
   have kM : ∀ W : World, (Instr.sliceAt 38 (.slice a len cap) (some (.int .i64 (used : Int))) (some (.int .i64 ((used : Int) + 4))) none).run Tryz.prog W = .ok (.slice (sla a cap used) 4 (cap - used)) W := fun W => by
    have h1 := run_midAt W a len cap used (used + 4) (by omega) (by omega)
    rw [show used + 4 - used = 4 by omega, show (((used + 4 : Nat) : Nat) : Int) = (used : Int) + 4 by omega] at h1
    exact h1
   by_cases hbig : 1048576 < n
   ·
    have HFN := Lib.hid (show Frm.firstL (b.drop used) = none from Frm.first_none fun hk => by have := hk.2.1; omega)
    have i2 : (n : Int) > 1048576 := by omega
    have HE := Lib.hid (HS.out.last HFN.out)
    clear hn hrw hdl HFN HS
    go_wp2_with fail
    refine HG.out.mono ?_
    rintro e w2 ⟨rfl, rfl⟩
    go_wp2_with fail
    go_ret2
    exact HE.out
   ·
    have i2 : ¬ (n : Int) > 1048576 := by omega
    have hwu : IntKind.u64.wrap ((len : Int) - (used : Int) - 8) = (len : Int) - (used : Int) - 8 := by
     have := wrap_u64_nat (len - used - 8) (by omega)
     rw [show ((len - used - 8 : Nat) : Int) = (len : Int) - (used : Int) - 8 by omega] at this
     exact this
    by_cases hsh : len - used - 8 < n
    ·
     have HFN := Lib.hid (show Frm.firstL (b.drop used) = none from Frm.first_none fun hk => by have := hk.2.2.1; omega)
     have i3 : (n : Int) > (len : Int) - (used : Int) - 8 := by omega
     have HE := Lib.hid (HS.out.last HFN.out)
     clear hn hrw hdl HFN HS
     go_wp2_with fail
     refine HG.out.mono ?_
     rintro e w2 ⟨rfl, rfl⟩
     go_wp2_with fail
     go_ret2
     exact HE.out
    ·
     have i3 : ¬ (n : Int) > (len : Int) - (used : Int) - 8 := by omega
     obtain ⟨p, hp⟩ : ∃ p, p = ((b.drop used).drop 8).take n := ⟨_, rfl⟩
     have HRP := Lib.hid (show Rd wr (sla a cap (used + 8)) n p from by
      have h1 := ((HR.out.below HS.out.below).cut cap (used + 8) (by omega) hlc).take n (by omega)
      rw [hp, List.drop_drop]; exact h1)
     have HRB := Lib.hid (show Rd wr (sla a cap used) (8 + n) ((b.drop used).take (8 + n)) from hrw.take (8 + n) (by omega))
     have hpl : p.length = n := HRP.out.1
     have HFL := Lib.hid (show Frm.firstL (b.drop used) = if Frm.frameL p = (b.drop used).take (8 + n) then some p else none from by
      unfold Frm.firstL
      by_cases hf : Frm.frameL p = (b.drop used).take (8 + n)
      ·
       rw [if_pos hf, if_pos ⟨by omega, by omega, by omega, by rw [← hn, ← hp]; exact hf⟩, ← hn, ← hp]
      ·
       rw [if_neg hf, if_neg fun hk => hf (by have := hk.2.2.2; rw [← hn, ← hp] at this; exact this)])
     have HPB := Lib.hid HRP.out.2.1
     have HFB := Lib.hid (Frm.frame_byte p HRP.out.2.1)
     have HFN := Lib.hid (show (Frm.frameL p).length = 8 + n from by rw [Frm.frame_len, hpl])
     have HPL := Lib.hid hpl
     have HTW := Lib.hid ((twin_c _ n (cap - (used + 8)) p wr HRP.out (by omega)).mono (RetB.form HRP.out.2.1))
     have kN : ∀ W : World, (Instr.sliceAt 38 (.slice a len cap) (some (.int .i64 ((used : Int) + 8))) (some (.int .i64 ((used : Int) + 8 + (n : Int)))) none).run Tryz.prog W = .ok (.slice (sla a cap (used + 8)) n (cap - (used + 8))) W := fun W => by
      have h1 := run_midAt W a len cap (used + 8) (used + 8 + n) (by omega) (by omega)
      rw [show used + 8 + n - (used + 8) = n by omega, show (((used + 8 + n : Nat) : Nat) : Int) = (used : Int) + 8 + (n : Int) by omega, show (((used + 8 : Nat) : Nat) : Int) = (used : Int) + 8 by omega] at h1
      exact h1
     have kP : ∀ W : World, (Instr.sliceAt 38 (.slice a len cap) (some (.int .i64 (used : Int))) (some (.int .i64 ((used : Int) + 8 + (n : Int)))) none).run Tryz.prog W = .ok (.slice (sla a cap used) (8 + n) (cap - used)) W := fun W => by
      have h1 := run_midAt W a len cap used (used + 8 + n) (by omega) (by omega)
      rw [show used + 8 + n - used = 8 + n by omega, show (((used + 8 + n : Nat) : Nat) : Int) = (used : Int) + 8 + (n : Int) by omega] at h1
      exact h1
     have q0 : used + 8 + n ≤ len := by omega
     clear hn hrw hdl hp hpl HRW HRP
     go_wp2_with fail
     refine HG.out.mono ?_
     rintro e w1 ⟨rfl, rfl⟩
     go_wp2_with fail
     refine HTW.out.mono ?_
     rintro e w2 ⟨a2, L2, c2, rfl, hl2, hlc2, hcm2, hn2, hr2, ho2, hb2⟩
     obtain rfl : n = L2 := by rw [← hl2, HPL.out]
     have HBZ2 := Lib.hid (bz_own (own_base ho2 HS.out.below.size) hl2 HPB.out hn2)
     have HS2 := Lib.hid (HS.out.step hb2)
     have HRB2 := Lib.hid (HRB.out.below hb2)
     have HFR := Lib.hid ((rframe_c a2 n c2 p w2 hr2 hn2 (by omega)).mono (RetB.form HFB.out))
     clear hl2 hlc2 hcm2 hn2 hr2 ho2 hb2 HS HRB HTW HG
     go_wp2_with fail
     refine HFR.out.mono ?_
     rintro e w3 ⟨a3, L3, c3, rfl, hl3, hlc3, hcm3, hn3, hr3, ho3, hb3⟩
     obtain rfl : L3 = 8 + n := by rw [← hl3, HFN.out]
     have HBZ3 := Lib.hid (HBZ2.out.keep (KeepsB.of hb3))
     have HS3 := Lib.hid (HS2.out.step hb3)
     have HEQ := Lib.hid (same_c a3 (sla a cap used) (8 + n) c3 (8 + n) (cap - used) _ _ w3 hr3 (HRB2.out.below hb3) (by omega))
     clear hl3 hlc3 hcm3 hn3 hr3 ho3 hb3 HS2 HBZ2 HRB2 HFR HFB HFN
     by_cases hf : Frm.frameL p = (b.drop used).take (8 + n)
     ·
      have HFS := Lib.hid (show Frm.firstL (b.drop used) = some p from by rw [HFL.out, if_pos hf])
      rw [decide_eq_true hf] at HEQ
      clear hf HFL
      obtain ⟨vs, ps, hov, hrs, hcnt, hst⟩ := HS3.out.ex
      have hvl : vs.length + 1 ≤ 1000000000 := by rw [hrs.len]; omega
      have HRS := Lib.hid hrs
      have HST := Lib.hid hst
      have HCN := Lib.hid hcnt
      have HOV := Lib.hid (fun q => show OwnV (w3.drewN q) w.heap.size u4 vs from hov.keep (below_drewN' _ _ q))
      have HB3 := Lib.hid HS3.out.below
      have hsz : ∀ q, w.heap.size ≤ (w3.drewN q).heap.size := fun q => HB3.out.size
      clear hrs hst hcnt hov HS3
      go_wp2_with fail
      refine HEQ.out.mono ?_
      rintro e w4 ⟨rfl, q, rfl⟩
      go_wp2_with (at_builtin; (refine wpList_pushV rfl _ _ rfl w.heap.size u4 vs (.slice a2 n c2) rfl rfl (HOV.out q) (hsz q) rfl hvl ?_); intro v1 w1 hown1 hk1 hb1)
      have HM := Lib.hid (show RsW w b (used + (8 + n)) v1 w1 from by
       rw [← HPL.out]
       refine RsW.more (W := w3.drewN q) (by rw [HBL.out]; exact hu) HCN.out HST.out HFS.out hown1 (HRS.out.keep (KeepsB.of (below_drewN' _ _ q))) hk1 (HBZ3.out.keep (KeepsB.of (below_drewN' _ _ q))) ((HB3.out.trans (below_drewN' _ _ q)).trans hb1))
      clear hown1 hk1 hb1 HRS HOV HST HCN HB3 HBZ3 hsz
      go_roundw
      case rel => exact ⟨used + (8 + n), by omega, by go_num, HM⟩
      case measure => simp [intOf]; omega
     ·
      have HFS := Lib.hid (show Frm.firstL (b.drop used) = none from by rw [HFL.out, if_neg hf])
      rw [decide_eq_false hf] at HEQ
      have HE := Lib.hid (fun q => (HS3.out.step (below_drewN' _ w3 q)).last HFS.out)
      clear hf HFL HS3
      go_wp2_with fail
      refine HEQ.out.mono ?_
      rintro e w4 ⟨rfl, q, rfl⟩
      go_wp2_with fail
      go_ret2
      exact HE.out q
end Go.Proofs.YtihbgigledmliaaGreat

