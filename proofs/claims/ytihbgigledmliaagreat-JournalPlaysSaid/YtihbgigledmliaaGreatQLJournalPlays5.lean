/-
  What is used of: Jpc Stv Jol Jpd Jpe Jpf Jpg Jph Jnb Jpj.
-/
import Derived.Test.YtihbgigledmliaaGreatQLJournalPlays4
import Derived.WalkKit
import Derived.WalkSpells
import Derived.WalkLawsBesides
import Derived.Lib.Hide
import Derived.Laws.BitsAllLaws
import Derived.Laws.AppendOwnNone
import Derived.BigQuiet
import Derived.Deep.QuietTactic
import Derived.Deep.MidRow
import Derived.Deep.RegionWith
import Derived.OrdersHeld
import Derived.Deep.RegionHeld
import Derived.RowKit
import Derived.Deep.RegionHeld3
import Derived.Deep.DrawnRows
import Derived.ProofKit
import Derived.OpenShut
import Derived.ShutString
import Derived.ChangeOld
import Derived.SizedLaws
import Derived.Laws.CopyOwn
import Derived.Laws.Rows
import Derived.Laws.Tables
import Derived.StillTailTactics
import Derived.Deep.CutRange
import Derived.Great.BuildSlice
import Derived.Maps.OwnSet
import Derived.RangeFuncFrom
import Derived.RangeFuncCalls
import Derived.RangeFuncLeaves
import Derived.OwnWalkIn
import Derived.TacticsInMore
import Derived.LoopNIn
import Derived.LoopIn
import Derived.Shelf.LaysM
import Derived.Shelf.Strconv.Clone
import Derived.Shelf.Sort.Plain
import Derived.Shelf.Strings.Prefix
import Derived.Shelf.Slices.In.SortNone
import Derived.Shelf.Bytes.SlEqualAll
import Derived.Shelf.Bytes.Small
import Derived.Maps.AppendAt
import Derived.Orders
import Derived.Sort.OwnSorted
import Derived.Maps.RangeWalk
import Derived.Lib.AppendZerosOnto
import Derived.Deep.Slices
import Derived.Deep.Fields
import Derived.Deep.Upon
import Derived.Lib.SlBytesConst
import Derived.Deep.CutBlock
namespace Go.Proofs.YtihbgigledmliaaGreat
open Go.RowKit
set_option linter.unusedVariables false
theorem step_down {A : Ad} (h : A.down = true) (c : DCh) : A.step c = (A, 5) := by unfold Ad.step; rw [if_pos h]
theorem rw_down {A : Ad} (h : A.down = true) (nm sp : ByteArray) (z : List Nat) : A.rw nm sp z = (A, 5) := by
 unfold Ad.rw rwS
 have e : rmA sp A = (A, 5) := by unfold rmA; rw [step_down h]; rfl
 rw [show runA [rmA sp, mkA sp, apF sp z, Ad.sync, mvA sp nm, Ad.sync] A = (A, 5) from by unfold runA; rw [e]; rfl]
 rfl
theorem step_rm {A : Ad} (h : A.down = false) (sp : ByteArray) : (lookF A.now sp = none → A.step ⟨2, sp, ⟨#[]⟩, []⟩ = (A, 6)) ∧ ((lookF A.now sp).isSome → (A.step ⟨2, sp, ⟨#[]⟩, []⟩).2 ≠ 6 ∧ (A.step ⟨2, sp, ⟨#[]⟩, []⟩).2 ≠ 4) := by
 refine ⟨fun e => ?_, fun e => ?_⟩
 ·
  unfold Ad.step
  have hm : A.may ⟨2, sp, ⟨#[]⟩, []⟩ = 6 := by unfold Ad.may; rw [if_neg (by simp), e]; rfl
  rw [h, hm]
  rfl
 ·
  have hm : A.may ⟨2, sp, ⟨#[]⟩, []⟩ = 0 := by
   unfold Ad.may
   rw [if_neg (by simp), if_neg (by cases x : lookF A.now sp with | none => rw [x] at e; cases e | some z => simp [x]), if_neg (by simp), if_neg (by simp)]
  unfold Ad.step
  rw [h, hm]
  by_cases hf : A.fuse = 0
  ·
   simp [hf]
  ·
   simp [hf]
theorem rm_none {A : Ad} (h : A.down = false) {sp : ByteArray} (e : lookF A.now sp = none) : rmA sp A = (A, 0) := by
 unfold rmA; rw [(step_rm h sp).1 e]; rfl
theorem rm_some {A : Ad} (h : A.down = false) {sp : ByteArray} (e : (lookF A.now sp).isSome) : rmA sp A = A.step ⟨2, sp, ⟨#[]⟩, []⟩ := by
 unfold rmA; rw [if_neg ((step_rm h sp).2 e).1]
theorem runA_ok {f : Ad → Ad × Int} {fs : List (Ad → Ad × Int)} {A A' : Ad} (h : f A = (A', 0)) : runA (f :: fs) A = runA fs A' := by
 show (if (f A).2 ≠ 0 then f A else runA fs (f A).1) = _
 rw [h]; rfl
theorem runA_er {f : Ad → Ad × Int} {fs : List (Ad → Ad × Int)} {A A' : Ad} {x : Int} (h : f A = (A', x)) (hx : ¬ x = 0) : runA (f :: fs) A = (A', x) := by
 show (if (f A).2 ≠ 0 then f A else runA fs (f A).1) = _
 rw [h, if_pos hx]
theorem rwE_ne {sp : ByteArray} {A : Ad} {x : Int} (h : ¬ x = 4) : rwE sp (A, x) = (A, x) := by unfold rwE; rw [if_neg h]
theorem rwE_none {sp : ByteArray} {A : Ad} (h : A.down = false) (e : lookF A.now sp = none) : rwE sp (A, 4) = (A, 4) := by
 unfold rwE; rw [if_pos rfl, runA_ok (rm_none h e)]; rfl
theorem rwE_ok {sp : ByteArray} {A A' : Ad} (h : A.down = false) (e : (lookF A.now sp).isSome) (k : A.step ⟨2, sp, ⟨#[]⟩, []⟩ = (A', 0)) : rwE sp (A, 4) = (A', 4) := by
 unfold rwE; rw [if_pos rfl, runA_ok ((rm_some h e).trans k)]; rfl
theorem rwE_er {sp : ByteArray} {A A' : Ad} {x : Int} (h : A.down = false) (e : (lookF A.now sp).isSome) (k : A.step ⟨2, sp, ⟨#[]⟩, []⟩ = (A', x)) (hx : ¬ x = 0) : rwE sp (A, 4) = (A', x) := by
 unfold rwE; rw [if_pos rfl, runA_er ((rm_some h e).trans k) hx]
theorem step_full {A A' : Ad} {c : DCh} (h : A.step c = (A', 4)) : A'.down = false := by
 unfold Ad.step at h
 by_cases hd : A.down = true
 ·
  rw [if_pos hd] at h
  simp at h
 ·
  rw [if_neg hd] at h
  by_cases hm : A.may c ≠ 0
  ·
   rw [if_pos hm] at h
   rw [← (Prod.mk.inj h).1]
   simpa using hd
  ·
   rw [if_neg hm] at h
   by_cases hf : A.fuse = 0
   ·
    rw [if_pos hf] at h
    simp at h
   ·
    rw [if_neg hf] at h
    simp at h
theorem sync_full {A A' : Ad} {x : Int} (h : A.sync = (A', x)) : ¬ x = 4 := by
 unfold Ad.sync at h
 split at h
 ·
  cases h; omega
 ·
  split at h
  ·
   cases h; omega
  ·
   cases h; omega
theorem len_step {A : Ad} {k : Nat} (c : DCh) (h : A.now.length ≤ k ∧ A.loose.length ≤ k) : (A.step c).1.now.length ≤ k + 1 ∧ (A.step c).1.loose.length ≤ k + 1 := by
 unfold Ad.step
 split
 ·
  exact ⟨Nat.le_succ_of_le h.1, Nat.le_succ_of_le h.2⟩
 ·
  split
  ·
   exact ⟨Nat.le_succ_of_le h.1, Nat.le_succ_of_le h.2⟩
  ·
   split
   ·
    exact ⟨Nat.le_succ_of_le h.1, Nat.le_succ_of_le h.2⟩
   ·
    refine ⟨?_, ?_⟩
    ·
     show (doF A.now c).length ≤ k + 1
     have := length_doF A.now c
     omega
    ·
     show (A.loose ++ [c]).length ≤ k + 1
     rw [List.length_append, List.length_singleton]
     omega
theorem len_sync {A : Ad} {k : Nat} (h : A.now.length ≤ k ∧ A.loose.length ≤ k) : A.sync.1.now.length ≤ k + 1 ∧ A.sync.1.loose.length ≤ k + 1 := by
 unfold Ad.sync
 split
 ·
  exact ⟨Nat.le_succ_of_le h.1, Nat.le_succ_of_le h.2⟩
 ·
  split
  ·
   exact ⟨Nat.le_succ_of_le h.1, Nat.le_succ_of_le h.2⟩
  ·
   refine ⟨Nat.le_succ_of_le h.1, ?_⟩
   show ([] : List DCh).length ≤ k + 1
   simp
/-- a disk that a step can be done on, k the bound of its files and changes -/
structure Gk (k : Nat) (A : Ad) : Prop where
 gs : Gs A
 len : A.now.length ≤ k ∧ A.loose.length ≤ k
theorem Gk.step {k : Nat} {A : Ad} (h : Gk k A) (c : DCh) : Gk (k + 1) (A.step c).1 := ⟨h.gs.step c, len_step c h.len⟩
theorem Gk.sync {k : Nat} {A : Ad} (h : Gk k A) : Gk (k + 1) A.sync.1 := ⟨h.gs.sync, len_sync h.len⟩
theorem Rel.find {X : Nat → Prop} {B d m N : Nat} {A1 A2 : Ad} {w : World} (h : Rel X B d m N A1 A2 w) (hl : A2.now.length ≤ 1000000) : ∃ na nn nc, w.cell? ⟨m, 1, none⟩ = some (.slice na nn nc) ∧ w.cell? ⟨m, 5, none⟩ = some (.bool A2.down) ∧
  ∀ s : ByteArray, Calls Tryz.prog 38 #[.slice na nn nc, .string s] w fun e w' => e = .returned (.int .i64 (ixI (idxF A2.now s))) ∧ w' = w := by
 obtain ⟨S, lv, h1, h2, h3, h4⟩ := h.ex
 obtain ⟨na, nn, nc, sa, sn, sc, ⟨-, c1, -, -, -, c5⟩, -, r1, -⟩ := h3.cells
 exact ⟨na, nn, nc, c1, c5, fun s => rfind_c r1 s (by have := r1.ln; omega)⟩
theorem idxI_of {l : Fls} {s : ByteArray} : (lookF l s = none → ixI (idxF l s) = -1) ∧ ((lookF l s).isSome → ∃ k : Nat, ixI (idxF l s) = (k : Int)) := by
 refine ⟨fun e => ?_, fun e => ?_⟩
 ·
  cases h : idxF l s with
  | none => rfl
  | some k =>
   obtain ⟨z, _, hz⟩ := idxF_some h
   rw [e] at hz; cases hz
 ·
  cases h : idxF l s with
  | none => rw [idxF_none.1 h] at e; cases e
  | some k => exact ⟨k, rfl⟩
/-- what a call of the document's leaves -/
def LayR (X : Nat → Prop) (B d m N : Nat) (A1 : Ad) (w : World) (r : Ad × Int) (e : Ending) (w' : World) : Prop := e = .returned (.int .i64 r.2) ∧ Rel X B d m N A1 r.1 w' ∧ Below B w w' ∧ KpX X w w'
set_option maxRecDepth 100000 in
set_option maxHeartbeats 16000000 in
theorem rlay_down {X X0 : Nat → Prop} {B B0 d m N k0 : Nat} {A1 A : Ad} {w : World} (h : Rel X B d m N A1 A w) (g : Gk k0 A) (hk0 : k0 ≤ 10000) (nm : ByteArray) (hnm : nm.size ≤ 1000) (ra : Option Addr) (rn rc : Nat) (ps : List (List Nat)) (hr : Rcd X0 B0 w ra rn ps) (hrn : rn ≤ 1000000) (hfl : (Frm.flatF ps).length < 1048576) (hpb : ∀ p ∈ ps, ∀ z ∈ p, z < 256) (hd : A.down = true) :
  Calls Tryz.prog 41 #[.pointer (some ⟨m, 0, none⟩), .string nm, .slice ra rn rc] w (LayR X B d m N A1 w (A.rw nm (spJ nm) (Frm.flatF ps))) := by
 have HR := Lib.hid hr
 have HFL := Lib.hid (fun k => Nat.lt_of_le_of_lt (flat_take_le ps k) hfl)
 have HPB := Lib.hid hpb
 have HD := Lib.hid h
 have HG := Lib.hid g
 have HK := Lib.hid hk0
 have HBW := Lib.hid (show B ≤ w.heap.size from by have := h.base; omega)
 obtain ⟨z, hz⟩ : ∃ z, z = Frm.flatF ps := ⟨_, rfl⟩
 rw [← hz]
 have HZ := Lib.hid hz
 obtain ⟨sp, hsp⟩ : ∃ sp, sp = spJ nm := ⟨_, rfl⟩
 have HSP := Lib.hid hsp
 have hsm : sp.size ≤ maxLen := by rw [hsp]; unfold spJ maxLen; rw [ByteArray.size_append]; show nm.size + 1 ≤ _; omega
 have hnx : nm.size ≤ maxLen := by unfold maxLen; omega
 have HSM := Lib.hid hsm
 have HNX := Lib.hid hnx
 have hadd : ¬ 9223372036854775807 < nm.size + 1 := by omega
 rw [← hsp]
 clear hr hfl hpb h g hz hsm hnx hnm hk0
 go_enter Tryz.func41, Tryz.ntmps41
 go_wp2_with fail
 rw [show (nm ++ ⟨#[43]⟩ : ByteArray) = sp from hsp.symm]
 clear hsp hadd
 go_loopw [8, 9] (fun v i wr => ∃ k : Nat, k ≤ rn ∧ i = .int .i64 k ∧ Hid (Own wr w.heap.size v (Frm.flatF (ps.take k))) ∧ Hid (Below w.heap.size w wr)) (fun _ i _ => rn - (intOf i).toNat)
 case atStart => exact ⟨0, Nat.zero_le _, rfl, by simpa [Frm.flatF, Hid] using Own.nil w w.heap.size, Below.refl _ _⟩
 case round =>
  obtain ⟨k, hk, rfl, HO, HB⟩ := hrel
  by_cases hkn : k < rn
  ·
   obtain ⟨p, hp⟩ : ∃ p, ps[k]? = some p := ⟨_, List.getElem?_eq_getElem (by rw [HR.out.ln]; exact hkn)⟩
   have HSN := Lib.hid (Frm.flat_snoc ps k p hp)
   have hpl : p.length < 1048576 := by
    have h1 := HFL.out (k + 1)
    rw [HSN.out, List.length_append, Frm.frame_len] at h1
    omega
   obtain ⟨b, o, pa, pc, rfl, hb1, hb2, hc, hrd, _, hnil, hpc, hpm⟩ := HR.out.rc k p hp
   have hcr := (HB.out.cell (p := ⟨b, o + k, none⟩) hb2).trans hc
   have kI := fun W => run_bidx W b o rn rc k hkn
   have HPB1 := Lib.hid (HPB.out p (List.mem_of_getElem? hp))
   have HFR := Lib.hid ((rframe_c pa p.length pc p wr (hrd.below HB.out) hnil (by omega)).mono (RetB.form (Frm.frame_byte p HPB1.out)))
   have HFB := Lib.hid (Frm.flat_byte (ps.take (k + 1)) (fun q hq => HPB.out q (List.mem_of_mem_take hq)))
   have hsz := HB.out.size
   obtain ⟨pn, hpn⟩ : ∃ pn, pn = p.length := ⟨_, rfl⟩
   rw [← hpn] at hcr HFR hpl
   clear hp hb1 hb2 hc hrd hnil hpc hpm hpn
   go_wp2_with fail
   refine HFR.out.mono ?_
   rintro e3 w3 ⟨a3, L3, c3, rfl, hl3, hlc3, hcm3, hn3, hr3, ho3, hb3⟩
   have HO3 := Lib.hid (show Own w3 w.heap.size u8 (Frm.flatF (ps.take k)) from row_keep HO.out fun j hj => hb3.block j (World.ownsRow.lt HO.out j hj).2)
   have HB3 := Lib.hid (HB.out.trans (hb3.mono hsz))
   have HR3 := Lib.hid hr3
   have hpos : 0 < L3 := by rw [← hl3, Frm.frame_len]; omega
   have HLE := Lib.hid (show (Frm.flatF (ps.take k)).length + (Frm.frameL p).length ≤ 140737488355328 from by
    have := HFL.out (k + 1)
    rw [HSN.out, List.length_append] at this
    omega)
   have hsz3 := HB3.out.size
   clear hl3 hlc3 hcm3 hn3 hr3 ho3 hb3 HO HFR hcr kI
   go_wp2_with (at_builtin; (refine wpList_catG rfl (.tmp 22) (.tmp 27) rfl w.heap.size u8 (Frm.flatF (ps.take k)) (Frm.frameL p) rfl HO3.out hsz3 a3 L3 c3 rfl HR3.out hpos HLE.out ?_); intro v4 w4 g1 g2; have HO4 := Lib.hid (show Own w4 w.heap.size v4 (Frm.flatF (ps.take (k + 1))) from by rw [HSN.out]; exact g1); have HB4 := Lib.hid (HB3.out.grown g2 hsz3 (fun q hq => (World.ownsRow.lt HO3.out q hq).1)); clear g1 g2)
   go_roundw
   case rel => exact ⟨k + 1, by omega, by go_num, HO4, HB4⟩
   case measure => simp [intOf]; omega
  ·
   obtain ⟨w0, rfl⟩ : ∃ w0, w0 = wr := ⟨wr, rfl⟩
   have hz := HZ.out
   have hzb : ∀ y ∈ z, y < 256 := by rw [hz]; exact Frm.flat_byte ps HPB.out
   have hoz : Own w0 w.heap.size u8 z := by
    have := HO.out
    rwa [List.take_of_length_le (by rw [HR.out.ln]; omega), ← hz] at this
   have hzl : z.length < 1048576 := by have := HFL.out ps.length; rw [List.take_of_length_le (Nat.le_refl _), ← hz] at this; exact this
   clear hz HO HFL
   obtain ⟨a4, L4, c4, rfl, hl4, hlc4, hcm4, hn4, hr4, ho4⟩ := hoz.form hzb
   obtain ⟨Y, hY⟩ : ∃ Y : Nat → Prop, Y = fun j => X j ∨ ∃ o s, a4 = some ⟨j, o, s⟩ := ⟨_, rfl⟩
   have HXY := Lib.hid (show ∀ j, X j → Y j from fun j hj => by rw [hY]; exact .inl hj)
   have HYB := Lib.hid (show ∀ b o s, a4 = some ⟨b, o, s⟩ → Y b ∧ ¬ X b from fun b o s e => by
    rw [hY]
    exact ⟨.inr ⟨o, s, e⟩, fun hx => by have := (HD.out.lt b hx).2; have := (own_blk ho4 b o s e).1; omega⟩)
   have HREL := Lib.hid (show Rel Y B d m N A1 A w0 from by
    rw [hY]
    exact HD.out.with HB.out HBW.out (fun j => ∃ o s, a4 = some ⟨j, o, s⟩) fun j ⟨o, s, e⟩ => own_blk ho4 j o s e)
   have HBB := Lib.hid (HB.out.mono HBW.out)
   have HKP := Lib.hid (KpX.ofBelow HB.out fun j hj => (HD.out.lt j hj).2)
   have HR4 := Lib.hid hr4
   have HN4 := Lib.hid hn4
   have HLC := Lib.hid (And.intro hlc4 hcm4)
   have HLZ := Lib.hid (And.intro hl4 hzl)
   clear hY hoz hzb hl4 hzl hlc4 hcm4 hn4 hr4 ho4 HB HD HZ HR HPB HBW
   obtain ⟨na, nn, nc, f1, f5, FI⟩ := HREL.out.find (by have := HG.out.len; have := HK.out; omega)
   have HFI := Lib.hid (FI sp)
   clear FI
   rw [hd] at f5
   have HST := Lib.hid (HREL.out.mkf HG.out.gs (by have := HG.out.len; have := HK.out; omega) (by have := HG.out.len; have := HK.out; omega) sp HSM.out)
   rw [step_down hd] at HST
   have HRW := Lib.hid (rw_down hd nm sp z)
   clear hd
   go_wp2_with fail
   refine HST.out.mono ?_
   rintro e1 w1 ⟨rfl, g1, b1, k1⟩
   have HE := Lib.hid (show LayR X B d m N A1 w (A.rw nm sp z) (.returned (.int .i64 5)) w1 from by
    rw [HRW.out]
    exact ⟨rfl, g1.less HXY.out, HBB.out.trans b1, HKP.out.trans (k1.less HXY.out)⟩)
   clear g1 b1 k1 HST HREL
   go_wp2_with fail
   by_cases h0 : L4 = 0
   ·
    subst h0
    refine wp_loop_rounds 1 ?_
    rw [rounds_succ]
    go_wp2_with fail
    go_ret
    exact HE.out
   ·
    have hL4 : (0 : Int) < (L4 : Int) := by omega
    refine wp_loop_rounds 1 ?_
    rw [rounds_succ]
    go_wp2_with fail
    go_ret
    exact HE.out
set_option maxRecDepth 100000 in
set_option maxHeartbeats 16000000 in
theorem rlay_none {X X0 : Nat → Prop} {B B0 d m N k0 : Nat} {A1 A : Ad} {w : World} (h : Rel X B d m N A1 A w) (g : Gk k0 A) (hk0 : k0 ≤ 10000) (nm : ByteArray) (hnm : nm.size ≤ 1000) (ra : Option Addr) (rn rc : Nat) (ps : List (List Nat)) (hr : Rcd X0 B0 w ra rn ps) (hrn : rn ≤ 1000000) (hfl : (Frm.flatF ps).length < 1048576) (hpb : ∀ p ∈ ps, ∀ z ∈ p, z < 256) (hd : A.down = false) (hl : lookF A.now (spJ nm) = none) :
  Calls Tryz.prog 41 #[.pointer (some ⟨m, 0, none⟩), .string nm, .slice ra rn rc] w (LayR X B d m N A1 w (A.rw nm (spJ nm) (Frm.flatF ps))) := by
 have HR := Lib.hid hr
 have HFL := Lib.hid (fun k => Nat.lt_of_le_of_lt (flat_take_le ps k) hfl)
 have HPB := Lib.hid hpb
 have HD := Lib.hid h
 have HG := Lib.hid g
 have HK := Lib.hid hk0
 have HBW := Lib.hid (show B ≤ w.heap.size from by have := h.base; omega)
 obtain ⟨z, hz⟩ : ∃ z, z = Frm.flatF ps := ⟨_, rfl⟩
 rw [← hz]
 have HZ := Lib.hid hz
 obtain ⟨sp, hsp⟩ : ∃ sp, sp = spJ nm := ⟨_, rfl⟩
 have HSP := Lib.hid hsp
 have hsm : sp.size ≤ maxLen := by rw [hsp]; unfold spJ maxLen; rw [ByteArray.size_append]; show nm.size + 1 ≤ _; omega
 have hnx : nm.size ≤ maxLen := by unfold maxLen; omega
 have HSM := Lib.hid hsm
 have HNX := Lib.hid hnx
 have hadd : ¬ 9223372036854775807 < nm.size + 1 := by omega
 rw [← hsp] at hl ⊢
 clear hr hfl hpb h g hz hsm hnx hnm hk0
 go_enter Tryz.func41, Tryz.ntmps41
 go_wp2_with fail
 rw [show (nm ++ ⟨#[43]⟩ : ByteArray) = sp from hsp.symm]
 clear hsp hadd
 go_loopw [8, 9] (fun v i wr => ∃ k : Nat, k ≤ rn ∧ i = .int .i64 k ∧ Hid (Own wr w.heap.size v (Frm.flatF (ps.take k))) ∧ Hid (Below w.heap.size w wr)) (fun _ i _ => rn - (intOf i).toNat)
 case atStart => exact ⟨0, Nat.zero_le _, rfl, by simpa [Frm.flatF, Hid] using Own.nil w w.heap.size, Below.refl _ _⟩
 case round =>
  obtain ⟨k, hk, rfl, HO, HB⟩ := hrel
  by_cases hkn : k < rn
  ·
   obtain ⟨p, hp⟩ : ∃ p, ps[k]? = some p := ⟨_, List.getElem?_eq_getElem (by rw [HR.out.ln]; exact hkn)⟩
   have HSN := Lib.hid (Frm.flat_snoc ps k p hp)
   have hpl : p.length < 1048576 := by
    have h1 := HFL.out (k + 1)
    rw [HSN.out, List.length_append, Frm.frame_len] at h1
    omega
   obtain ⟨b, o, pa, pc, rfl, hb1, hb2, hc, hrd, _, hnil, hpc, hpm⟩ := HR.out.rc k p hp
   have hcr := (HB.out.cell (p := ⟨b, o + k, none⟩) hb2).trans hc
   have kI := fun W => run_bidx W b o rn rc k hkn
   have HPB1 := Lib.hid (HPB.out p (List.mem_of_getElem? hp))
   have HFR := Lib.hid ((rframe_c pa p.length pc p wr (hrd.below HB.out) hnil (by omega)).mono (RetB.form (Frm.frame_byte p HPB1.out)))
   have HFB := Lib.hid (Frm.flat_byte (ps.take (k + 1)) (fun q hq => HPB.out q (List.mem_of_mem_take hq)))
   have hsz := HB.out.size
   obtain ⟨pn, hpn⟩ : ∃ pn, pn = p.length := ⟨_, rfl⟩
   rw [← hpn] at hcr HFR hpl
   clear hp hb1 hb2 hc hrd hnil hpc hpm hpn
   go_wp2_with fail
   refine HFR.out.mono ?_
   rintro e3 w3 ⟨a3, L3, c3, rfl, hl3, hlc3, hcm3, hn3, hr3, ho3, hb3⟩
   have HO3 := Lib.hid (show Own w3 w.heap.size u8 (Frm.flatF (ps.take k)) from row_keep HO.out fun j hj => hb3.block j (World.ownsRow.lt HO.out j hj).2)
   have HB3 := Lib.hid (HB.out.trans (hb3.mono hsz))
   have HR3 := Lib.hid hr3
   have hpos : 0 < L3 := by rw [← hl3, Frm.frame_len]; omega
   have HLE := Lib.hid (show (Frm.flatF (ps.take k)).length + (Frm.frameL p).length ≤ 140737488355328 from by
    have := HFL.out (k + 1)
    rw [HSN.out, List.length_append] at this
    omega)
   have hsz3 := HB3.out.size
   clear hl3 hlc3 hcm3 hn3 hr3 ho3 hb3 HO HFR hcr kI
   go_wp2_with (at_builtin; (refine wpList_catG rfl (.tmp 22) (.tmp 27) rfl w.heap.size u8 (Frm.flatF (ps.take k)) (Frm.frameL p) rfl HO3.out hsz3 a3 L3 c3 rfl HR3.out hpos HLE.out ?_); intro v4 w4 g1 g2; have HO4 := Lib.hid (show Own w4 w.heap.size v4 (Frm.flatF (ps.take (k + 1))) from by rw [HSN.out]; exact g1); have HB4 := Lib.hid (HB3.out.grown g2 hsz3 (fun q hq => (World.ownsRow.lt HO3.out q hq).1)); clear g1 g2)
   go_roundw
   case rel => exact ⟨k + 1, by omega, by go_num, HO4, HB4⟩
   case measure => simp [intOf]; omega
  ·
   obtain ⟨w0, rfl⟩ : ∃ w0, w0 = wr := ⟨wr, rfl⟩
   have hz := HZ.out
   have hzb : ∀ y ∈ z, y < 256 := by rw [hz]; exact Frm.flat_byte ps HPB.out
   have hoz : Own w0 w.heap.size u8 z := by
    have := HO.out
    rwa [List.take_of_length_le (by rw [HR.out.ln]; omega), ← hz] at this
   have hzl : z.length < 1048576 := by have := HFL.out ps.length; rw [List.take_of_length_le (Nat.le_refl _), ← hz] at this; exact this
   clear hz HO HFL
   obtain ⟨a4, L4, c4, rfl, hl4, hlc4, hcm4, hn4, hr4, ho4⟩ := hoz.form hzb
   obtain ⟨Y, hY⟩ : ∃ Y : Nat → Prop, Y = fun j => X j ∨ ∃ o s, a4 = some ⟨j, o, s⟩ := ⟨_, rfl⟩
   have HXY := Lib.hid (show ∀ j, X j → Y j from fun j hj => by rw [hY]; exact .inl hj)
   have HYB := Lib.hid (show ∀ b o s, a4 = some ⟨b, o, s⟩ → Y b ∧ ¬ X b from fun b o s e => by
    rw [hY]
    exact ⟨.inr ⟨o, s, e⟩, fun hx => by have := (HD.out.lt b hx).2; have := (own_blk ho4 b o s e).1; omega⟩)
   have HREL := Lib.hid (show Rel Y B d m N A1 A w0 from by
    rw [hY]
    exact HD.out.with HB.out HBW.out (fun j => ∃ o s, a4 = some ⟨j, o, s⟩) fun j ⟨o, s, e⟩ => own_blk ho4 j o s e)
   have HBB := Lib.hid (HB.out.mono HBW.out)
   have HKP := Lib.hid (KpX.ofBelow HB.out fun j hj => (HD.out.lt j hj).2)
   have HR4 := Lib.hid hr4
   have HN4 := Lib.hid hn4
   have HLC := Lib.hid (And.intro hlc4 hcm4)
   have HLZ := Lib.hid (And.intro hl4 hzl)
   clear hY hoz hzb hl4 hzl hlc4 hcm4 hn4 hr4 ho4 HB HD HZ HR HPB HBW
   obtain ⟨na, nn, nc, f1, f5, FI⟩ := HREL.out.find (by have := HG.out.len; have := HK.out; omega)
   have HFI := Lib.hid (FI sp)
   clear FI
   have HDNA := Lib.hid hd
   rw [hd] at f5
   rw [idxI_of.1 hl] at HFI
   have HRW := Lib.hid (show A.rw nm sp z = rwE sp (runA [rmA sp, mkA sp, apF sp z, Ad.sync, mvA sp nm, Ad.sync] A) from rfl)
   have HRW2 := Lib.hid (HRW.out.trans (congrArg (rwE sp) (runA_ok (rm_none hd hl))))
   clear HRW hd hl
   have HRW := HRW2
   clear HRW2
   go_wp2_with fail
   refine HFI.out.mono ?_
   rintro e1 w1 ⟨rfl, e2⟩
   subst w1
   clear HFI
   by_cases h0 : L4 = 0
   ·
    subst h0
    have HZN := Lib.hid (show z = [] from List.eq_nil_of_length_eq_zero HLZ.out.1)
    have HST := Lib.hid (HREL.out.mkf HG.out.gs (by have := HG.out.len; have := HK.out; omega) (by have := HG.out.len; have := HK.out; omega) sp HSM.out)
    obtain ⟨r11, hr11⟩ : ∃ r, A.step ⟨0, sp, ⟨#[]⟩, []⟩ = r := ⟨_, rfl⟩
    have HG11 := Lib.hid (HG.out.step ⟨0, sp, ⟨#[]⟩, []⟩)
    rw [hr11] at HST HG11
    obtain ⟨A11, x⟩ := r11
    have HR11 := Lib.hid hr11
    clear hr11 HG
    have HG := Lib.hid (show Gk _ A11 from HG11.out)
    clear HG11
    go_wp2_with fail
    refine HST.out.mono ?_
    rintro e11 w11 ⟨rfl, g11, b11, k11⟩
    have HRL := Lib.hid (show Rel Y B d m N A1 A11 w11 from g11)
    have HB2 := Lib.hid (HBB.out.trans b11)
    have HK2 := Lib.hid (HKP.out.trans (k11.less HXY.out))
    clear HST HREL HBB HKP g11 b11 k11
    have HREL := HRL
    have HBB := HB2
    have HKP := HK2
    clear HRL HB2 HK2
    by_cases hx : x = 0
    ·
     subst hx
     have HRW2 := Lib.hid (HRW.out.trans (congrArg (rwE sp) (runA_ok (show mkA sp A = _ from HR11.out))))
     clear HRW
     have HRW := HRW2
     clear HRW2
     have HRW2 := Lib.hid (HRW.out.trans (congrArg (rwE sp) (runA_ok (show apF sp z A11 = (A11, 0) from if_pos HZN.out))))
     clear HRW
     have HRW := HRW2
     clear HRW2
     go_wp2_with fail
     refine wp_loop_rounds 1 ?_
     rw [rounds_succ]
     have HST := Lib.hid (HREL.out.syncS HG.out.gs)
     obtain ⟨r12, hr12⟩ : ∃ r, A11.sync = r := ⟨_, rfl⟩
     have HG12 := Lib.hid (HG.out.sync)
     rw [hr12] at HST HG12
     obtain ⟨A12, x⟩ := r12
     have HR12 := Lib.hid hr12
     clear hr12 HG
     have HG := Lib.hid (show Gk _ A12 from HG12.out)
     clear HG12
     go_wp2_with fail
     refine HST.out.mono ?_
     rintro e12 w12 ⟨rfl, g12, b12, k12⟩
     have HRL := Lib.hid (show Rel Y B d m N A1 A12 w12 from g12)
     have HB2 := Lib.hid (HBB.out.trans b12)
     have HK2 := Lib.hid (HKP.out.trans (k12.less HXY.out))
     clear HST HREL HBB HKP g12 b12 k12
     have HREL := HRL
     have HBB := HB2
     have HKP := HK2
     clear HRL HB2 HK2
     by_cases hx : x = 0
     ·
      subst hx
      have HRW2 := Lib.hid (HRW.out.trans (congrArg (rwE sp) (runA_ok (show Ad.sync A11 = _ from HR12.out))))
      clear HRW
      have HRW := HRW2
      clear HRW2
      have HST := Lib.hid (HREL.out.mv HG.out.gs (by have := HG.out.len; have := HK.out; omega) (by have := HG.out.len; have := HK.out; omega) sp nm HSM.out HNX.out)
      obtain ⟨r13, hr13⟩ : ∃ r, A12.step ⟨3, sp, nm, []⟩ = r := ⟨_, rfl⟩
      have HG13 := Lib.hid (HG.out.step ⟨3, sp, nm, []⟩)
      rw [hr13] at HST HG13
      obtain ⟨A13, x⟩ := r13
      have HR13 := Lib.hid hr13
      clear hr13 HG
      have HG := Lib.hid (show Gk _ A13 from HG13.out)
      clear HG13
      go_wp2_with fail
      refine HST.out.mono ?_
      rintro e13 w13 ⟨rfl, g13, b13, k13⟩
      have HRL := Lib.hid (show Rel Y B d m N A1 A13 w13 from g13)
      have HB2 := Lib.hid (HBB.out.trans b13)
      have HK2 := Lib.hid (HKP.out.trans (k13.less HXY.out))
      clear HST HREL HBB HKP g13 b13 k13
      have HREL := HRL
      have HBB := HB2
      have HKP := HK2
      clear HRL HB2 HK2
      by_cases hx : x = 0
      ·
       subst hx
       have HRW2 := Lib.hid (HRW.out.trans (congrArg (rwE sp) (runA_ok (show mvA sp nm A12 = _ from HR13.out))))
       clear HRW
       have HRW := HRW2
       clear HRW2
       have HST := Lib.hid (HREL.out.syncS HG.out.gs)
       obtain ⟨r14, hr14⟩ : ∃ r, A13.sync = r := ⟨_, rfl⟩
       have HG14 := Lib.hid (HG.out.sync)
       rw [hr14] at HST HG14
       obtain ⟨A14, x⟩ := r14
       have HR14 := Lib.hid hr14
       clear hr14 HG
       have HG := Lib.hid (show Gk _ A14 from HG14.out)
       clear HG14
       go_wp2_with fail
       refine HST.out.mono ?_
       rintro e14 w14 ⟨rfl, g14, b14, k14⟩
       have HRL := Lib.hid (show Rel Y B d m N A1 A14 w14 from g14)
       have HB2 := Lib.hid (HBB.out.trans b14)
       have HK2 := Lib.hid (HKP.out.trans (k14.less HXY.out))
       clear HST HREL HBB HKP g14 b14 k14
       have HREL := HRL
       have HBB := HB2
       have HKP := HK2
       clear HRL HB2 HK2
       by_cases hx : x = 0
       ·
        subst hx
        have HRW2 := Lib.hid (HRW.out.trans (congrArg (rwE sp) (runA_ok (show Ad.sync A13 = _ from HR14.out))))
        clear HRW
        have HRW := HRW2
        clear HRW2
        have HE := Lib.hid (show LayR X B d m N A1 w (A.rw nm sp z) (.returned (.int .i64 0)) w14 from by
         rw [HRW.out]
         exact ⟨rfl, HREL.out.less HXY.out, HBB.out, HKP.out⟩)
        go_wp2_with fail
        go_ret
        exact HE.out
       ·
        have hxb : (x == 0) = false := by simp [hx]
        have HX := Lib.hid hx
        have hx4 : ¬ x = 4 := sync_full HR14.out
        have hx4b : (x == 4) = false := by simp [hx4]
        have HE := Lib.hid (show LayR X B d m N A1 w (A.rw nm sp z) (.returned (.int .i64 x)) w14 from by
         rw [HRW.out, runA_er (show Ad.sync A13 = _ from HR14.out) HX.out, rwE_ne hx4]
         exact ⟨rfl, HREL.out.less HXY.out, HBB.out, HKP.out⟩)
        go_wp2_with fail
        go_ret
        exact HE.out
      ·
       have hxb : (x == 0) = false := by simp [hx]
       have HX := Lib.hid hx
       by_cases h4 : x = 4
       ·
        subst h4
        have hdn : A13.down = false := step_full HR13.out
        obtain ⟨na9, nn9, nc9, v1, v5, FI9⟩ := HREL.out.find (by have := HG.out.len; have := HK.out; omega)
        have HF9 := Lib.hid (FI9 sp)
        have HDN := Lib.hid hdn
        clear FI9 hdn
        cases hlk : lookF A13.now sp with
        | none =>
         rw [idxI_of.1 hlk] at HF9
         have HLK := Lib.hid hlk
         clear hlk
         have HE := Lib.hid (show LayR X B d m N A1 w (A.rw nm sp z) (.returned (.int .i64 4)) w13 from by
          rw [HRW.out, runA_er (show mvA sp nm A12 = _ from HR13.out) HX.out, rwE_none HDN.out HLK.out]
          exact ⟨rfl, HREL.out.less HXY.out, HBB.out, HKP.out⟩)
         go_wp2_with fail
         refine HF9.out.mono ?_
         rintro e91 w91 ⟨rfl, e92⟩
         subst w91
         go_wp2_with fail
         go_ret
         exact HE.out
        | some zz9 =>
         obtain ⟨ix, hix⟩ := (idxI_of (l := A13.now) (s := sp)).2 (by rw [hlk]; rfl)
         rw [hix] at HF9
         have HLK := Lib.hid (show (lookF A13.now sp).isSome from by rw [hlk]; rfl)
         have HST9 := Lib.hid (HREL.out.rm HG.out.gs (by have := HG.out.len; have := HK.out; omega) (by have := HG.out.len; have := HK.out; omega) sp HSM.out)
         obtain ⟨r9, hr9⟩ : ∃ r, A13.step ⟨2, sp, ⟨#[]⟩, []⟩ = r := ⟨_, rfl⟩
         rw [hr9] at HST9
         obtain ⟨A9, x9⟩ := r9
         have HR9 := Lib.hid hr9
         clear hlk hix hr9
         go_wp2_with fail
         refine HF9.out.mono ?_
         rintro e91 w91 ⟨rfl, e92⟩
         subst w91
         clear HF9
         go_wp2_with fail
         refine HST9.out.mono ?_
         rintro e93 w93 ⟨rfl, g93, b93, k93⟩
         have HBF := Lib.hid (HBB.out.trans b93)
         have HKF := Lib.hid (HKP.out.trans (k93.less HXY.out))
         have HRF := Lib.hid (g93.less HXY.out)
         clear g93 b93 k93 HST9
         by_cases h9 : x9 = 0
         ·
          subst h9
          have HE := Lib.hid (show LayR X B d m N A1 w (A.rw nm sp z) (.returned (.int .i64 4)) w93 from by
           rw [HRW.out, runA_er (show mvA sp nm A12 = _ from HR13.out) HX.out, rwE_ok HDN.out HLK.out HR9.out]
           exact ⟨rfl, HRF.out, HBF.out, HKF.out⟩)
          go_wp2_with fail
          go_ret
          exact HE.out
         ·
          have h9b : (x9 == 0) = false := by simp [h9]
          have h9c : (x9 != 0) = true := by simp [h9]
          have HE := Lib.hid (show LayR X B d m N A1 w (A.rw nm sp z) (.returned (.int .i64 x9)) w93 from by
           rw [HRW.out, runA_er (show mvA sp nm A12 = _ from HR13.out) HX.out, rwE_er HDN.out HLK.out HR9.out h9]
           exact ⟨rfl, HRF.out, HBF.out, HKF.out⟩)
          go_wp2_with fail
          go_ret
          exact HE.out
       ·
        have h4b : (x == 4) = false := by simp [h4]
        have HE := Lib.hid (show LayR X B d m N A1 w (A.rw nm sp z) (.returned (.int .i64 x)) w13 from by
         rw [HRW.out, runA_er (show mvA sp nm A12 = _ from HR13.out) HX.out, rwE_ne h4]
         exact ⟨rfl, HREL.out.less HXY.out, HBB.out, HKP.out⟩)
        go_wp2_with fail
        go_ret
        exact HE.out
     ·
      have hxb : (x == 0) = false := by simp [hx]
      have HX := Lib.hid hx
      have hx4 : ¬ x = 4 := sync_full HR12.out
      have hx4b : (x == 4) = false := by simp [hx4]
      have HE := Lib.hid (show LayR X B d m N A1 w (A.rw nm sp z) (.returned (.int .i64 x)) w12 from by
       rw [HRW.out, runA_er (show Ad.sync A11 = _ from HR12.out) HX.out, rwE_ne hx4]
       exact ⟨rfl, HREL.out.less HXY.out, HBB.out, HKP.out⟩)
      go_wp2_with fail
      go_ret
      exact HE.out
    ·
     have hxb : (x == 0) = false := by simp [hx]
     have HX := Lib.hid hx
     by_cases h4 : x = 4
     ·
      subst h4
      have hdn : A11.down = false := step_full HR11.out
      obtain ⟨na9, nn9, nc9, v1, v5, FI9⟩ := HREL.out.find (by have := HG.out.len; have := HK.out; omega)
      have HF9 := Lib.hid (FI9 sp)
      have HDN := Lib.hid hdn
      clear FI9 hdn
      cases hlk : lookF A11.now sp with
      | none =>
       rw [idxI_of.1 hlk] at HF9
       have HLK := Lib.hid hlk
       clear hlk
       have HE := Lib.hid (show LayR X B d m N A1 w (A.rw nm sp z) (.returned (.int .i64 4)) w11 from by
        rw [HRW.out, runA_er (show mkA sp A = _ from HR11.out) HX.out, rwE_none HDN.out HLK.out]
        exact ⟨rfl, HREL.out.less HXY.out, HBB.out, HKP.out⟩)
       go_wp2_with fail
       refine wp_loop_rounds 1 ?_
       rw [rounds_succ]
       go_wp2_with fail
       refine HF9.out.mono ?_
       rintro e91 w91 ⟨rfl, e92⟩
       subst w91
       go_wp2_with fail
       go_ret
       exact HE.out
      | some zz9 =>
       obtain ⟨ix, hix⟩ := (idxI_of (l := A11.now) (s := sp)).2 (by rw [hlk]; rfl)
       rw [hix] at HF9
       have HLK := Lib.hid (show (lookF A11.now sp).isSome from by rw [hlk]; rfl)
       have HST9 := Lib.hid (HREL.out.rm HG.out.gs (by have := HG.out.len; have := HK.out; omega) (by have := HG.out.len; have := HK.out; omega) sp HSM.out)
       obtain ⟨r9, hr9⟩ : ∃ r, A11.step ⟨2, sp, ⟨#[]⟩, []⟩ = r := ⟨_, rfl⟩
       rw [hr9] at HST9
       obtain ⟨A9, x9⟩ := r9
       have HR9 := Lib.hid hr9
       clear hlk hix hr9
       go_wp2_with fail
       refine wp_loop_rounds 1 ?_
       rw [rounds_succ]
       go_wp2_with fail
       refine HF9.out.mono ?_
       rintro e91 w91 ⟨rfl, e92⟩
       subst w91
       clear HF9
       go_wp2_with fail
       refine HST9.out.mono ?_
       rintro e93 w93 ⟨rfl, g93, b93, k93⟩
       have HBF := Lib.hid (HBB.out.trans b93)
       have HKF := Lib.hid (HKP.out.trans (k93.less HXY.out))
       have HRF := Lib.hid (g93.less HXY.out)
       clear g93 b93 k93 HST9
       by_cases h9 : x9 = 0
       ·
        subst h9
        have HE := Lib.hid (show LayR X B d m N A1 w (A.rw nm sp z) (.returned (.int .i64 4)) w93 from by
         rw [HRW.out, runA_er (show mkA sp A = _ from HR11.out) HX.out, rwE_ok HDN.out HLK.out HR9.out]
         exact ⟨rfl, HRF.out, HBF.out, HKF.out⟩)
        go_wp2_with fail
        go_ret
        exact HE.out
       ·
        have h9b : (x9 == 0) = false := by simp [h9]
        have h9c : (x9 != 0) = true := by simp [h9]
        have HE := Lib.hid (show LayR X B d m N A1 w (A.rw nm sp z) (.returned (.int .i64 x9)) w93 from by
         rw [HRW.out, runA_er (show mkA sp A = _ from HR11.out) HX.out, rwE_er HDN.out HLK.out HR9.out h9]
         exact ⟨rfl, HRF.out, HBF.out, HKF.out⟩)
        go_wp2_with fail
        go_ret
        exact HE.out
     ·
      have h4b : (x == 4) = false := by simp [h4]
      have HE := Lib.hid (show LayR X B d m N A1 w (A.rw nm sp z) (.returned (.int .i64 x)) w11 from by
       rw [HRW.out, runA_er (show mkA sp A = _ from HR11.out) HX.out, rwE_ne h4]
       exact ⟨rfl, HREL.out.less HXY.out, HBB.out, HKP.out⟩)
      go_wp2_with fail
      refine wp_loop_rounds 1 ?_
      rw [rounds_succ]
      go_wp2_with fail
      go_ret
      exact HE.out
   ·
    have HZN := Lib.hid (show ¬ z = [] from fun e => h0 (by rw [← HLZ.out.1, e]; rfl))
    have HL4 := Lib.hid (show (0 : Int) < (L4 : Int) from by omega)
    clear h0
    have HRA := Lib.hid (show Rd w0 a4 L4 z from by have := HR4.out; rwa [← HLZ.out.1] at this ⊢)
    have HST := Lib.hid (HREL.out.mkf HG.out.gs (by have := HG.out.len; have := HK.out; omega) (by have := HG.out.len; have := HK.out; omega) sp HSM.out)
    obtain ⟨r15, hr15⟩ : ∃ r, A.step ⟨0, sp, ⟨#[]⟩, []⟩ = r := ⟨_, rfl⟩
    have HG15 := Lib.hid (HG.out.step ⟨0, sp, ⟨#[]⟩, []⟩)
    rw [hr15] at HST HG15
    obtain ⟨A15, x⟩ := r15
    have HR15 := Lib.hid hr15
    clear hr15 HG
    have HG := Lib.hid (show Gk _ A15 from HG15.out)
    clear HG15
    go_wp2_with fail
    refine HST.out.mono ?_
    rintro e15 w15 ⟨rfl, g15, b15, k15⟩
    have HRL := Lib.hid (show Rel Y B d m N A1 A15 w15 from g15)
    have HB2 := Lib.hid (HBB.out.trans b15)
    have HK2 := Lib.hid (HKP.out.trans (k15.less HXY.out))
    have HRA2 := Lib.hid (show Rd w15 a4 L4 z from rd_stay HRA.out b15.size fun b o s e hn => k15 b (HYB.out b o s e).1)
    clear HRA
    have HRA := HRA2
    clear HRA2
    clear HST HREL HBB HKP g15 b15 k15
    have HREL := HRL
    have HBB := HB2
    have HKP := HK2
    clear HRL HB2 HK2
    by_cases hx : x = 0
    ·
     subst hx
     have HRW2 := Lib.hid (HRW.out.trans (congrArg (rwE sp) (runA_ok (show mkA sp A = _ from HR15.out))))
     clear HRW
     have HRW := HRW2
     clear HRW2
     go_wp2_with fail
     refine wp_loop_rounds 2 ?_
     rw [rounds_succ]
     have hL4 := HL4.out
     go_upto_region 16 with fail
     obtain ⟨M, hM⟩ : ∃ M : Int, M = 1048576 := ⟨_, rfl⟩
     have hL6 : (L4 : Int) < M := by rw [hM]; have := HLZ.out; omega
     rw [← hM]
     have HM := Lib.hid hM
     clear hM hL4
     have hLC := HLC.out.1
     have HST := Lib.hid (HREL.out.ap HXY.out HG.out.gs (by have := HG.out.len; have := HK.out; omega) (by have := HG.out.len; have := HK.out; omega) sp HSM.out a4 L4 c4 z HRA.out (fun b o s e _ => .inr (HYB.out b o s e)) HN4.out HLC.out.1 (by have := HLZ.out; omega))
     obtain ⟨r16, hr16⟩ : ∃ r, A15.step ⟨1, sp, ⟨#[]⟩, z⟩ = r := ⟨_, rfl⟩
     have HG16 := Lib.hid (HG.out.step ⟨1, sp, ⟨#[]⟩, z⟩)
     rw [hr16] at HST HG16
     obtain ⟨A16, x⟩ := r16
     have HR16 := Lib.hid hr16
     clear hr16 HG
     have HG := Lib.hid (show Gk _ A16 from HG16.out)
     clear HG16
     go_wp2_with fail
     refine HST.out.mono ?_
     rintro e16 w16 ⟨rfl, g16, b16, k16⟩
     have HRL := Lib.hid (show Rel X B d m N A1 A16 w16 from g16)
     have HB2 := Lib.hid (HBB.out.trans b16)
     have HK2 := Lib.hid (HKP.out.trans (k16.less HXY.out))
     clear HST HREL HBB HKP g16 b16 k16
     have HREL := HRL
     have HBB := HB2
     have HKP := HK2
     clear HRL HB2 HK2
     by_cases hx : x = 0
     ·
      subst hx
      have HRW2 := Lib.hid (HRW.out.trans (congrArg (rwE sp) (runA_ok ((show apF sp z A15 = _ from if_neg HZN.out).trans HR16.out))))
      clear HRW
      have HRW := HRW2
      clear HRW2
      clear hLC hL6
      go_wp2_with fail
      rw [rounds_succ]
      have hL7 : ¬ M < (L4 : Int) := by rw [HM.out]; have := HLZ.out; omega
      rw [← HM.out]
      have HST := Lib.hid (HREL.out.syncS HG.out.gs)
      obtain ⟨r17, hr17⟩ : ∃ r, A16.sync = r := ⟨_, rfl⟩
      have HG17 := Lib.hid (HG.out.sync)
      rw [hr17] at HST HG17
      obtain ⟨A17, x⟩ := r17
      have HR17 := Lib.hid hr17
      clear hr17 HG
      have HG := Lib.hid (show Gk _ A17 from HG17.out)
      clear HG17
      go_wp2_with fail
      refine HST.out.mono ?_
      rintro e17 w17 ⟨rfl, g17, b17, k17⟩
      have HRL := Lib.hid (show Rel X B d m N A1 A17 w17 from g17)
      have HB2 := Lib.hid (HBB.out.trans b17)
      have HK2 := Lib.hid (HKP.out.trans (k17.less (fun _ hj => hj)))
      clear HST HREL HBB HKP g17 b17 k17
      have HREL := HRL
      have HBB := HB2
      have HKP := HK2
      clear HRL HB2 HK2
      by_cases hx : x = 0
      ·
       subst hx
       have HRW2 := Lib.hid (HRW.out.trans (congrArg (rwE sp) (runA_ok (show Ad.sync A16 = _ from HR17.out))))
       clear HRW
       have HRW := HRW2
       clear HRW2
       have HST := Lib.hid (HREL.out.mv HG.out.gs (by have := HG.out.len; have := HK.out; omega) (by have := HG.out.len; have := HK.out; omega) sp nm HSM.out HNX.out)
       obtain ⟨r18, hr18⟩ : ∃ r, A17.step ⟨3, sp, nm, []⟩ = r := ⟨_, rfl⟩
       have HG18 := Lib.hid (HG.out.step ⟨3, sp, nm, []⟩)
       rw [hr18] at HST HG18
       obtain ⟨A18, x⟩ := r18
       have HR18 := Lib.hid hr18
       clear hr18 HG
       have HG := Lib.hid (show Gk _ A18 from HG18.out)
       clear HG18
       go_wp2_with fail
       refine HST.out.mono ?_
       rintro e18 w18 ⟨rfl, g18, b18, k18⟩
       have HRL := Lib.hid (show Rel X B d m N A1 A18 w18 from g18)
       have HB2 := Lib.hid (HBB.out.trans b18)
       have HK2 := Lib.hid (HKP.out.trans (k18.less (fun _ hj => hj)))
       clear HST HREL HBB HKP g18 b18 k18
       have HREL := HRL
       have HBB := HB2
       have HKP := HK2
       clear HRL HB2 HK2
       by_cases hx : x = 0
       ·
        subst hx
        have HRW2 := Lib.hid (HRW.out.trans (congrArg (rwE sp) (runA_ok (show mvA sp nm A17 = _ from HR18.out))))
        clear HRW
        have HRW := HRW2
        clear HRW2
        have HST := Lib.hid (HREL.out.syncS HG.out.gs)
        obtain ⟨r19, hr19⟩ : ∃ r, A18.sync = r := ⟨_, rfl⟩
        have HG19 := Lib.hid (HG.out.sync)
        rw [hr19] at HST HG19
        obtain ⟨A19, x⟩ := r19
        have HR19 := Lib.hid hr19
        clear hr19 HG
        have HG := Lib.hid (show Gk _ A19 from HG19.out)
        clear HG19
        go_wp2_with fail
        refine HST.out.mono ?_
        rintro e19 w19 ⟨rfl, g19, b19, k19⟩
        have HRL := Lib.hid (show Rel X B d m N A1 A19 w19 from g19)
        have HB2 := Lib.hid (HBB.out.trans b19)
        have HK2 := Lib.hid (HKP.out.trans (k19.less (fun _ hj => hj)))
        clear HST HREL HBB HKP g19 b19 k19
        have HREL := HRL
        have HBB := HB2
        have HKP := HK2
        clear HRL HB2 HK2
        by_cases hx : x = 0
        ·
         subst hx
         have HRW2 := Lib.hid (HRW.out.trans (congrArg (rwE sp) (runA_ok (show Ad.sync A18 = _ from HR19.out))))
         clear HRW
         have HRW := HRW2
         clear HRW2
         have HE := Lib.hid (show LayR X B d m N A1 w (A.rw nm sp z) (.returned (.int .i64 0)) w19 from by
          rw [HRW.out]
          exact ⟨rfl, HREL.out.less (fun _ hj => hj), HBB.out, HKP.out⟩)
         go_wp2_with fail
         go_ret
         exact HE.out
        ·
         have hxb : (x == 0) = false := by simp [hx]
         have HX := Lib.hid hx
         have hx4 : ¬ x = 4 := sync_full HR19.out
         have hx4b : (x == 4) = false := by simp [hx4]
         have HE := Lib.hid (show LayR X B d m N A1 w (A.rw nm sp z) (.returned (.int .i64 x)) w19 from by
          rw [HRW.out, runA_er (show Ad.sync A18 = _ from HR19.out) HX.out, rwE_ne hx4]
          exact ⟨rfl, HREL.out.less (fun _ hj => hj), HBB.out, HKP.out⟩)
         go_wp2_with fail
         go_ret
         exact HE.out
       ·
        have hxb : (x == 0) = false := by simp [hx]
        have HX := Lib.hid hx
        by_cases h4 : x = 4
        ·
         subst h4
         have hdn : A18.down = false := step_full HR18.out
         obtain ⟨na9, nn9, nc9, v1, v5, FI9⟩ := HREL.out.find (by have := HG.out.len; have := HK.out; omega)
         have HF9 := Lib.hid (FI9 sp)
         have HDN := Lib.hid hdn
         clear FI9 hdn
         cases hlk : lookF A18.now sp with
         | none =>
          rw [idxI_of.1 hlk] at HF9
          have HLK := Lib.hid hlk
          clear hlk
          have HE := Lib.hid (show LayR X B d m N A1 w (A.rw nm sp z) (.returned (.int .i64 4)) w18 from by
           rw [HRW.out, runA_er (show mvA sp nm A17 = _ from HR18.out) HX.out, rwE_none HDN.out HLK.out]
           exact ⟨rfl, HREL.out.less (fun _ hj => hj), HBB.out, HKP.out⟩)
          go_wp2_with fail
          refine HF9.out.mono ?_
          rintro e91 w91 ⟨rfl, e92⟩
          subst w91
          go_wp2_with fail
          go_ret
          exact HE.out
         | some zz9 =>
          obtain ⟨ix, hix⟩ := (idxI_of (l := A18.now) (s := sp)).2 (by rw [hlk]; rfl)
          rw [hix] at HF9
          have HLK := Lib.hid (show (lookF A18.now sp).isSome from by rw [hlk]; rfl)
          have HST9 := Lib.hid (HREL.out.rm HG.out.gs (by have := HG.out.len; have := HK.out; omega) (by have := HG.out.len; have := HK.out; omega) sp HSM.out)
          obtain ⟨r9, hr9⟩ : ∃ r, A18.step ⟨2, sp, ⟨#[]⟩, []⟩ = r := ⟨_, rfl⟩
          rw [hr9] at HST9
          obtain ⟨A9, x9⟩ := r9
          have HR9 := Lib.hid hr9
          clear hlk hix hr9
          go_wp2_with fail
          refine HF9.out.mono ?_
          rintro e91 w91 ⟨rfl, e92⟩
          subst w91
          clear HF9
          go_wp2_with fail
          refine HST9.out.mono ?_
          rintro e93 w93 ⟨rfl, g93, b93, k93⟩
          have HBF := Lib.hid (HBB.out.trans b93)
          have HKF := Lib.hid (HKP.out.trans (k93.less (fun _ hj => hj)))
          have HRF := Lib.hid (g93.less (fun _ hj => hj))
          clear g93 b93 k93 HST9
          by_cases h9 : x9 = 0
          ·
           subst h9
           have HE := Lib.hid (show LayR X B d m N A1 w (A.rw nm sp z) (.returned (.int .i64 4)) w93 from by
            rw [HRW.out, runA_er (show mvA sp nm A17 = _ from HR18.out) HX.out, rwE_ok HDN.out HLK.out HR9.out]
            exact ⟨rfl, HRF.out, HBF.out, HKF.out⟩)
           go_wp2_with fail
           go_ret
           exact HE.out
          ·
           have h9b : (x9 == 0) = false := by simp [h9]
           have h9c : (x9 != 0) = true := by simp [h9]
           have HE := Lib.hid (show LayR X B d m N A1 w (A.rw nm sp z) (.returned (.int .i64 x9)) w93 from by
            rw [HRW.out, runA_er (show mvA sp nm A17 = _ from HR18.out) HX.out, rwE_er HDN.out HLK.out HR9.out h9]
            exact ⟨rfl, HRF.out, HBF.out, HKF.out⟩)
           go_wp2_with fail
           go_ret
           exact HE.out
        ·
         have h4b : (x == 4) = false := by simp [h4]
         have HE := Lib.hid (show LayR X B d m N A1 w (A.rw nm sp z) (.returned (.int .i64 x)) w18 from by
          rw [HRW.out, runA_er (show mvA sp nm A17 = _ from HR18.out) HX.out, rwE_ne h4]
          exact ⟨rfl, HREL.out.less (fun _ hj => hj), HBB.out, HKP.out⟩)
         go_wp2_with fail
         go_ret
         exact HE.out
      ·
       have hxb : (x == 0) = false := by simp [hx]
       have HX := Lib.hid hx
       have hx4 : ¬ x = 4 := sync_full HR17.out
       have hx4b : (x == 4) = false := by simp [hx4]
       have HE := Lib.hid (show LayR X B d m N A1 w (A.rw nm sp z) (.returned (.int .i64 x)) w17 from by
        rw [HRW.out, runA_er (show Ad.sync A16 = _ from HR17.out) HX.out, rwE_ne hx4]
        exact ⟨rfl, HREL.out.less (fun _ hj => hj), HBB.out, HKP.out⟩)
       go_wp2_with fail
       go_ret
       exact HE.out
     ·
      have hxb : (x == 0) = false := by simp [hx]
      have HX := Lib.hid hx
      by_cases h4 : x = 4
      ·
       subst h4
       have hdn : A16.down = false := step_full HR16.out
       obtain ⟨na9, nn9, nc9, v1, v5, FI9⟩ := HREL.out.find (by have := HG.out.len; have := HK.out; omega)
       have HF9 := Lib.hid (FI9 sp)
       have HDN := Lib.hid hdn
       clear FI9 hdn
       cases hlk : lookF A16.now sp with
       | none =>
        rw [idxI_of.1 hlk] at HF9
        have HLK := Lib.hid hlk
        clear hlk
        have HE := Lib.hid (show LayR X B d m N A1 w (A.rw nm sp z) (.returned (.int .i64 4)) w16 from by
         rw [HRW.out, runA_er ((show apF sp z A15 = _ from if_neg HZN.out).trans HR16.out) HX.out, rwE_none HDN.out HLK.out]
         exact ⟨rfl, HREL.out.less (fun _ hj => hj), HBB.out, HKP.out⟩)
        go_wp2_with fail
        rw [rounds_succ]
        have hL7 : ¬ M < (L4 : Int) := by rw [HM.out]; have := HLZ.out; omega
        rw [← HM.out]
        go_wp2_with fail
        refine HF9.out.mono ?_
        rintro e91 w91 ⟨rfl, e92⟩
        subst w91
        go_wp2_with fail
        go_ret
        exact HE.out
       | some zz9 =>
        obtain ⟨ix, hix⟩ := (idxI_of (l := A16.now) (s := sp)).2 (by rw [hlk]; rfl)
        rw [hix] at HF9
        have HLK := Lib.hid (show (lookF A16.now sp).isSome from by rw [hlk]; rfl)
        have HST9 := Lib.hid (HREL.out.rm HG.out.gs (by have := HG.out.len; have := HK.out; omega) (by have := HG.out.len; have := HK.out; omega) sp HSM.out)
        obtain ⟨r9, hr9⟩ : ∃ r, A16.step ⟨2, sp, ⟨#[]⟩, []⟩ = r := ⟨_, rfl⟩
        rw [hr9] at HST9
        obtain ⟨A9, x9⟩ := r9
        have HR9 := Lib.hid hr9
        clear hlk hix hr9
        go_wp2_with fail
        rw [rounds_succ]
        have hL7 : ¬ M < (L4 : Int) := by rw [HM.out]; have := HLZ.out; omega
        rw [← HM.out]
        go_wp2_with fail
        refine HF9.out.mono ?_
        rintro e91 w91 ⟨rfl, e92⟩
        subst w91
        clear HF9
        go_wp2_with fail
        refine HST9.out.mono ?_
        rintro e93 w93 ⟨rfl, g93, b93, k93⟩
        have HBF := Lib.hid (HBB.out.trans b93)
        have HKF := Lib.hid (HKP.out.trans (k93.less (fun _ hj => hj)))
        have HRF := Lib.hid (g93.less (fun _ hj => hj))
        clear g93 b93 k93 HST9
        by_cases h9 : x9 = 0
        ·
         subst h9
         have HE := Lib.hid (show LayR X B d m N A1 w (A.rw nm sp z) (.returned (.int .i64 4)) w93 from by
          rw [HRW.out, runA_er ((show apF sp z A15 = _ from if_neg HZN.out).trans HR16.out) HX.out, rwE_ok HDN.out HLK.out HR9.out]
          exact ⟨rfl, HRF.out, HBF.out, HKF.out⟩)
         go_wp2_with fail
         go_ret
         exact HE.out
        ·
         have h9b : (x9 == 0) = false := by simp [h9]
         have h9c : (x9 != 0) = true := by simp [h9]
         have HE := Lib.hid (show LayR X B d m N A1 w (A.rw nm sp z) (.returned (.int .i64 x9)) w93 from by
          rw [HRW.out, runA_er ((show apF sp z A15 = _ from if_neg HZN.out).trans HR16.out) HX.out, rwE_er HDN.out HLK.out HR9.out h9]
          exact ⟨rfl, HRF.out, HBF.out, HKF.out⟩)
         go_wp2_with fail
         go_ret
         exact HE.out
      ·
       have h4b : (x == 4) = false := by simp [h4]
       have HE := Lib.hid (show LayR X B d m N A1 w (A.rw nm sp z) (.returned (.int .i64 x)) w16 from by
        rw [HRW.out, runA_er ((show apF sp z A15 = _ from if_neg HZN.out).trans HR16.out) HX.out, rwE_ne h4]
        exact ⟨rfl, HREL.out.less (fun _ hj => hj), HBB.out, HKP.out⟩)
       go_wp2_with fail
       rw [rounds_succ]
       have hL7 : ¬ M < (L4 : Int) := by rw [HM.out]; have := HLZ.out; omega
       rw [← HM.out]
       go_wp2_with fail
       go_ret
       exact HE.out
    ·
     have hxb : (x == 0) = false := by simp [hx]
     have HX := Lib.hid hx
     by_cases h4 : x = 4
     ·
      subst h4
      have hdn : A15.down = false := step_full HR15.out
      obtain ⟨na9, nn9, nc9, v1, v5, FI9⟩ := HREL.out.find (by have := HG.out.len; have := HK.out; omega)
      have HF9 := Lib.hid (FI9 sp)
      have HDN := Lib.hid hdn
      clear FI9 hdn
      cases hlk : lookF A15.now sp with
      | none =>
       rw [idxI_of.1 hlk] at HF9
       have HLK := Lib.hid hlk
       clear hlk
       have HE := Lib.hid (show LayR X B d m N A1 w (A.rw nm sp z) (.returned (.int .i64 4)) w15 from by
        rw [HRW.out, runA_er (show mkA sp A = _ from HR15.out) HX.out, rwE_none HDN.out HLK.out]
        exact ⟨rfl, HREL.out.less HXY.out, HBB.out, HKP.out⟩)
       go_wp2_with fail
       refine wp_loop_rounds 1 ?_
       rw [rounds_succ]
       have hL4 := HL4.out
       go_wp2_with fail
       refine HF9.out.mono ?_
       rintro e91 w91 ⟨rfl, e92⟩
       subst w91
       go_wp2_with fail
       go_ret
       exact HE.out
      | some zz9 =>
       obtain ⟨ix, hix⟩ := (idxI_of (l := A15.now) (s := sp)).2 (by rw [hlk]; rfl)
       rw [hix] at HF9
       have HLK := Lib.hid (show (lookF A15.now sp).isSome from by rw [hlk]; rfl)
       have HST9 := Lib.hid (HREL.out.rm HG.out.gs (by have := HG.out.len; have := HK.out; omega) (by have := HG.out.len; have := HK.out; omega) sp HSM.out)
       obtain ⟨r9, hr9⟩ : ∃ r, A15.step ⟨2, sp, ⟨#[]⟩, []⟩ = r := ⟨_, rfl⟩
       rw [hr9] at HST9
       obtain ⟨A9, x9⟩ := r9
       have HR9 := Lib.hid hr9
       clear hlk hix hr9
       go_wp2_with fail
       refine wp_loop_rounds 1 ?_
       rw [rounds_succ]
       have hL4 := HL4.out
       go_wp2_with fail
       refine HF9.out.mono ?_
       rintro e91 w91 ⟨rfl, e92⟩
       subst w91
       clear HF9
       go_wp2_with fail
       refine HST9.out.mono ?_
       rintro e93 w93 ⟨rfl, g93, b93, k93⟩
       have HBF := Lib.hid (HBB.out.trans b93)
       have HKF := Lib.hid (HKP.out.trans (k93.less HXY.out))
       have HRF := Lib.hid (g93.less HXY.out)
       clear g93 b93 k93 HST9
       by_cases h9 : x9 = 0
       ·
        subst h9
        have HE := Lib.hid (show LayR X B d m N A1 w (A.rw nm sp z) (.returned (.int .i64 4)) w93 from by
         rw [HRW.out, runA_er (show mkA sp A = _ from HR15.out) HX.out, rwE_ok HDN.out HLK.out HR9.out]
         exact ⟨rfl, HRF.out, HBF.out, HKF.out⟩)
        go_wp2_with fail
        go_ret
        exact HE.out
       ·
        have h9b : (x9 == 0) = false := by simp [h9]
        have h9c : (x9 != 0) = true := by simp [h9]
        have HE := Lib.hid (show LayR X B d m N A1 w (A.rw nm sp z) (.returned (.int .i64 x9)) w93 from by
         rw [HRW.out, runA_er (show mkA sp A = _ from HR15.out) HX.out, rwE_er HDN.out HLK.out HR9.out h9]
         exact ⟨rfl, HRF.out, HBF.out, HKF.out⟩)
        go_wp2_with fail
        go_ret
        exact HE.out
     ·
      have h4b : (x == 4) = false := by simp [h4]
      have HE := Lib.hid (show LayR X B d m N A1 w (A.rw nm sp z) (.returned (.int .i64 x)) w15 from by
       rw [HRW.out, runA_er (show mkA sp A = _ from HR15.out) HX.out, rwE_ne h4]
       exact ⟨rfl, HREL.out.less HXY.out, HBB.out, HKP.out⟩)
      go_wp2_with fail
      refine wp_loop_rounds 1 ?_
      rw [rounds_succ]
      have hL4 := HL4.out
      go_wp2_with fail
      go_ret
      exact HE.out
set_option maxRecDepth 100000 in
set_option maxHeartbeats 16000000 in
theorem rlay_some {X X0 : Nat → Prop} {B B0 d m N k0 : Nat} {A1 A : Ad} {w : World} (h : Rel X B d m N A1 A w) (g : Gk k0 A) (hk0 : k0 ≤ 10000) (nm : ByteArray) (hnm : nm.size ≤ 1000) (ra : Option Addr) (rn rc : Nat) (ps : List (List Nat)) (hr : Rcd X0 B0 w ra rn ps) (hrn : rn ≤ 1000000) (hfl : (Frm.flatF ps).length < 1048576) (hpb : ∀ p ∈ ps, ∀ z ∈ p, z < 256) (hd : A.down = false) (hl : (lookF A.now (spJ nm)).isSome) :
  Calls Tryz.prog 41 #[.pointer (some ⟨m, 0, none⟩), .string nm, .slice ra rn rc] w (LayR X B d m N A1 w (A.rw nm (spJ nm) (Frm.flatF ps))) := by
 have HR := Lib.hid hr
 have HFL := Lib.hid (fun k => Nat.lt_of_le_of_lt (flat_take_le ps k) hfl)
 have HPB := Lib.hid hpb
 have HD := Lib.hid h
 have HG := Lib.hid g
 have HK := Lib.hid hk0
 have HBW := Lib.hid (show B ≤ w.heap.size from by have := h.base; omega)
 obtain ⟨z, hz⟩ : ∃ z, z = Frm.flatF ps := ⟨_, rfl⟩
 rw [← hz]
 have HZ := Lib.hid hz
 obtain ⟨sp, hsp⟩ : ∃ sp, sp = spJ nm := ⟨_, rfl⟩
 have HSP := Lib.hid hsp
 have hsm : sp.size ≤ maxLen := by rw [hsp]; unfold spJ maxLen; rw [ByteArray.size_append]; show nm.size + 1 ≤ _; omega
 have hnx : nm.size ≤ maxLen := by unfold maxLen; omega
 have HSM := Lib.hid hsm
 have HNX := Lib.hid hnx
 have hadd : ¬ 9223372036854775807 < nm.size + 1 := by omega
 rw [← hsp] at hl ⊢
 clear hr hfl hpb h g hz hsm hnx hnm hk0
 go_enter Tryz.func41, Tryz.ntmps41
 go_wp2_with fail
 rw [show (nm ++ ⟨#[43]⟩ : ByteArray) = sp from hsp.symm]
 clear hsp hadd
 go_loopw [8, 9] (fun v i wr => ∃ k : Nat, k ≤ rn ∧ i = .int .i64 k ∧ Hid (Own wr w.heap.size v (Frm.flatF (ps.take k))) ∧ Hid (Below w.heap.size w wr)) (fun _ i _ => rn - (intOf i).toNat)
 case atStart => exact ⟨0, Nat.zero_le _, rfl, by simpa [Frm.flatF, Hid] using Own.nil w w.heap.size, Below.refl _ _⟩
 case round =>
  obtain ⟨k, hk, rfl, HO, HB⟩ := hrel
  by_cases hkn : k < rn
  ·
   obtain ⟨p, hp⟩ : ∃ p, ps[k]? = some p := ⟨_, List.getElem?_eq_getElem (by rw [HR.out.ln]; exact hkn)⟩
   have HSN := Lib.hid (Frm.flat_snoc ps k p hp)
   have hpl : p.length < 1048576 := by
    have h1 := HFL.out (k + 1)
    rw [HSN.out, List.length_append, Frm.frame_len] at h1
    omega
   obtain ⟨b, o, pa, pc, rfl, hb1, hb2, hc, hrd, _, hnil, hpc, hpm⟩ := HR.out.rc k p hp
   have hcr := (HB.out.cell (p := ⟨b, o + k, none⟩) hb2).trans hc
   have kI := fun W => run_bidx W b o rn rc k hkn
   have HPB1 := Lib.hid (HPB.out p (List.mem_of_getElem? hp))
   have HFR := Lib.hid ((rframe_c pa p.length pc p wr (hrd.below HB.out) hnil (by omega)).mono (RetB.form (Frm.frame_byte p HPB1.out)))
   have HFB := Lib.hid (Frm.flat_byte (ps.take (k + 1)) (fun q hq => HPB.out q (List.mem_of_mem_take hq)))
   have hsz := HB.out.size
   obtain ⟨pn, hpn⟩ : ∃ pn, pn = p.length := ⟨_, rfl⟩
   rw [← hpn] at hcr HFR hpl
   clear hp hb1 hb2 hc hrd hnil hpc hpm hpn
   go_wp2_with fail
   refine HFR.out.mono ?_
   rintro e3 w3 ⟨a3, L3, c3, rfl, hl3, hlc3, hcm3, hn3, hr3, ho3, hb3⟩
   have HO3 := Lib.hid (show Own w3 w.heap.size u8 (Frm.flatF (ps.take k)) from row_keep HO.out fun j hj => hb3.block j (World.ownsRow.lt HO.out j hj).2)
   have HB3 := Lib.hid (HB.out.trans (hb3.mono hsz))
   have HR3 := Lib.hid hr3
   have hpos : 0 < L3 := by rw [← hl3, Frm.frame_len]; omega
   have HLE := Lib.hid (show (Frm.flatF (ps.take k)).length + (Frm.frameL p).length ≤ 140737488355328 from by
    have := HFL.out (k + 1)
    rw [HSN.out, List.length_append] at this
    omega)
   have hsz3 := HB3.out.size
   clear hl3 hlc3 hcm3 hn3 hr3 ho3 hb3 HO HFR hcr kI
   go_wp2_with (at_builtin; (refine wpList_catG rfl (.tmp 22) (.tmp 27) rfl w.heap.size u8 (Frm.flatF (ps.take k)) (Frm.frameL p) rfl HO3.out hsz3 a3 L3 c3 rfl HR3.out hpos HLE.out ?_); intro v4 w4 g1 g2; have HO4 := Lib.hid (show Own w4 w.heap.size v4 (Frm.flatF (ps.take (k + 1))) from by rw [HSN.out]; exact g1); have HB4 := Lib.hid (HB3.out.grown g2 hsz3 (fun q hq => (World.ownsRow.lt HO3.out q hq).1)); clear g1 g2)
   go_roundw
   case rel => exact ⟨k + 1, by omega, by go_num, HO4, HB4⟩
   case measure => simp [intOf]; omega
  ·
   obtain ⟨w0, rfl⟩ : ∃ w0, w0 = wr := ⟨wr, rfl⟩
   have hz := HZ.out
   have hzb : ∀ y ∈ z, y < 256 := by rw [hz]; exact Frm.flat_byte ps HPB.out
   have hoz : Own w0 w.heap.size u8 z := by
    have := HO.out
    rwa [List.take_of_length_le (by rw [HR.out.ln]; omega), ← hz] at this
   have hzl : z.length < 1048576 := by have := HFL.out ps.length; rw [List.take_of_length_le (Nat.le_refl _), ← hz] at this; exact this
   clear hz HO HFL
   obtain ⟨a4, L4, c4, rfl, hl4, hlc4, hcm4, hn4, hr4, ho4⟩ := hoz.form hzb
   obtain ⟨Y, hY⟩ : ∃ Y : Nat → Prop, Y = fun j => X j ∨ ∃ o s, a4 = some ⟨j, o, s⟩ := ⟨_, rfl⟩
   have HXY := Lib.hid (show ∀ j, X j → Y j from fun j hj => by rw [hY]; exact .inl hj)
   have HYB := Lib.hid (show ∀ b o s, a4 = some ⟨b, o, s⟩ → Y b ∧ ¬ X b from fun b o s e => by
    rw [hY]
    exact ⟨.inr ⟨o, s, e⟩, fun hx => by have := (HD.out.lt b hx).2; have := (own_blk ho4 b o s e).1; omega⟩)
   have HREL := Lib.hid (show Rel Y B d m N A1 A w0 from by
    rw [hY]
    exact HD.out.with HB.out HBW.out (fun j => ∃ o s, a4 = some ⟨j, o, s⟩) fun j ⟨o, s, e⟩ => own_blk ho4 j o s e)
   have HBB := Lib.hid (HB.out.mono HBW.out)
   have HKP := Lib.hid (KpX.ofBelow HB.out fun j hj => (HD.out.lt j hj).2)
   have HR4 := Lib.hid hr4
   have HN4 := Lib.hid hn4
   have HLC := Lib.hid (And.intro hlc4 hcm4)
   have HLZ := Lib.hid (And.intro hl4 hzl)
   clear hY hoz hzb hl4 hzl hlc4 hcm4 hn4 hr4 ho4 HB HD HZ HR HPB HBW
   obtain ⟨na, nn, nc, f1, f5, FI⟩ := HREL.out.find (by have := HG.out.len; have := HK.out; omega)
   have HFI := Lib.hid (FI sp)
   clear FI
   have HDNA := Lib.hid hd
   have HSOME := Lib.hid hl
   obtain ⟨ix, hix⟩ := (idxI_of (l := A.now) (s := sp)).2 hl
   rw [hd] at f5
   rw [hix] at HFI
   have HRW := Lib.hid (show A.rw nm sp z = rwE sp (runA [rmA sp, mkA sp, apF sp z, Ad.sync, mvA sp nm, Ad.sync] A) from rfl)
   clear hix hd hl
   go_wp2_with fail
   refine HFI.out.mono ?_
   rintro e1 w1 ⟨rfl, e2⟩
   subst w1
   clear HFI
   by_cases h0 : L4 = 0
   ·
    subst h0
    have HZN := Lib.hid (show z = [] from List.eq_nil_of_length_eq_zero HLZ.out.1)
    have HST := Lib.hid (HREL.out.rm HG.out.gs (by have := HG.out.len; have := HK.out; omega) (by have := HG.out.len; have := HK.out; omega) sp HSM.out)
    obtain ⟨r20, hr20⟩ : ∃ r, A.step ⟨2, sp, ⟨#[]⟩, []⟩ = r := ⟨_, rfl⟩
    have HG20 := Lib.hid (HG.out.step ⟨2, sp, ⟨#[]⟩, []⟩)
    rw [hr20] at HST HG20
    obtain ⟨A20, x⟩ := r20
    have HR20 := Lib.hid hr20
    clear hr20 HG
    have HG := Lib.hid (show Gk _ A20 from HG20.out)
    clear HG20
    go_wp2_with fail
    refine HST.out.mono ?_
    rintro e20 w20 ⟨rfl, g20, b20, k20⟩
    have HRL := Lib.hid (show Rel Y B d m N A1 A20 w20 from g20)
    have HB2 := Lib.hid (HBB.out.trans b20)
    have HK2 := Lib.hid (HKP.out.trans (k20.less HXY.out))
    clear HST HREL HBB HKP g20 b20 k20
    have HREL := HRL
    have HBB := HB2
    have HKP := HK2
    clear HRL HB2 HK2
    by_cases hx : x = 0
    ·
     subst hx
     have HRW2 := Lib.hid (HRW.out.trans (congrArg (rwE sp) (runA_ok ((rm_some HDNA.out HSOME.out).trans HR20.out))))
     clear HRW
     have HRW := HRW2
     clear HRW2
     clear HSOME HDNA
     have HST := Lib.hid (HREL.out.mkf HG.out.gs (by have := HG.out.len; have := HK.out; omega) (by have := HG.out.len; have := HK.out; omega) sp HSM.out)
     obtain ⟨r21, hr21⟩ : ∃ r, A20.step ⟨0, sp, ⟨#[]⟩, []⟩ = r := ⟨_, rfl⟩
     have HG21 := Lib.hid (HG.out.step ⟨0, sp, ⟨#[]⟩, []⟩)
     rw [hr21] at HST HG21
     obtain ⟨A21, x⟩ := r21
     have HR21 := Lib.hid hr21
     clear hr21 HG
     have HG := Lib.hid (show Gk _ A21 from HG21.out)
     clear HG21
     go_wp2_with fail
     refine HST.out.mono ?_
     rintro e21 w21 ⟨rfl, g21, b21, k21⟩
     have HRL := Lib.hid (show Rel Y B d m N A1 A21 w21 from g21)
     have HB2 := Lib.hid (HBB.out.trans b21)
     have HK2 := Lib.hid (HKP.out.trans (k21.less HXY.out))
     clear HST HREL HBB HKP g21 b21 k21
     have HREL := HRL
     have HBB := HB2
     have HKP := HK2
     clear HRL HB2 HK2
     by_cases hx : x = 0
     ·
      subst hx
      have HRW2 := Lib.hid (HRW.out.trans (congrArg (rwE sp) (runA_ok (show mkA sp A20 = _ from HR21.out))))
      clear HRW
      have HRW := HRW2
      clear HRW2
      have HRW2 := Lib.hid (HRW.out.trans (congrArg (rwE sp) (runA_ok (show apF sp z A21 = (A21, 0) from if_pos HZN.out))))
      clear HRW
      have HRW := HRW2
      clear HRW2
      go_wp2_with fail
      refine wp_loop_rounds 1 ?_
      rw [rounds_succ]
      have HST := Lib.hid (HREL.out.syncS HG.out.gs)
      obtain ⟨r22, hr22⟩ : ∃ r, A21.sync = r := ⟨_, rfl⟩
      have HG22 := Lib.hid (HG.out.sync)
      rw [hr22] at HST HG22
      obtain ⟨A22, x⟩ := r22
      have HR22 := Lib.hid hr22
      clear hr22 HG
      have HG := Lib.hid (show Gk _ A22 from HG22.out)
      clear HG22
      go_wp2_with fail
      refine HST.out.mono ?_
      rintro e22 w22 ⟨rfl, g22, b22, k22⟩
      have HRL := Lib.hid (show Rel Y B d m N A1 A22 w22 from g22)
      have HB2 := Lib.hid (HBB.out.trans b22)
      have HK2 := Lib.hid (HKP.out.trans (k22.less HXY.out))
      clear HST HREL HBB HKP g22 b22 k22
      have HREL := HRL
      have HBB := HB2
      have HKP := HK2
      clear HRL HB2 HK2
      by_cases hx : x = 0
      ·
       subst hx
       have HRW2 := Lib.hid (HRW.out.trans (congrArg (rwE sp) (runA_ok (show Ad.sync A21 = _ from HR22.out))))
       clear HRW
       have HRW := HRW2
       clear HRW2
       have HST := Lib.hid (HREL.out.mv HG.out.gs (by have := HG.out.len; have := HK.out; omega) (by have := HG.out.len; have := HK.out; omega) sp nm HSM.out HNX.out)
       obtain ⟨r23, hr23⟩ : ∃ r, A22.step ⟨3, sp, nm, []⟩ = r := ⟨_, rfl⟩
       have HG23 := Lib.hid (HG.out.step ⟨3, sp, nm, []⟩)
       rw [hr23] at HST HG23
       obtain ⟨A23, x⟩ := r23
       have HR23 := Lib.hid hr23
       clear hr23 HG
       have HG := Lib.hid (show Gk _ A23 from HG23.out)
       clear HG23
       go_wp2_with fail
       refine HST.out.mono ?_
       rintro e23 w23 ⟨rfl, g23, b23, k23⟩
       have HRL := Lib.hid (show Rel Y B d m N A1 A23 w23 from g23)
       have HB2 := Lib.hid (HBB.out.trans b23)
       have HK2 := Lib.hid (HKP.out.trans (k23.less HXY.out))
       clear HST HREL HBB HKP g23 b23 k23
       have HREL := HRL
       have HBB := HB2
       have HKP := HK2
       clear HRL HB2 HK2
       by_cases hx : x = 0
       ·
        subst hx
        have HRW2 := Lib.hid (HRW.out.trans (congrArg (rwE sp) (runA_ok (show mvA sp nm A22 = _ from HR23.out))))
        clear HRW
        have HRW := HRW2
        clear HRW2
        have HST := Lib.hid (HREL.out.syncS HG.out.gs)
        obtain ⟨r24, hr24⟩ : ∃ r, A23.sync = r := ⟨_, rfl⟩
        have HG24 := Lib.hid (HG.out.sync)
        rw [hr24] at HST HG24
        obtain ⟨A24, x⟩ := r24
        have HR24 := Lib.hid hr24
        clear hr24 HG
        have HG := Lib.hid (show Gk _ A24 from HG24.out)
        clear HG24
        go_wp2_with fail
        refine HST.out.mono ?_
        rintro e24 w24 ⟨rfl, g24, b24, k24⟩
        have HRL := Lib.hid (show Rel Y B d m N A1 A24 w24 from g24)
        have HB2 := Lib.hid (HBB.out.trans b24)
        have HK2 := Lib.hid (HKP.out.trans (k24.less HXY.out))
        clear HST HREL HBB HKP g24 b24 k24
        have HREL := HRL
        have HBB := HB2
        have HKP := HK2
        clear HRL HB2 HK2
        by_cases hx : x = 0
        ·
         subst hx
         have HRW2 := Lib.hid (HRW.out.trans (congrArg (rwE sp) (runA_ok (show Ad.sync A23 = _ from HR24.out))))
         clear HRW
         have HRW := HRW2
         clear HRW2
         have HE := Lib.hid (show LayR X B d m N A1 w (A.rw nm sp z) (.returned (.int .i64 0)) w24 from by
          rw [HRW.out]
          exact ⟨rfl, HREL.out.less HXY.out, HBB.out, HKP.out⟩)
         go_wp2_with fail
         go_ret
         exact HE.out
        ·
         have hxb : (x == 0) = false := by simp [hx]
         have HX := Lib.hid hx
         have hx4 : ¬ x = 4 := sync_full HR24.out
         have hx4b : (x == 4) = false := by simp [hx4]
         have HE := Lib.hid (show LayR X B d m N A1 w (A.rw nm sp z) (.returned (.int .i64 x)) w24 from by
          rw [HRW.out, runA_er (show Ad.sync A23 = _ from HR24.out) HX.out, rwE_ne hx4]
          exact ⟨rfl, HREL.out.less HXY.out, HBB.out, HKP.out⟩)
         go_wp2_with fail
         go_ret
         exact HE.out
       ·
        have hxb : (x == 0) = false := by simp [hx]
        have HX := Lib.hid hx
        by_cases h4 : x = 4
        ·
         subst h4
         have hdn : A23.down = false := step_full HR23.out
         obtain ⟨na9, nn9, nc9, v1, v5, FI9⟩ := HREL.out.find (by have := HG.out.len; have := HK.out; omega)
         have HF9 := Lib.hid (FI9 sp)
         have HDN := Lib.hid hdn
         clear FI9 hdn
         cases hlk : lookF A23.now sp with
         | none =>
          rw [idxI_of.1 hlk] at HF9
          have HLK := Lib.hid hlk
          clear hlk
          have HE := Lib.hid (show LayR X B d m N A1 w (A.rw nm sp z) (.returned (.int .i64 4)) w23 from by
           rw [HRW.out, runA_er (show mvA sp nm A22 = _ from HR23.out) HX.out, rwE_none HDN.out HLK.out]
           exact ⟨rfl, HREL.out.less HXY.out, HBB.out, HKP.out⟩)
          go_wp2_with fail
          refine HF9.out.mono ?_
          rintro e91 w91 ⟨rfl, e92⟩
          subst w91
          go_wp2_with fail
          go_ret
          exact HE.out
         | some zz9 =>
          obtain ⟨ix, hix⟩ := (idxI_of (l := A23.now) (s := sp)).2 (by rw [hlk]; rfl)
          rw [hix] at HF9
          have HLK := Lib.hid (show (lookF A23.now sp).isSome from by rw [hlk]; rfl)
          have HST9 := Lib.hid (HREL.out.rm HG.out.gs (by have := HG.out.len; have := HK.out; omega) (by have := HG.out.len; have := HK.out; omega) sp HSM.out)
          obtain ⟨r9, hr9⟩ : ∃ r, A23.step ⟨2, sp, ⟨#[]⟩, []⟩ = r := ⟨_, rfl⟩
          rw [hr9] at HST9
          obtain ⟨A9, x9⟩ := r9
          have HR9 := Lib.hid hr9
          clear hlk hix hr9
          go_wp2_with fail
          refine HF9.out.mono ?_
          rintro e91 w91 ⟨rfl, e92⟩
          subst w91
          clear HF9
          go_wp2_with fail
          refine HST9.out.mono ?_
          rintro e93 w93 ⟨rfl, g93, b93, k93⟩
          have HBF := Lib.hid (HBB.out.trans b93)
          have HKF := Lib.hid (HKP.out.trans (k93.less HXY.out))
          have HRF := Lib.hid (g93.less HXY.out)
          clear g93 b93 k93 HST9
          by_cases h9 : x9 = 0
          ·
           subst h9
           have HE := Lib.hid (show LayR X B d m N A1 w (A.rw nm sp z) (.returned (.int .i64 4)) w93 from by
            rw [HRW.out, runA_er (show mvA sp nm A22 = _ from HR23.out) HX.out, rwE_ok HDN.out HLK.out HR9.out]
            exact ⟨rfl, HRF.out, HBF.out, HKF.out⟩)
           go_wp2_with fail
           go_ret
           exact HE.out
          ·
           have h9b : (x9 == 0) = false := by simp [h9]
           have h9c : (x9 != 0) = true := by simp [h9]
           have HE := Lib.hid (show LayR X B d m N A1 w (A.rw nm sp z) (.returned (.int .i64 x9)) w93 from by
            rw [HRW.out, runA_er (show mvA sp nm A22 = _ from HR23.out) HX.out, rwE_er HDN.out HLK.out HR9.out h9]
            exact ⟨rfl, HRF.out, HBF.out, HKF.out⟩)
           go_wp2_with fail
           go_ret
           exact HE.out
        ·
         have h4b : (x == 4) = false := by simp [h4]
         have HE := Lib.hid (show LayR X B d m N A1 w (A.rw nm sp z) (.returned (.int .i64 x)) w23 from by
          rw [HRW.out, runA_er (show mvA sp nm A22 = _ from HR23.out) HX.out, rwE_ne h4]
          exact ⟨rfl, HREL.out.less HXY.out, HBB.out, HKP.out⟩)
         go_wp2_with fail
         go_ret
         exact HE.out
      ·
       have hxb : (x == 0) = false := by simp [hx]
       have HX := Lib.hid hx
       have hx4 : ¬ x = 4 := sync_full HR22.out
       have hx4b : (x == 4) = false := by simp [hx4]
       have HE := Lib.hid (show LayR X B d m N A1 w (A.rw nm sp z) (.returned (.int .i64 x)) w22 from by
        rw [HRW.out, runA_er (show Ad.sync A21 = _ from HR22.out) HX.out, rwE_ne hx4]
        exact ⟨rfl, HREL.out.less HXY.out, HBB.out, HKP.out⟩)
       go_wp2_with fail
       go_ret
       exact HE.out
     ·
      have hxb : (x == 0) = false := by simp [hx]
      have HX := Lib.hid hx
      by_cases h4 : x = 4
      ·
       subst h4
       have hdn : A21.down = false := step_full HR21.out
       obtain ⟨na9, nn9, nc9, v1, v5, FI9⟩ := HREL.out.find (by have := HG.out.len; have := HK.out; omega)
       have HF9 := Lib.hid (FI9 sp)
       have HDN := Lib.hid hdn
       clear FI9 hdn
       cases hlk : lookF A21.now sp with
       | none =>
        rw [idxI_of.1 hlk] at HF9
        have HLK := Lib.hid hlk
        clear hlk
        have HE := Lib.hid (show LayR X B d m N A1 w (A.rw nm sp z) (.returned (.int .i64 4)) w21 from by
         rw [HRW.out, runA_er (show mkA sp A20 = _ from HR21.out) HX.out, rwE_none HDN.out HLK.out]
         exact ⟨rfl, HREL.out.less HXY.out, HBB.out, HKP.out⟩)
        go_wp2_with fail
        refine wp_loop_rounds 1 ?_
        rw [rounds_succ]
        go_wp2_with fail
        refine HF9.out.mono ?_
        rintro e91 w91 ⟨rfl, e92⟩
        subst w91
        go_wp2_with fail
        go_ret
        exact HE.out
       | some zz9 =>
        obtain ⟨ix, hix⟩ := (idxI_of (l := A21.now) (s := sp)).2 (by rw [hlk]; rfl)
        rw [hix] at HF9
        have HLK := Lib.hid (show (lookF A21.now sp).isSome from by rw [hlk]; rfl)
        have HST9 := Lib.hid (HREL.out.rm HG.out.gs (by have := HG.out.len; have := HK.out; omega) (by have := HG.out.len; have := HK.out; omega) sp HSM.out)
        obtain ⟨r9, hr9⟩ : ∃ r, A21.step ⟨2, sp, ⟨#[]⟩, []⟩ = r := ⟨_, rfl⟩
        rw [hr9] at HST9
        obtain ⟨A9, x9⟩ := r9
        have HR9 := Lib.hid hr9
        clear hlk hix hr9
        go_wp2_with fail
        refine wp_loop_rounds 1 ?_
        rw [rounds_succ]
        go_wp2_with fail
        refine HF9.out.mono ?_
        rintro e91 w91 ⟨rfl, e92⟩
        subst w91
        clear HF9
        go_wp2_with fail
        refine HST9.out.mono ?_
        rintro e93 w93 ⟨rfl, g93, b93, k93⟩
        have HBF := Lib.hid (HBB.out.trans b93)
        have HKF := Lib.hid (HKP.out.trans (k93.less HXY.out))
        have HRF := Lib.hid (g93.less HXY.out)
        clear g93 b93 k93 HST9
        by_cases h9 : x9 = 0
        ·
         subst h9
         have HE := Lib.hid (show LayR X B d m N A1 w (A.rw nm sp z) (.returned (.int .i64 4)) w93 from by
          rw [HRW.out, runA_er (show mkA sp A20 = _ from HR21.out) HX.out, rwE_ok HDN.out HLK.out HR9.out]
          exact ⟨rfl, HRF.out, HBF.out, HKF.out⟩)
         go_wp2_with fail
         go_ret
         exact HE.out
        ·
         have h9b : (x9 == 0) = false := by simp [h9]
         have h9c : (x9 != 0) = true := by simp [h9]
         have HE := Lib.hid (show LayR X B d m N A1 w (A.rw nm sp z) (.returned (.int .i64 x9)) w93 from by
          rw [HRW.out, runA_er (show mkA sp A20 = _ from HR21.out) HX.out, rwE_er HDN.out HLK.out HR9.out h9]
          exact ⟨rfl, HRF.out, HBF.out, HKF.out⟩)
         go_wp2_with fail
         go_ret
         exact HE.out
      ·
       have h4b : (x == 4) = false := by simp [h4]
       have HE := Lib.hid (show LayR X B d m N A1 w (A.rw nm sp z) (.returned (.int .i64 x)) w21 from by
        rw [HRW.out, runA_er (show mkA sp A20 = _ from HR21.out) HX.out, rwE_ne h4]
        exact ⟨rfl, HREL.out.less HXY.out, HBB.out, HKP.out⟩)
       go_wp2_with fail
       refine wp_loop_rounds 1 ?_
       rw [rounds_succ]
       go_wp2_with fail
       go_ret
       exact HE.out
    ·
     have hxb : (x == 0) = false := by simp [hx]
     have HX := Lib.hid hx
     have hx4 : ¬ x = 4 := fun e => ((step_rm HDNA.out sp).2 HSOME.out).2 (by rw [HR20.out]; exact e)
     have hx4b : (x == 4) = false := by simp [hx4]
     have HE := Lib.hid (show LayR X B d m N A1 w (A.rw nm sp z) (.returned (.int .i64 x)) w20 from by
      rw [HRW.out, runA_er ((rm_some HDNA.out HSOME.out).trans HR20.out) HX.out, rwE_ne hx4]
      exact ⟨rfl, HREL.out.less HXY.out, HBB.out, HKP.out⟩)
     go_wp2_with fail
     refine wp_loop_rounds 1 ?_
     rw [rounds_succ]
     go_wp2_with fail
     go_ret
     exact HE.out
   ·
    have HZN := Lib.hid (show ¬ z = [] from fun e => h0 (by rw [← HLZ.out.1, e]; rfl))
    have HL4 := Lib.hid (show (0 : Int) < (L4 : Int) from by omega)
    clear h0
    have HRA := Lib.hid (show Rd w0 a4 L4 z from by have := HR4.out; rwa [← HLZ.out.1] at this ⊢)
    have HST := Lib.hid (HREL.out.rm HG.out.gs (by have := HG.out.len; have := HK.out; omega) (by have := HG.out.len; have := HK.out; omega) sp HSM.out)
    obtain ⟨r25, hr25⟩ : ∃ r, A.step ⟨2, sp, ⟨#[]⟩, []⟩ = r := ⟨_, rfl⟩
    have HG25 := Lib.hid (HG.out.step ⟨2, sp, ⟨#[]⟩, []⟩)
    rw [hr25] at HST HG25
    obtain ⟨A25, x⟩ := r25
    have HR25 := Lib.hid hr25
    clear hr25 HG
    have HG := Lib.hid (show Gk _ A25 from HG25.out)
    clear HG25
    go_wp2_with fail
    refine HST.out.mono ?_
    rintro e25 w25 ⟨rfl, g25, b25, k25⟩
    have HRL := Lib.hid (show Rel Y B d m N A1 A25 w25 from g25)
    have HB2 := Lib.hid (HBB.out.trans b25)
    have HK2 := Lib.hid (HKP.out.trans (k25.less HXY.out))
    have HRA2 := Lib.hid (show Rd w25 a4 L4 z from rd_stay HRA.out b25.size fun b o s e hn => k25 b (HYB.out b o s e).1)
    clear HRA
    have HRA := HRA2
    clear HRA2
    clear HST HREL HBB HKP g25 b25 k25
    have HREL := HRL
    have HBB := HB2
    have HKP := HK2
    clear HRL HB2 HK2
    by_cases hx : x = 0
    ·
     subst hx
     have HRW2 := Lib.hid (HRW.out.trans (congrArg (rwE sp) (runA_ok ((rm_some HDNA.out HSOME.out).trans HR25.out))))
     clear HRW
     have HRW := HRW2
     clear HRW2
     clear HSOME HDNA
     have HST := Lib.hid (HREL.out.mkf HG.out.gs (by have := HG.out.len; have := HK.out; omega) (by have := HG.out.len; have := HK.out; omega) sp HSM.out)
     obtain ⟨r26, hr26⟩ : ∃ r, A25.step ⟨0, sp, ⟨#[]⟩, []⟩ = r := ⟨_, rfl⟩
     have HG26 := Lib.hid (HG.out.step ⟨0, sp, ⟨#[]⟩, []⟩)
     rw [hr26] at HST HG26
     obtain ⟨A26, x⟩ := r26
     have HR26 := Lib.hid hr26
     clear hr26 HG
     have HG := Lib.hid (show Gk _ A26 from HG26.out)
     clear HG26
     go_wp2_with fail
     refine HST.out.mono ?_
     rintro e26 w26 ⟨rfl, g26, b26, k26⟩
     have HRL := Lib.hid (show Rel Y B d m N A1 A26 w26 from g26)
     have HB2 := Lib.hid (HBB.out.trans b26)
     have HK2 := Lib.hid (HKP.out.trans (k26.less HXY.out))
     have HRA2 := Lib.hid (show Rd w26 a4 L4 z from rd_stay HRA.out b26.size fun b o s e hn => k26 b (HYB.out b o s e).1)
     clear HRA
     have HRA := HRA2
     clear HRA2
     clear HST HREL HBB HKP g26 b26 k26
     have HREL := HRL
     have HBB := HB2
     have HKP := HK2
     clear HRL HB2 HK2
     by_cases hx : x = 0
     ·
      subst hx
      have HRW2 := Lib.hid (HRW.out.trans (congrArg (rwE sp) (runA_ok (show mkA sp A25 = _ from HR26.out))))
      clear HRW
      have HRW := HRW2
      clear HRW2
      go_wp2_with fail
      refine wp_loop_rounds 2 ?_
      rw [rounds_succ]
      have hL4 := HL4.out
      go_upto_region 16 with fail
      obtain ⟨M, hM⟩ : ∃ M : Int, M = 1048576 := ⟨_, rfl⟩
      have hL6 : (L4 : Int) < M := by rw [hM]; have := HLZ.out; omega
      rw [← hM]
      have HM := Lib.hid hM
      clear hM hL4
      have hLC := HLC.out.1
      have HST := Lib.hid (HREL.out.ap HXY.out HG.out.gs (by have := HG.out.len; have := HK.out; omega) (by have := HG.out.len; have := HK.out; omega) sp HSM.out a4 L4 c4 z HRA.out (fun b o s e _ => .inr (HYB.out b o s e)) HN4.out HLC.out.1 (by have := HLZ.out; omega))
      obtain ⟨r27, hr27⟩ : ∃ r, A26.step ⟨1, sp, ⟨#[]⟩, z⟩ = r := ⟨_, rfl⟩
      have HG27 := Lib.hid (HG.out.step ⟨1, sp, ⟨#[]⟩, z⟩)
      rw [hr27] at HST HG27
      obtain ⟨A27, x⟩ := r27
      have HR27 := Lib.hid hr27
      clear hr27 HG
      have HG := Lib.hid (show Gk _ A27 from HG27.out)
      clear HG27
      go_wp2_with fail
      refine HST.out.mono ?_
      rintro e27 w27 ⟨rfl, g27, b27, k27⟩
      have HRL := Lib.hid (show Rel X B d m N A1 A27 w27 from g27)
      have HB2 := Lib.hid (HBB.out.trans b27)
      have HK2 := Lib.hid (HKP.out.trans (k27.less HXY.out))
      clear HST HREL HBB HKP g27 b27 k27
      have HREL := HRL
      have HBB := HB2
      have HKP := HK2
      clear HRL HB2 HK2
      by_cases hx : x = 0
      ·
       subst hx
       have HRW2 := Lib.hid (HRW.out.trans (congrArg (rwE sp) (runA_ok ((show apF sp z A26 = _ from if_neg HZN.out).trans HR27.out))))
       clear HRW
       have HRW := HRW2
       clear HRW2
       clear hLC hL6
       go_wp2_with fail
       rw [rounds_succ]
       have hL7 : ¬ M < (L4 : Int) := by rw [HM.out]; have := HLZ.out; omega
       rw [← HM.out]
       have HST := Lib.hid (HREL.out.syncS HG.out.gs)
       obtain ⟨r28, hr28⟩ : ∃ r, A27.sync = r := ⟨_, rfl⟩
       have HG28 := Lib.hid (HG.out.sync)
       rw [hr28] at HST HG28
       obtain ⟨A28, x⟩ := r28
       have HR28 := Lib.hid hr28
       clear hr28 HG
       have HG := Lib.hid (show Gk _ A28 from HG28.out)
       clear HG28
       go_wp2_with fail
       refine HST.out.mono ?_
       rintro e28 w28 ⟨rfl, g28, b28, k28⟩
       have HRL := Lib.hid (show Rel X B d m N A1 A28 w28 from g28)
       have HB2 := Lib.hid (HBB.out.trans b28)
       have HK2 := Lib.hid (HKP.out.trans (k28.less (fun _ hj => hj)))
       clear HST HREL HBB HKP g28 b28 k28
       have HREL := HRL
       have HBB := HB2
       have HKP := HK2
       clear HRL HB2 HK2
       by_cases hx : x = 0
       ·
        subst hx
        have HRW2 := Lib.hid (HRW.out.trans (congrArg (rwE sp) (runA_ok (show Ad.sync A27 = _ from HR28.out))))
        clear HRW
        have HRW := HRW2
        clear HRW2
        have HST := Lib.hid (HREL.out.mv HG.out.gs (by have := HG.out.len; have := HK.out; omega) (by have := HG.out.len; have := HK.out; omega) sp nm HSM.out HNX.out)
        obtain ⟨r29, hr29⟩ : ∃ r, A28.step ⟨3, sp, nm, []⟩ = r := ⟨_, rfl⟩
        have HG29 := Lib.hid (HG.out.step ⟨3, sp, nm, []⟩)
        rw [hr29] at HST HG29
        obtain ⟨A29, x⟩ := r29
        have HR29 := Lib.hid hr29
        clear hr29 HG
        have HG := Lib.hid (show Gk _ A29 from HG29.out)
        clear HG29
        go_wp2_with fail
        refine HST.out.mono ?_
        rintro e29 w29 ⟨rfl, g29, b29, k29⟩
        have HRL := Lib.hid (show Rel X B d m N A1 A29 w29 from g29)
        have HB2 := Lib.hid (HBB.out.trans b29)
        have HK2 := Lib.hid (HKP.out.trans (k29.less (fun _ hj => hj)))
        clear HST HREL HBB HKP g29 b29 k29
        have HREL := HRL
        have HBB := HB2
        have HKP := HK2
        clear HRL HB2 HK2
        by_cases hx : x = 0
        ·
         subst hx
         have HRW2 := Lib.hid (HRW.out.trans (congrArg (rwE sp) (runA_ok (show mvA sp nm A28 = _ from HR29.out))))
         clear HRW
         have HRW := HRW2
         clear HRW2
         have HST := Lib.hid (HREL.out.syncS HG.out.gs)
         obtain ⟨r30, hr30⟩ : ∃ r, A29.sync = r := ⟨_, rfl⟩
         have HG30 := Lib.hid (HG.out.sync)
         rw [hr30] at HST HG30
         obtain ⟨A30, x⟩ := r30
         have HR30 := Lib.hid hr30
         clear hr30 HG
         have HG := Lib.hid (show Gk _ A30 from HG30.out)
         clear HG30
         go_wp2_with fail
         refine HST.out.mono ?_
         rintro e30 w30 ⟨rfl, g30, b30, k30⟩
         have HRL := Lib.hid (show Rel X B d m N A1 A30 w30 from g30)
         have HB2 := Lib.hid (HBB.out.trans b30)
         have HK2 := Lib.hid (HKP.out.trans (k30.less (fun _ hj => hj)))
         clear HST HREL HBB HKP g30 b30 k30
         have HREL := HRL
         have HBB := HB2
         have HKP := HK2
         clear HRL HB2 HK2
         by_cases hx : x = 0
         ·
          subst hx
          have HRW2 := Lib.hid (HRW.out.trans (congrArg (rwE sp) (runA_ok (show Ad.sync A29 = _ from HR30.out))))
          clear HRW
          have HRW := HRW2
          clear HRW2
          have HE := Lib.hid (show LayR X B d m N A1 w (A.rw nm sp z) (.returned (.int .i64 0)) w30 from by
           rw [HRW.out]
           exact ⟨rfl, HREL.out.less (fun _ hj => hj), HBB.out, HKP.out⟩)
          go_wp2_with fail
          go_ret
          exact HE.out
         ·
          have hxb : (x == 0) = false := by simp [hx]
          have HX := Lib.hid hx
          have hx4 : ¬ x = 4 := sync_full HR30.out
          have hx4b : (x == 4) = false := by simp [hx4]
          have HE := Lib.hid (show LayR X B d m N A1 w (A.rw nm sp z) (.returned (.int .i64 x)) w30 from by
           rw [HRW.out, runA_er (show Ad.sync A29 = _ from HR30.out) HX.out, rwE_ne hx4]
           exact ⟨rfl, HREL.out.less (fun _ hj => hj), HBB.out, HKP.out⟩)
          go_wp2_with fail
          go_ret
          exact HE.out
        ·
         have hxb : (x == 0) = false := by simp [hx]
         have HX := Lib.hid hx
         by_cases h4 : x = 4
         ·
          subst h4
          have hdn : A29.down = false := step_full HR29.out
          obtain ⟨na9, nn9, nc9, v1, v5, FI9⟩ := HREL.out.find (by have := HG.out.len; have := HK.out; omega)
          have HF9 := Lib.hid (FI9 sp)
          have HDN := Lib.hid hdn
          clear FI9 hdn
          cases hlk : lookF A29.now sp with
          | none =>
           rw [idxI_of.1 hlk] at HF9
           have HLK := Lib.hid hlk
           clear hlk
           have HE := Lib.hid (show LayR X B d m N A1 w (A.rw nm sp z) (.returned (.int .i64 4)) w29 from by
            rw [HRW.out, runA_er (show mvA sp nm A28 = _ from HR29.out) HX.out, rwE_none HDN.out HLK.out]
            exact ⟨rfl, HREL.out.less (fun _ hj => hj), HBB.out, HKP.out⟩)
           go_wp2_with fail
           refine HF9.out.mono ?_
           rintro e91 w91 ⟨rfl, e92⟩
           subst w91
           go_wp2_with fail
           go_ret
           exact HE.out
          | some zz9 =>
           obtain ⟨ix, hix⟩ := (idxI_of (l := A29.now) (s := sp)).2 (by rw [hlk]; rfl)
           rw [hix] at HF9
           have HLK := Lib.hid (show (lookF A29.now sp).isSome from by rw [hlk]; rfl)
           have HST9 := Lib.hid (HREL.out.rm HG.out.gs (by have := HG.out.len; have := HK.out; omega) (by have := HG.out.len; have := HK.out; omega) sp HSM.out)
           obtain ⟨r9, hr9⟩ : ∃ r, A29.step ⟨2, sp, ⟨#[]⟩, []⟩ = r := ⟨_, rfl⟩
           rw [hr9] at HST9
           obtain ⟨A9, x9⟩ := r9
           have HR9 := Lib.hid hr9
           clear hlk hix hr9
           go_wp2_with fail
           refine HF9.out.mono ?_
           rintro e91 w91 ⟨rfl, e92⟩
           subst w91
           clear HF9
           go_wp2_with fail
           refine HST9.out.mono ?_
           rintro e93 w93 ⟨rfl, g93, b93, k93⟩
           have HBF := Lib.hid (HBB.out.trans b93)
           have HKF := Lib.hid (HKP.out.trans (k93.less (fun _ hj => hj)))
           have HRF := Lib.hid (g93.less (fun _ hj => hj))
           clear g93 b93 k93 HST9
           by_cases h9 : x9 = 0
           ·
            subst h9
            have HE := Lib.hid (show LayR X B d m N A1 w (A.rw nm sp z) (.returned (.int .i64 4)) w93 from by
             rw [HRW.out, runA_er (show mvA sp nm A28 = _ from HR29.out) HX.out, rwE_ok HDN.out HLK.out HR9.out]
             exact ⟨rfl, HRF.out, HBF.out, HKF.out⟩)
            go_wp2_with fail
            go_ret
            exact HE.out
           ·
            have h9b : (x9 == 0) = false := by simp [h9]
            have h9c : (x9 != 0) = true := by simp [h9]
            have HE := Lib.hid (show LayR X B d m N A1 w (A.rw nm sp z) (.returned (.int .i64 x9)) w93 from by
             rw [HRW.out, runA_er (show mvA sp nm A28 = _ from HR29.out) HX.out, rwE_er HDN.out HLK.out HR9.out h9]
             exact ⟨rfl, HRF.out, HBF.out, HKF.out⟩)
            go_wp2_with fail
            go_ret
            exact HE.out
         ·
          have h4b : (x == 4) = false := by simp [h4]
          have HE := Lib.hid (show LayR X B d m N A1 w (A.rw nm sp z) (.returned (.int .i64 x)) w29 from by
           rw [HRW.out, runA_er (show mvA sp nm A28 = _ from HR29.out) HX.out, rwE_ne h4]
           exact ⟨rfl, HREL.out.less (fun _ hj => hj), HBB.out, HKP.out⟩)
          go_wp2_with fail
          go_ret
          exact HE.out
       ·
        have hxb : (x == 0) = false := by simp [hx]
        have HX := Lib.hid hx
        have hx4 : ¬ x = 4 := sync_full HR28.out
        have hx4b : (x == 4) = false := by simp [hx4]
        have HE := Lib.hid (show LayR X B d m N A1 w (A.rw nm sp z) (.returned (.int .i64 x)) w28 from by
         rw [HRW.out, runA_er (show Ad.sync A27 = _ from HR28.out) HX.out, rwE_ne hx4]
         exact ⟨rfl, HREL.out.less (fun _ hj => hj), HBB.out, HKP.out⟩)
        go_wp2_with fail
        go_ret
        exact HE.out
      ·
       have hxb : (x == 0) = false := by simp [hx]
       have HX := Lib.hid hx
       by_cases h4 : x = 4
       ·
        subst h4
        have hdn : A27.down = false := step_full HR27.out
        obtain ⟨na9, nn9, nc9, v1, v5, FI9⟩ := HREL.out.find (by have := HG.out.len; have := HK.out; omega)
        have HF9 := Lib.hid (FI9 sp)
        have HDN := Lib.hid hdn
        clear FI9 hdn
        cases hlk : lookF A27.now sp with
        | none =>
         rw [idxI_of.1 hlk] at HF9
         have HLK := Lib.hid hlk
         clear hlk
         have HE := Lib.hid (show LayR X B d m N A1 w (A.rw nm sp z) (.returned (.int .i64 4)) w27 from by
          rw [HRW.out, runA_er ((show apF sp z A26 = _ from if_neg HZN.out).trans HR27.out) HX.out, rwE_none HDN.out HLK.out]
          exact ⟨rfl, HREL.out.less (fun _ hj => hj), HBB.out, HKP.out⟩)
         go_wp2_with fail
         rw [rounds_succ]
         have hL7 : ¬ M < (L4 : Int) := by rw [HM.out]; have := HLZ.out; omega
         rw [← HM.out]
         go_wp2_with fail
         refine HF9.out.mono ?_
         rintro e91 w91 ⟨rfl, e92⟩
         subst w91
         go_wp2_with fail
         go_ret
         exact HE.out
        | some zz9 =>
         obtain ⟨ix, hix⟩ := (idxI_of (l := A27.now) (s := sp)).2 (by rw [hlk]; rfl)
         rw [hix] at HF9
         have HLK := Lib.hid (show (lookF A27.now sp).isSome from by rw [hlk]; rfl)
         have HST9 := Lib.hid (HREL.out.rm HG.out.gs (by have := HG.out.len; have := HK.out; omega) (by have := HG.out.len; have := HK.out; omega) sp HSM.out)
         obtain ⟨r9, hr9⟩ : ∃ r, A27.step ⟨2, sp, ⟨#[]⟩, []⟩ = r := ⟨_, rfl⟩
         rw [hr9] at HST9
         obtain ⟨A9, x9⟩ := r9
         have HR9 := Lib.hid hr9
         clear hlk hix hr9
         go_wp2_with fail
         rw [rounds_succ]
         have hL7 : ¬ M < (L4 : Int) := by rw [HM.out]; have := HLZ.out; omega
         rw [← HM.out]
         go_wp2_with fail
         refine HF9.out.mono ?_
         rintro e91 w91 ⟨rfl, e92⟩
         subst w91
         clear HF9
         go_wp2_with fail
         refine HST9.out.mono ?_
         rintro e93 w93 ⟨rfl, g93, b93, k93⟩
         have HBF := Lib.hid (HBB.out.trans b93)
         have HKF := Lib.hid (HKP.out.trans (k93.less (fun _ hj => hj)))
         have HRF := Lib.hid (g93.less (fun _ hj => hj))
         clear g93 b93 k93 HST9
         by_cases h9 : x9 = 0
         ·
          subst h9
          have HE := Lib.hid (show LayR X B d m N A1 w (A.rw nm sp z) (.returned (.int .i64 4)) w93 from by
           rw [HRW.out, runA_er ((show apF sp z A26 = _ from if_neg HZN.out).trans HR27.out) HX.out, rwE_ok HDN.out HLK.out HR9.out]
           exact ⟨rfl, HRF.out, HBF.out, HKF.out⟩)
          go_wp2_with fail
          go_ret
          exact HE.out
         ·
          have h9b : (x9 == 0) = false := by simp [h9]
          have h9c : (x9 != 0) = true := by simp [h9]
          have HE := Lib.hid (show LayR X B d m N A1 w (A.rw nm sp z) (.returned (.int .i64 x9)) w93 from by
           rw [HRW.out, runA_er ((show apF sp z A26 = _ from if_neg HZN.out).trans HR27.out) HX.out, rwE_er HDN.out HLK.out HR9.out h9]
           exact ⟨rfl, HRF.out, HBF.out, HKF.out⟩)
          go_wp2_with fail
          go_ret
          exact HE.out
       ·
        have h4b : (x == 4) = false := by simp [h4]
        have HE := Lib.hid (show LayR X B d m N A1 w (A.rw nm sp z) (.returned (.int .i64 x)) w27 from by
         rw [HRW.out, runA_er ((show apF sp z A26 = _ from if_neg HZN.out).trans HR27.out) HX.out, rwE_ne h4]
         exact ⟨rfl, HREL.out.less (fun _ hj => hj), HBB.out, HKP.out⟩)
        go_wp2_with fail
        rw [rounds_succ]
        have hL7 : ¬ M < (L4 : Int) := by rw [HM.out]; have := HLZ.out; omega
        rw [← HM.out]
        go_wp2_with fail
        go_ret
        exact HE.out
     ·
      have hxb : (x == 0) = false := by simp [hx]
      have HX := Lib.hid hx
      by_cases h4 : x = 4
      ·
       subst h4
       have hdn : A26.down = false := step_full HR26.out
       obtain ⟨na9, nn9, nc9, v1, v5, FI9⟩ := HREL.out.find (by have := HG.out.len; have := HK.out; omega)
       have HF9 := Lib.hid (FI9 sp)
       have HDN := Lib.hid hdn
       clear FI9 hdn
       cases hlk : lookF A26.now sp with
       | none =>
        rw [idxI_of.1 hlk] at HF9
        have HLK := Lib.hid hlk
        clear hlk
        have HE := Lib.hid (show LayR X B d m N A1 w (A.rw nm sp z) (.returned (.int .i64 4)) w26 from by
         rw [HRW.out, runA_er (show mkA sp A25 = _ from HR26.out) HX.out, rwE_none HDN.out HLK.out]
         exact ⟨rfl, HREL.out.less HXY.out, HBB.out, HKP.out⟩)
        go_wp2_with fail
        refine wp_loop_rounds 1 ?_
        rw [rounds_succ]
        have hL4 := HL4.out
        go_wp2_with fail
        refine HF9.out.mono ?_
        rintro e91 w91 ⟨rfl, e92⟩
        subst w91
        go_wp2_with fail
        go_ret
        exact HE.out
       | some zz9 =>
        obtain ⟨ix, hix⟩ := (idxI_of (l := A26.now) (s := sp)).2 (by rw [hlk]; rfl)
        rw [hix] at HF9
        have HLK := Lib.hid (show (lookF A26.now sp).isSome from by rw [hlk]; rfl)
        have HST9 := Lib.hid (HREL.out.rm HG.out.gs (by have := HG.out.len; have := HK.out; omega) (by have := HG.out.len; have := HK.out; omega) sp HSM.out)
        obtain ⟨r9, hr9⟩ : ∃ r, A26.step ⟨2, sp, ⟨#[]⟩, []⟩ = r := ⟨_, rfl⟩
        rw [hr9] at HST9
        obtain ⟨A9, x9⟩ := r9
        have HR9 := Lib.hid hr9
        clear hlk hix hr9
        go_wp2_with fail
        refine wp_loop_rounds 1 ?_
        rw [rounds_succ]
        have hL4 := HL4.out
        go_wp2_with fail
        refine HF9.out.mono ?_
        rintro e91 w91 ⟨rfl, e92⟩
        subst w91
        clear HF9
        go_wp2_with fail
        refine HST9.out.mono ?_
        rintro e93 w93 ⟨rfl, g93, b93, k93⟩
        have HBF := Lib.hid (HBB.out.trans b93)
        have HKF := Lib.hid (HKP.out.trans (k93.less HXY.out))
        have HRF := Lib.hid (g93.less HXY.out)
        clear g93 b93 k93 HST9
        by_cases h9 : x9 = 0
        ·
         subst h9
         have HE := Lib.hid (show LayR X B d m N A1 w (A.rw nm sp z) (.returned (.int .i64 4)) w93 from by
          rw [HRW.out, runA_er (show mkA sp A25 = _ from HR26.out) HX.out, rwE_ok HDN.out HLK.out HR9.out]
          exact ⟨rfl, HRF.out, HBF.out, HKF.out⟩)
         go_wp2_with fail
         go_ret
         exact HE.out
        ·
         have h9b : (x9 == 0) = false := by simp [h9]
         have h9c : (x9 != 0) = true := by simp [h9]
         have HE := Lib.hid (show LayR X B d m N A1 w (A.rw nm sp z) (.returned (.int .i64 x9)) w93 from by
          rw [HRW.out, runA_er (show mkA sp A25 = _ from HR26.out) HX.out, rwE_er HDN.out HLK.out HR9.out h9]
          exact ⟨rfl, HRF.out, HBF.out, HKF.out⟩)
         go_wp2_with fail
         go_ret
         exact HE.out
      ·
       have h4b : (x == 4) = false := by simp [h4]
       have HE := Lib.hid (show LayR X B d m N A1 w (A.rw nm sp z) (.returned (.int .i64 x)) w26 from by
        rw [HRW.out, runA_er (show mkA sp A25 = _ from HR26.out) HX.out, rwE_ne h4]
        exact ⟨rfl, HREL.out.less HXY.out, HBB.out, HKP.out⟩)
       go_wp2_with fail
       refine wp_loop_rounds 1 ?_
       rw [rounds_succ]
       have hL4 := HL4.out
       go_wp2_with fail
       go_ret
       exact HE.out
    ·
     have hxb : (x == 0) = false := by simp [hx]
     have HX := Lib.hid hx
     have hx4 : ¬ x = 4 := fun e => ((step_rm HDNA.out sp).2 HSOME.out).2 (by rw [HR25.out]; exact e)
     have hx4b : (x == 4) = false := by simp [hx4]
     have HE := Lib.hid (show LayR X B d m N A1 w (A.rw nm sp z) (.returned (.int .i64 x)) w25 from by
      rw [HRW.out, runA_er ((rm_some HDNA.out HSOME.out).trans HR25.out) HX.out, rwE_ne hx4]
      exact ⟨rfl, HREL.out.less HXY.out, HBB.out, HKP.out⟩)
     go_wp2_with fail
     refine wp_loop_rounds 1 ?_
     rw [rounds_succ]
     have hL4 := HL4.out
     go_wp2_with fail
     go_ret
     exact HE.out
theorem rlay_c {X X0 : Nat → Prop} {B B0 d m N k0 : Nat} {A1 A : Ad} {w : World} (h : Rel X B d m N A1 A w) (g : Gk k0 A) (hk0 : k0 ≤ 10000) (nm : ByteArray) (hnm : nm.size ≤ 1000) (ra : Option Addr) (rn rc : Nat) (ps : List (List Nat)) (hr : Rcd X0 B0 w ra rn ps) (hrn : rn ≤ 1000000) (hfl : (Frm.flatF ps).length < 1048576) (hpb : ∀ p ∈ ps, ∀ z ∈ p, z < 256) :
  Calls Tryz.prog 41 #[.pointer (some ⟨m, 0, none⟩), .string nm, .slice ra rn rc] w (LayR X B d m N A1 w (A.rw nm (spJ nm) (Frm.flatF ps))) := by
 cases hd : A.down with
 | true => exact rlay_down h g hk0 nm hnm ra rn rc ps hr hrn hfl hpb hd
 | false =>
  cases hl : lookF A.now (spJ nm) with
  | none => exact rlay_none h g hk0 nm hnm ra rn rc ps hr hrn hfl hpb hd hl
  | some z => exact rlay_some h g hk0 nm hnm ra rn rc ps hr hrn hfl hpb hd (by rw [hl]; rfl)
end Go.Proofs.YtihbgigledmliaaGreat

namespace Go.Proofs.YtihbgigledmliaaGreat
open Go.ChangeShapes Go.WideShapes Go.ChangeAt Go.RowKit Go.Deep
set_option linter.unusedVariables false
/-- kinds of fields -/
inductive FK where
 | i
 | s
 | b
 | bb
def FK.ty : FK → TypeId
 | .i => 3
 | .s => 9
 | .b => 38
 | .bb => 32
inductive FV where
 | i (n : Int)
 | s (t : ByteArray)
 | b (z : Sl)
 | bb (a : Option Addr) (n c : Nat) (L : List Sl)
instance : Inhabited FV := ⟨.i 0⟩
def FV.val : FV → Value
 | .i n => .int .i64 n
 | .s t => .string t
 | .b z => slv z
 | .bb a n c _ => .slice a n c
def FV.ok (W : World) : FK → FV → Prop
 | .i, .i n => (Lit.int .i64 n).wf = true
 | .s, .s t => t.size ≤ maxLen
 | .b, .b z => SlB W z
 | .bb, .bb a n c L => BssIn W a n c L
 | _, _ => False
def StsIn (W : World) (ks : List FK) (a : Option Addr) (len cap : Nat) (L : List (List FV)) : Prop :=
 L.length = len ∧ (a = none → cap = 0) ∧ len ≤ cap ∧ cap ≤ 9223372036854775807 ∧ (len = 0 ∨ ∃ b off, a = some ⟨b, off, none⟩ ∧ b < W.heap.size ∧ ∀ (i : Nat) (r : List FV), L[i]? = some r → ∀ (j : Nat) (v : FV), r[j]? = some v → W.cell? ⟨b, off + i * ks.length + j, none⟩ = some v.val) ∧ ∀ r : List FV, r ∈ L → r.length = ks.length ∧ ∀ (j : Nat) (k : FK) (v : FV), ks[j]? = some k → r[j]? = some v → FV.ok W k v
theorem stsIn_nil (W : World) (ks : List FK) : StsIn W ks none 0 0 [] := ⟨rfl, fun _ => rfl, Nat.le_refl _, by omega, .inl rfl, fun r hr => by cases hr⟩
theorem open_field {H : Type} {enc : TypeId × Value → H} {W : World} {base n : Nat} {held : Bool} {k : FK} {cs : List Value} {x : DataW H × List MemPlace}
  (h : DataW.trod enc Tryz.prog W base (fun _ => true) held n k.ty cs = some x) (hsz : ∀ m ∈ DataW.weights Tryz.prog k.ty x.1, m ≤ reachBytes) : ∃ v : FV, cs = [v.val] ∧ FV.ok W k v := by
 cases k with
 | i =>
  obtain ⟨m, h1, h2, h3⟩ := DataW.trod_int Tryz.underlying3 h
  exact ⟨.i m, h1, h3⟩
 | s =>
  obtain ⟨s, h1, h2, h3⟩ := DataW.trod_string Tryz.underlying9 h
  exact ⟨.s s, h1, h3⟩
 | b =>
  rcases open_ints Tryz.underlying38 Tryz.underlying5 (by kernel_rfl) h with ⟨e, _⟩ | ⟨x', l', c', zs, e, _, hl', hm', hz, hx', hcell, hwz⟩
  ·
   exact ⟨.b (none, 0, 0, []), e, ⟨⟨rfl, by simp, .inl rfl⟩, fun _ => rfl, Nat.le_refl _, Nat.zero_le _⟩⟩
  ·
   simp only [if_true] at hz
   have hdi := (Prod.mk.inj hx').1
   have hw : (lits .u8 (zs.take l') : List (DataW H)).length + (lits .u8 (zs.drop l') : List (DataW H)).length ≤ reachBytes := by
    refine hsz _ ?_
    rw [hdi]
    simp only [DataW.weights, FK.ty, Tryz.underlying38, bytes_u8, Nat.mul_one]
    exact List.mem_cons_self
   simp only [lits, List.length_map, List.length_take, List.length_drop, reachBytes] at hw
   obtain ⟨b1, b2, b3, b4⟩ := bytesIn_some hl' hz (by omega) hcell hwz
   exact ⟨.b (some x', l', c', _), e, ⟨b1, b2, b3, b4⟩⟩
 | bb =>
  rcases open_slice Tryz.underlying32 h with ⟨hcs, _⟩ | ⟨x', l, c, m, n', D, Pl, hcs, _⟩
  ·
   subst hcs
   obtain ⟨L, hL⟩ := open_bytess (a := none) (len := 0) (cap := 0) ⟨_, h⟩ hsz
   exact ⟨.bb none 0 0 L, rfl, hL⟩
  ·
   subst hcs
   obtain ⟨L, hL⟩ := open_bytess (a := some x') (len := l) (cap := c) ⟨_, h⟩ hsz
   exact ⟨.bb (some x') l c L, rfl, hL⟩
set_option maxRecDepth 100000 in
theorem open_sts {H : Type} {enc : TypeId × Value → H} {W : World} {base : Nat} {held : Bool} {t e : TypeId} {fs : Array Field} (ks : List FK) (ht : Tryz.prog.underlying t = some (.slice e)) (he : Tryz.prog.underlying e = some (.struct fs))
  (hone : ∀ (i : Nat) (f : Field), fs[i]? = some f → f.offset = i ∧ Tryz.prog.cellsOf f.type = 1) (hC : Tryz.prog.cellsOf e = ks.length) (hK : ks.length ≠ 0) (hty : fs.toList.map (·.type) = ks.map FK.ty)
  {d : DataW H} {p : List MemPlace} {a : Option Addr} {len cap : Nat}
  (h : DataW.Trod enc Tryz.prog W base (fun _ => true) held t (.slice a len cap) d p) (hsz : ∀ n ∈ DataW.weights Tryz.prog t d, n ≤ reachBytes) : ∃ L, StsIn W ks a len cap L := by
 obtain ⟨fuel, hf⟩ := h
 have hfl : fs.size = ks.length := by
  have := congrArg List.length hty
  simpa using this
 rcases open_slice ht hf with ⟨hcs, _⟩ | ⟨x, l, c, m, n, D, Pl, hcs, _, hl, hcm, hm, hx, hi⟩
 ·
  simp [Value.cells] at hcs
  obtain ⟨rfl, rfl, rfl⟩ := hcs
  exact ⟨[], stsIn_nil _ _⟩
 ·
  simp [Value.cells] at hcs
  obtain ⟨rfl, rfl, rfl⟩ := hcs
  simp only [if_true] at hm
  subst hm
  have hd := (Prod.mk.inj hx).1
  rw [hC] at hi
  unfold maxLen at hcm
  obtain ⟨Z, hZ⟩ := choose_lt (α := List FV) (n := len) (p := fun i r => (r.length = ks.length ∧ ∀ j k v, ks[j]? = some k → r[j]? = some v → FV.ok W k v) ∧ W.cells? base (x.add (i * ks.length)) ks.length = some (r.map FV.val)) (fun i him => by
   obtain ⟨cs', h1, h2⟩ := hi i (by omega)
   obtain ⟨xs, n', _, hxy, hl2, hxl, hff⟩ := DataW.trod_struct he h2
   rw [hC] at hl2
   obtain ⟨V, hV⟩ := choose_lt (α := FV) (n := ks.length) (p := fun j v => cs'[j]? = some v.val ∧ ∀ k, ks[j]? = some k → FV.ok W k v) (fun j hj => by
    have hjf : fs[j]? = some fs[j] := Array.getElem?_eq_getElem (by omega)
    have hkj : ks[j]? = some ks[j] := List.getElem?_eq_getElem hj
    have htj : (fs[j]).type = (ks[j]).ty := by
     have h3 := congrArg (fun l => l[j]?) hty
     simp only [List.getElem?_map, Array.getElem?_toList, hjf, hkj, Option.map_some, Option.some.injEq] at h3
     exact h3
    obtain ⟨ho, hc1⟩ := hone j _ hjf
    have g := hff j _ hjf
    rw [ho, hc1, take1_drop cs' j undef (by omega), htj] at g
    have hxj : xs[j]? = some xs[j] := List.getElem?_eq_getElem (by omega)
    rw [hxj] at g
    obtain ⟨v, h3, h4⟩ := open_field g (fun q hq => hsz q (by
     rw [hd]
     simp only [DataW.weights, ht]
     refine List.mem_cons_of_mem _ (List.mem_append_left _ (weightsAll_mem (d := D i) (List.mem_map.2 ⟨i, by simpa using him, rfl⟩) ?_))
     rw [(Prod.mk.inj hxy).1]
     simp only [DataW.weights, he]
     exact DataW.weights_mem_each (j := j) (t := (ks[j]).ty) (by rw [hty, List.getElem?_map, hkj]; rfl) (by rw [List.getElem?_map, hxj]; rfl) q hq))
    refine ⟨v, ?_, fun k hk => by rw [hkj] at hk; cases hk; exact h4⟩
    have h5 : cs'.getD j undef = v.val := by simpa using h3
    rw [List.getElem?_eq_getElem (by omega), ← h5]
    simp [List.getD, List.getElem?_eq_getElem (show j < cs'.length by omega)])
   refine ⟨(List.range ks.length).map V, ⟨by simp, fun j k v hk hv => ?_⟩, ?_⟩
   ·
    have hj : j < ks.length := (List.getElem?_eq_some_iff.1 hk).1
    rw [List.getElem?_map, List.getElem?_range hj] at hv
    simp only [Option.map_some, Option.some.injEq] at hv
    rw [← hv]
    exact (hV j hj).2 k hk
   ·
    rw [h1]
    congr 1
    apply List.ext_getElem?
    intro j
    by_cases hj : j < ks.length
    ·
     rw [(hV j hj).1, List.getElem?_map, List.getElem?_map, List.getElem?_range hj]
     rfl
    ·
     rw [List.getElem?_eq_none (by omega), List.getElem?_eq_none (by simp; omega)])
  refine ⟨(List.range len).map Z, by simp, by simp, hl, by omega, ?_, fun s hs => ?_⟩
  ·
   by_cases h0 : len = 0
   ·
    exact .inl h0
   ·
    have hk0 := hK
    have hat : ∀ i j, i < len → j < ks.length → W.cell? ((x.add (i * ks.length)).add j) = ((Z i).map FV.val)[j]? := fun i j him hj => by
     obtain ⟨_, _, hat⟩ := World.cells?_some (hZ i him).2
     exact hat j hj
    have hz := hat 0 0 (by omega) (by omega)
    have hZ0 := (hZ 0 (by omega)).1.1
    rw [List.getElem?_eq_getElem (by rw [List.length_map]; omega)] at hz
    obtain ⟨b, off, spot⟩ := x
    have hspot : spot = none := by simpa [Addr.add] using World.cell?_spot hz
    subst hspot
    rw [show ((⟨b, off, none⟩ : Addr).add (0 * ks.length)).add 0 = ⟨b, off, none⟩ by simp [Addr.add]] at hz
    refine .inr ⟨b, off, rfl, World.block_lt_of_cell? W ⟨b, off, none⟩ hz, fun i r hr j v hv => ?_⟩
    have hil : i < len := by
     have := (List.getElem?_eq_some_iff.1 hr).1
     simpa using this
    rw [List.getElem?_map, List.getElem?_range hil] at hr
    simp only [Option.map_some, Option.some.injEq] at hr
    have hjl : j < ks.length := by
     have := (List.getElem?_eq_some_iff.1 hv).1
     rw [← hr, (hZ i hil).1.1] at this
     exact this
    have h1 := hat i j hil hjl
    rw [Addr.add_mid, Addr.add_mid] at h1
    rw [h1, hr, List.getElem?_map, hv]
    rfl
  ·
   obtain ⟨i, hi, rfl⟩ := List.mem_map.1 hs
   exact (hZ i (by simpa using hi)).1
end Go.Proofs.YtihbgigledmliaaGreat

namespace Go.Proofs.YtihbgigledmliaaGreat
open Go.RowKit
set_option linter.unusedVariables false
theorem run_opj_idx (W : World) (b o len cap i : Nat) (hi : i < len) : (Instr.indexAt 22 (.slice (some ⟨b, o, none⟩) len cap) (.int .i64 (i : Int))).run Tryz.prog W = .ok (.pointer (some ⟨b, o + i * 5, none⟩)) W := by
 rw [run_indexAt_slice W 22 ⟨b, o, none⟩ len cap .i64 (i : Int) (by kernel_rfl)]
 have h1 : (0 : Int) ≤ (i : Int) ∧ (i : Int) < (len : Int) := by omega
 rw [if_pos h1, show (Go.sizeOf (Tryz.prog.elem 22)).run Tryz.prog W = .ok 5 W from by kernel_rfl]
 simp [Result.andThen, Addr.add]
/-- a step of a script as it came in -/
structure OpJ (W : World) (b o : Nat) (kd : Int) (z : Sl) (ra : Option Addr) (rn rc : Nat) (L : List Sl) (n q : Int) : Prop where
 c0 : W.cell? ⟨b, o, none⟩ = some (.int .i64 kd)
 c1 : W.cell? ⟨b, o + 1, none⟩ = some (.slice z.1 z.2.1 z.2.2.1)
 c2 : W.cell? ⟨b, o + 2, none⟩ = some (.slice ra rn rc)
 c3 : W.cell? ⟨b, o + 3, none⟩ = some (.int .i64 n)
 c4 : W.cell? ⟨b, o + 4, none⟩ = some (.int .i64 q)
 s1 : SlB W z
 s2 : BssIn W ra rn rc L
 s4 : n ≤ 9223372036854775807
theorem StsIn.opj {W : World} {a : Option Addr} {len cap : Nat} {L : List (List FV)} (h : StsIn W [.i, .b, .bb, .i, .i] a len cap L) {i : Nat} (hi : i < len) : ∃ b off kd z ra rn rc M n q, a = some ⟨b, off, none⟩ ∧ b < W.heap.size ∧ OpJ W b (off + i * 5) kd z ra rn rc M n q := by
 obtain ⟨h1, h2, h3, h4, h5, h6⟩ := h
 obtain ⟨b, off, ha, hb, hc⟩ := h5.resolve_left (by omega)
 obtain ⟨r, hr⟩ : ∃ r, L[i]? = some r := ⟨_, List.getElem?_eq_getElem (by omega)⟩
 obtain ⟨h7, h8⟩ := h6 r (List.mem_of_getElem? hr)
 have hcc := hc i r hr
 simp only [List.length_cons, List.length_nil] at h7 hcc
 match r, h7, h8, hcc with
 | [f0, f1, f2, f3, f4], _, h8, hcc =>
  have e0 := h8 0 _ _ rfl rfl
  have e1 := h8 1 _ _ rfl rfl
  have e2 := h8 2 _ _ rfl rfl
  have e3 := h8 3 _ _ rfl rfl
  have e4 := h8 4 _ _ rfl rfl
  cases f0 <;> first | exact e0.elim | skip
  cases f1 <;> first | exact e1.elim | skip
  cases f2 <;> first | exact e2.elim | skip
  cases f3 <;> first | exact e3.elim | skip
  cases f4 <;> first | exact e4.elim | skip
  refine ⟨b, off, _, _, _, _, _, _, _, _, ha, hb, hcc 0 _ rfl, hcc 1 _ rfl, hcc 2 _ rfl, hcc 3 _ rfl, hcc 4 _ rfl, e1, e2, ?_⟩
  have e6 : (Lit.int .i64 _).wf = true := e3
  rw [show (Lit.int .i64 _).wf = (decide (_ ≤ _) && decide (_ ≤ (9223372036854775807 : Int))) from rfl, Bool.and_eq_true] at e6
  exact of_decide_eq_true e6.2
def OpK (W : World) (X : Nat) (kd : Int) (p r : Value) (n q : Int) : Prop := W.heap[X]? = some (.cells #[.int .i64 kd, p, r, .int .i64 n, .int .i64 q] 40 (0, 0))
theorem OpK.cells {W : World} {X : Nat} {kd : Int} {p r : Value} {n q : Int} (h : OpK W X kd p r n q) : W.cell? ⟨X, 0, none⟩ = some (.int .i64 kd) ∧ W.cell? ⟨X, 1, none⟩ = some p ∧ W.cell? ⟨X, 2, none⟩ = some r ∧ W.cell? ⟨X, 3, none⟩ = some (.int .i64 n) ∧ W.cell? ⟨X, 4, none⟩ = some (.int .i64 q) :=
 ⟨(cell_of_row W X 0 _ _ _ h).trans rfl, (cell_of_row W X 1 _ _ _ h).trans rfl, (cell_of_row W X 2 _ _ _ h).trans rfl, (cell_of_row W X 3 _ _ _ h).trans rfl, (cell_of_row W X 4 _ _ _ h).trans rfl⟩
theorem OpK.lt {W : World} {X : Nat} {kd : Int} {p r : Value} {n q : Int} (h : OpK W X kd p r n q) : X < W.heap.size := (Array.getElem?_eq_some_iff.1 h).1
theorem OpK.at {W W' : World} {X : Nat} {kd : Int} {p r : Value} {n q : Int} (h : OpK W X kd p r n q) (hk : W'.heap[X]? = W.heap[X]?) : OpK W' X kd p r n q := hk.trans h
theorem OpK.below {W W' : World} {X : Nat} {kd : Int} {p r : Value} {n q : Int} (h : OpK W X kd p r n q) (hb : Below W.heap.size W W') : OpK W' X kd p r n q := h.at (hb.block X h.lt)
/-- the records among the arguments -/
def recL (L : List Sl) : List (List Nat) := L.map fun s => s.2.2.2
theorem BssIn.rcd {w : World} {a : Option Addr} {n c : Nat} {L : List Sl} (h : BssIn w a n c L) (X : Nat → Prop) : Rcd X w.heap.size w a n (recL L) := by
 obtain ⟨h1, h2, h3, h4, h5, h6⟩ := h
 refine ⟨by unfold recL; rw [List.length_map, h1], fun k p hp => ?_⟩
 unfold recL at hp
 rw [List.getElem?_map] at hp
 obtain ⟨s, hs, rfl⟩ := Option.map_eq_some_iff.1 hp
 have hk := (List.getElem?_eq_some_iff.1 hs).1
 obtain ⟨b, off, e, hb, hc⟩ := h5.resolve_left (by omega)
 obtain ⟨g1, g2, g3, g4⟩ := h6 s (List.mem_of_getElem? hs)
 have hl : s.2.2.2.length = s.2.1 := g1.1
 refine ⟨b, off, s.1, s.2.2.1, e, .inl hb, hb, by rw [hl]; exact hc k s hs, by rw [hl]; exact g1, fun b' o' sp e2 hn => .inl (rd_blkJ g1 e2 (by omega)), g2, by omega, by omega⟩
theorem recL_byte {w : World} {a : Option Addr} {n c : Nat} {L : List Sl} (h : BssIn w a n c L) : ∀ p ∈ recL L, ∀ z ∈ p, z < 256 := fun p hp => by
 obtain ⟨s, hs, rfl⟩ := List.mem_map.1 hp
 exact (h.2.2.2.2.2 s hs).1.2.1
theorem recL_len {w : World} {a : Option Addr} {n c : Nat} {L : List Sl} (h : BssIn w a n c L) (hs : ∀ s ∈ L, s.2.1 ≤ 400) : ∀ p ∈ recL L, p.length ≤ 400 := fun p hp => by
 obtain ⟨s, hm, rfl⟩ := List.mem_map.1 hp
 have := (h.2.2.2.2.2 s hm).1.1
 have := hs s hm
 omega
theorem flat_bound : ∀ (ps : List (List Nat)), (∀ p ∈ ps, p.length ≤ 400) → (Frm.flatF ps).length ≤ 408 * ps.length
 | [], _ => Nat.le_refl _
 | p :: ps, h => by
  have h1 := h p (List.mem_cons_self)
  have h2 := flat_bound ps fun q hq => h q (List.mem_cons_of_mem _ hq)
  have e : Frm.flatF (p :: ps) = Frm.frameL p ++ Frm.flatF ps := by simp [Frm.flatF]
  rw [e, List.length_append, Frm.frame_len, List.length_cons]
  omega
theorem flat_low : ∀ (ps : List (List Nat)), 8 * ps.length ≤ (Frm.flatF ps).length
 | [] => Nat.zero_le _
 | p :: ps => by
  have h2 := flat_low ps
  have e : Frm.flatF (p :: ps) = Frm.frameL p ++ Frm.flatF ps := by simp [Frm.flatF]
  rw [e, List.length_append, Frm.frame_len, List.length_cons]
  omega
/-- what OwA says of the values -/
def OwB (X : Nat → Prop) (B jb : Nat) (w : World) (v : Value) (vs : List Value) (ps : List (List Nat)) : Prop :=
 OwnV w B v vs ∧ vs.length = ps.length ∧ (∀ j, v.ownBlock = some j → X j ∧ j ≠ jb) ∧ ∀ (k : Nat) (p : List Nat) (u : Value), ps[k]? = some p → vs[k]? = some u → ∃ pa pc, u = .slice pa p.length pc ∧ Rd w pa p.length p ∧ p.length ≤ pc ∧ pc ≤ 9223372036854775807 ∧ ∀ b o s, pa = some ⟨b, o, s⟩ → p.length ≠ 0 → (b < B ∨ X b ∧ b ≠ jb) ∧ v.ownBlock ≠ some b
theorem run_cell_bssJ (W : World) (p : Addr) (a : Option Addr) (l c : Nat) (hc : W.cell? p = some (.slice a l c)) : (Instr.loadAt 32 (.pointer (some p))).run Tryz.prog W = .ok (.slice a l c) W := by go_simp
end Go.Proofs.YtihbgigledmliaaGreat

namespace Go.Proofs.YtihbgigledmliaaGreat
open Go.RowKit
set_option linter.unusedVariables false
/-- the document's journal: its struct is block kb, its records' slice rv; V: the blocks that it holds -/
structure Rk (V : Nat → Prop) (B m kb : Nat) (nm : ByteArray) (rv : Value) (ps : List (List Nat)) (w : World) : Prop where
 vk : V kb
 bk : B ≤ kb
 row : w.heap[kb]? = some (.cells #[.pointer (some ⟨m, 0, none⟩), .string nm, rv] 53 (0, 0))
 own : OwA V B kb w rv ps
theorem Rk.stay {V : Nat → Prop} {B m kb : Nat} {nm : ByteArray} {rv : Value} {ps : List (List Nat)} {w w' : World} (h : Rk V B m kb nm rv ps w) (hb : Below B w w') (hk : ∀ j, V j → w'.heap[j]? = w.heap[j]?) : Rk V B m kb nm rv ps w' :=
 ⟨h.vk, h.bk, (hk kb h.vk).trans h.row, h.own.stay hb.size fun j _ hj => hj.elim (fun e => hb.block j e) fun e => hk j e.1⟩
theorem Rk.below {V : Nat → Prop} {B m kb : Nat} {nm : ByteArray} {rv : Value} {ps : List (List Nat)} {w w' : World} (h : Rk V B m kb nm rv ps w) (hb : Below w.heap.size w w') : Rk V B m kb nm rv ps w' :=
 ⟨h.vk, h.bk, (hb.block kb (Array.getElem?_eq_some_iff.1 h.row).1).trans h.row, h.own.below hb⟩
theorem Rk.cells {V : Nat → Prop} {B m kb : Nat} {nm : ByteArray} {rv : Value} {ps : List (List Nat)} {w : World} (h : Rk V B m kb nm rv ps w) : w.cell? ⟨kb, 0, none⟩ = some (.pointer (some ⟨m, 0, none⟩)) ∧ w.cell? ⟨kb, 1, none⟩ = some (.string nm) ∧ w.cell? ⟨kb, 2, none⟩ = some rv :=
 ⟨(cell_of_row w kb 0 _ _ _ h.row).trans rfl, (cell_of_row w kb 1 _ _ _ h.row).trans rfl, (cell_of_row w kb 2 _ _ _ h.row).trans rfl⟩
theorem run_cell_rd (W : World) (a : Addr) (v : Option Addr) (hc : W.cell? a = some (.pointer v)) : (Instr.loadAt 29 (.pointer (some a))).run Tryz.prog W = .ok (.pointer v) W := by go_simp
/-- the row takes one slice more -/
theorem wp_pushVJ {w : World} {o : Oper} {a : Act} {K : Act → World → Prop} {Q : Exit → Act → World → Prop} (s x : Operand)
  (ho : o.op = .call { callee := .builtin .append, args := #[s, x], argTypes := #[32, 32] })
  (B : Nat) (v : Value) (vs : List Value) (y : Value) (hy : y.oneCell' = true) (hs : a.eval s = v) (hown : OwnV w B v vs) (hB : B ≤ w.heap.size) (g : Nat) (hx : a.eval x = .slice (some ⟨g, 0, none⟩) 1 1) (hg : w.heap[g]? = some (.cells #[y] 38 (0, 0)))
  (hlen : vs.length + 1 ≤ 1000000000)
  (h : ∀ v' w', OwnV w' B v' (vs ++ [y]) → w.grownBy w' v.ownBlock → (v'.ownBlock = v.ownBlock ∨ v'.ownBlock = some w.heap.size) → K (a.put o.dst v') w') :
  o.wp Tryz.prog a w K Q := by
 obtain ⟨i0, hi, hz0, hz1, hz2⟩ := info_parts info_slv
 obtain ⟨v', w', hr, h2, h3, h4, h5⟩ := run_append_own_at (P := Tryz.prog) (w := w) B 32 o.type 38 i0 (.slice none 0 0) 1 24 Tryz.underlying32 hi hz0 hz1 hz2 rfl (by decide) v vs.length vs hown ⟨g, 0, none⟩ 1 1 [y] rfl (fun j u hj => by
  rw [Addr.add_mid, Nat.zero_add, cell_of_row _ _ _ _ _ _ hg]
  simpa using hj) (fun u hu => by
  simp only [List.mem_singleton] at hu
  subst hu; exact hy) (by unfold maxLen; omega) (by omega) hB
 unfold Oper.wp execOp
 simp only [ho, resolve, invoke, builtin, Sem.run_bind, Sem.run_pure, Result.andThen_ok, List.map_toArray, List.map_cons, List.map_nil, hs, hx, hr]
 refine h v' w' ?_ h3 h5
 have e : (vs ++ [y]).length = vs.length + 1 := by simp
 unfold OwnV
 rw [e]
 exact h2
theorem wp_layVJ {w : World} {o : Oper} {a : Act} {K : Act → World → Prop} {Q : Exit → Act → World → Prop} (x : Operand) (ho : o.op = .buildSlice 32 1 #[(0, x)]) (pa : Option Addr) (pn pc : Nat) (hx : a.eval x = .slice pa pn pc)
  (h : K (a.put o.dst (.slice (some ⟨w.heap.size, 0, none⟩) 1 1)) (w.alloc (.cells #[.slice pa pn pc] 38))) : o.wp Tryz.prog a w K Q := by
 obtain ⟨i0, hi, hz0, hz1, hz2⟩ := info_parts info_slv
 refine wp_buildSlice 32 38 1 _ ho #[.slice pa pn pc] i0 _ Tryz.underlying32 hi hz0 (by rw [hz1]; omega) (by rw [hz1]; omega) ?_ h
 rw [hz1]
 simp only [List.map_toArray, List.map_cons, List.map_nil, hx]
 kernel_rfl
section
variable {P : Program} {md : Region.Mode} {ops : Array Oper} {Q : Exit → Act → World → Prop} {S : World → Prop}
theorem anyH_oneJ (i : Nat) {d1 : Option Tmp} {op1 : Op} {fuel : Nat} {listed : Array Bool} {a : Act} {w : World}
  (h0 : Region.ready md ops listed = [i]) (hi : (ops[i]?.map fun o => (o.dst, o.op, o.guard)) = some (d1, op1, none))
  (h1 : ∀ o : Oper, o.dst = d1 → o.op = op1 → o.wp P a w (fun a w => S w ∧ wpAnyH P md ops Q S fuel (listed.setIfInBounds i true) a w) Q) : wpAnyH P md ops Q S (fuel + 1) listed a w := by
 refine wpAnyH_all h0 (by simp) ?_
 intro k hk
 simp only [List.mem_cons, List.not_mem_nil, or_false] at hk
 subst hk
 cases ho : ops[k]? with
 | none => simp [ho] at hi
 | some o =>
  simp only [ho, Option.map_some, Option.some.injEq, Prod.mk.injEq] at hi
  obtain ⟨g1, g2, g3⟩ := hi
  unfold wpOp
  simp only [ho, wanted_plain g3, if_true]
  exact .inl (h1 o g1 g2)
theorem anyH_twoJ (i j : Nat) {d1 d2 : Option Tmp} {op1 op2 : Op} {fuel : Nat} {listed : Array Bool} {a : Act} {w : World}
  (h0 : Region.ready md ops listed = [i, j]) (hi : (ops[i]?.map fun o => (o.dst, o.op, o.guard)) = some (d1, op1, none)) (hj : (ops[j]?.map fun o => (o.dst, o.op, o.guard)) = some (d2, op2, none))
  (h1 : ∀ o : Oper, o.dst = d1 → o.op = op1 → o.wp P a w (fun a w => S w ∧ wpAnyH P md ops Q S fuel (listed.setIfInBounds i true) a w) Q)
  (h2 : ∀ o : Oper, o.dst = d2 → o.op = op2 → o.wp P a w (fun a w => S w ∧ wpAnyH P md ops Q S fuel (listed.setIfInBounds j true) a w) Q) : wpAnyH P md ops Q S (fuel + 1) listed a w := by
 refine wpAnyH_all h0 (by simp) ?_
 intro k hk
 simp only [List.mem_cons, List.not_mem_nil, or_false] at hk
 rcases hk with rfl | rfl
 ·
  cases ho : ops[k]? with
  | none => simp [ho] at hi
  | some o =>
   simp only [ho, Option.map_some, Option.some.injEq, Prod.mk.injEq] at hi
   obtain ⟨g1, g2, g3⟩ := hi
   unfold wpOp
   simp only [ho, wanted_plain g3, if_true]
   exact .inl (h1 o g1 g2)
 ·
  cases ho : ops[k]? with
  | none => simp [ho] at hj
  | some o =>
   simp only [ho, Option.map_some, Option.some.injEq, Prod.mk.injEq] at hj
   obtain ⟨g1, g2, g3⟩ := hj
   unfold wpOp
   simp only [ho, wanted_plain g3, if_true]
   exact .inl (h2 o g1 g2)
/-- a call, at its operation -/
theorem wp_callJ {f : FuncId} {xs : Array Operand} {ts : Array TypeId} {vs : Array Value} {o : Oper} {a : Act} {w : World} {K : Act → World → Prop} {R : Ending → World → Prop}
  (ho : o.op = .call { callee := .value (.func f), args := xs, argTypes := ts }) (hx : xs.map a.eval = vs) (hf : (callFunc f vs).run P w = .ok (.enter f vs) w) (hc : Calls P f vs w R)
  (h : ∀ e w', R e w' → ∃ v, e = .returned v ∧ K (a.put o.dst v) w') : o.wp P a w K Q := by
 have hr : (execOp a.eval o).run P w = .ok (.enter f vs) w := by
  unfold execOp
  rw [ho]
  simp [resolve, invoke, hx, Act.eval, go_sem, hf]
 unfold Oper.wp
 rw [hr]
 refine hc.mono fun e w' hR => ?_
 obtain ⟨v, rfl, hv⟩ := h e w' hR
 exact hv
end
/-- what a push leaves -/
def PushR (X V : Nat → Prop) (B d m kb N : Nat) (nm : ByteArray) (A1 A2 : Ad) (ps : List (List Nat)) (w w' : World) : Prop :=
 ∃ (X' V' : Nat → Prop) (rv : Value), Rel X' B d m N A1 A2 w' ∧ Rk V' B m kb nm rv ps w' ∧ (∀ j, X j → X' j) ∧ (∀ j, V j → V' j) ∧ (∀ j, V' j → X' j) ∧ (∀ j, V' j → V j ∨ w.heap.size ≤ j) ∧ Below B w w' ∧ ∀ j, X j → ¬ V j → w'.heap[j]? = w.heap[j]?
theorem PushR.trans {X V X1 V1 : Nat → Prop} {B d m kb N : Nat} {nm : ByteArray} {A1 A2 : Ad} {ps : List (List Nat)} {w w1 w' : World} (hX : ∀ j, X j → X1 j) (hV : ∀ j, V j → V1 j) (hv : ∀ j, V1 j → V j ∨ w.heap.size ≤ j) (hb : Below B w w1) (hlt : ∀ j, X j → j < w.heap.size) (hk : ∀ j, X j → ¬ V j → w1.heap[j]? = w.heap[j]?)
  (h : PushR X1 V1 B d m kb N nm A1 A2 ps w1 w') : PushR X V B d m kb N nm A1 A2 ps w w' := by
 obtain ⟨X', V', rv, h1, h2, h3, h4, h5, h6, h7, h8⟩ := h
 refine ⟨X', V', rv, h1, h2, fun j hj => h3 j (hX j hj), fun j hj => h4 j (hV j hj), h5, fun j hj => ?_, hb.trans h7, fun j hj hn => (h8 j (hX j hj) fun hv1 => ?_).trans (hk j hj hn)⟩
 ·
  rcases h6 j hj with h9 | h9
  ·
   exact hv j h9
  ·
   exact .inr (Nat.le_trans hb.size h9)
 ·
  rcases hv j hv1 with h9 | h9
  ·
   exact hn h9
  ·
   have := hlt j hj; omega
theorem Rk.push {X V : Nat → Prop} {B d m kb N : Nat} {nm : ByteArray} {A1 A2 : Ad} {w w1 w' : World} {rv v' : Value} {vs : List Value} {ps : List (List Nat)} {p : List Nat} {pa : Option Addr} {pc : Nat}
  (hrel : Rel X B d m N A1 A2 w) (h : Rk V B m kb nm rv ps w) (hVX : ∀ j, V j → X j) (ho : OwB V B kb w rv vs ps) (hb : Below w.heap.size w w1) (hBw : B ≤ w.heap.size) (hr : Rd w1 pa p.length p) (hpc : p.length ≤ pc) (hpm : pc ≤ 9223372036854775807) (hpa : ∀ b o s, pa = some ⟨b, o, s⟩ → w.heap.size ≤ b ∧ b < w1.heap.size)
  (hn : OwnV w' B v' (vs ++ [.slice pa p.length pc])) (hg : w1.grownBy w' rv.ownBlock) (hat : v'.ownBlock = rv.ownBlock ∨ v'.ownBlock = some w1.heap.size) :
  PushR X V B d m kb N nm A1 A2 (ps ++ [p]) w (w'.setCell ⟨kb, 2, none⟩ v') := by
 obtain ⟨h1, h2, h3, h4⟩ := ho
 have hkl : kb < w.heap.size := (Array.getElem?_eq_some_iff.1 h.row).1
 have hz := hb.size
 have hz' := hg.size
 have hs : (w'.setCell ⟨kb, 2, none⟩ v').heap.size = w'.heap.size := by simp [World.setCell]
 have hst : ∀ j, j ≠ kb → (w'.setCell ⟨kb, 2, none⟩ v').heap[j]? = w'.heap[j]? := fun j hj => Below.heap_setCell w' ⟨kb, 2, none⟩ _ j hj
 have hk : ∀ k, k < w.heap.size → rv.ownBlock ≠ some k → w'.heap[k]? = w.heap[k]? := fun k hk ne => (hg.block k (Nat.lt_of_lt_of_le hk hb.size) fun e => ne (by first | exact e | exact e.symm)).trans (hb.block k hk)
 have hkk : rv.ownBlock ≠ some kb := fun e => (h3 kb e).2 rfl
 have hk2 : ∀ k, k < w.heap.size → rv.ownBlock ≠ some k → k ≠ kb → (w'.setCell ⟨kb, 2, none⟩ v').heap[k]? = w.heap[k]? := fun k a b c => (hst k c).trans (hk k a b)
 have hrowk : w'.heap[kb]? = some (.cells #[.pointer (some ⟨m, 0, none⟩), .string nm, rv] 53 (0, 0)) := (hk kb hkl hkk).trans h.row
 have hvb : ∀ j, v'.ownBlock = some j → j ≠ kb := fun j e => by
  rcases hat with hat | hat
  ·
   rw [hat] at e; exact (h3 j e).2
  ·
   rw [hat] at e; cases e; omega
 have hbel : Below w.heap.size w w1 := hb
 refine ⟨fun j => X j ∨ (w.heap.size ≤ j ∧ j < w'.heap.size), fun j => V j ∨ (w.heap.size ≤ j ∧ j < w'.heap.size), v', hrel.more ⟨by omega, fun k a b => hk2 k a (fun e => b (hVX k (h3 k e).1)) fun e => b (by rw [e]; exact hVX kb h.vk)⟩ (fun j hj => hj.imp id fun e => e.1) (fun j hj => hj.elim (fun e => ⟨(hrel.lt j e).1, by have := (hrel.lt j e).2; omega⟩) fun e => ⟨by omega, by omega⟩),
  ⟨.inl h.vk, h.bk, by rw [setCell_rowJ hrowk 2]; rfl, ⟨_, ⟨hn.1, ?_⟩, by simp [h2], fun j e => ?_, fun k q u hq hu => ?_⟩⟩, fun j hj => .inl hj, fun j hj => .inl hj, fun j hj => hj.imp (hVX j) id, fun j hj => hj.imp id fun e => e.1, ?_, fun j hj hnv => ?_⟩
 ·
  rcases hn.2 with h0 | ⟨g, cap, cur, e1, e2, e3, e4⟩
  ·
   exact .inl h0
  ·
   exact .inr ⟨g, cap, cur, e1, e2, (hst g (hvb g (by rw [e1]; rfl))).trans e3, e4⟩
 ·
  have hl := (World.ownsRow.lt hn j e).2
  refine ⟨?_, hvb j e⟩
  rcases hat with hat | hat
  ·
   rw [hat] at e; exact .inl (h3 j e).1
  ·
   rw [hat] at e; cases e; exact .inr ⟨hz, hl⟩
 ·
  by_cases hkp : k < ps.length
  ·
   rw [List.getElem?_append_left hkp] at hq
   rw [List.getElem?_append_left (by omega)] at hu
   obtain ⟨qa, qc, e1, e2, e3, e4, e5⟩ := h4 k q u hq hu
   refine ⟨qa, qc, e1, rd_stay e2 (by omega) fun b o s e hn0 => hk2 b (rd_blkJ e2 e hn0) (e5 b o s e hn0).2 (fun ek => ?_), e3, e4, fun b o s e hn0 => ⟨(e5 b o s e hn0).1.imp id fun c => ⟨.inl c.1, c.2⟩, fun e6 => ?_⟩⟩
   ·
    rcases (e5 b o s e hn0).1 with h9 | h9
    ·
     have := h.bk; omega
    ·
     exact h9.2 ek
   ·
    rcases hat with hat | hat
    ·
     rw [hat] at e6; exact (e5 b o s e hn0).2 e6
    ·
     rw [hat] at e6; have := rd_blkJ e2 e hn0; cases e6; omega
  ·
   rw [List.getElem?_append_right (by omega)] at hq hu
   have hk0 : k - ps.length = 0 := by
    have := (List.getElem?_eq_some_iff.1 hq).1
    simpa using this
   rw [hk0] at hq
   rw [show k - vs.length = 0 by omega] at hu
   cases hq; cases hu
   have hne : ∀ b, w.heap.size ≤ b → rv.ownBlock ≠ some b := fun b hb e => by have := (World.ownsRow.lt h1 b e).2; omega
   refine ⟨pa, pc, rfl, rd_stay hr (by omega) fun b o s e hn0 => (hst b (by have := (hpa b o s e).1; omega)).trans (hg.block b (hpa b o s e).2 fun e2 => hne b (hpa b o s e).1 (by first | exact e2 | exact e2.symm)), hpc, hpm, fun b o s e hn0 => ⟨.inr ⟨.inr ⟨(hpa b o s e).1, by have := (hpa b o s e).2; omega⟩, by have := (hpa b o s e).1; omega⟩, fun e6 => ?_⟩⟩
   rcases hat with hat | hat
   ·
    rw [hat] at e6; exact hne b (hpa b o s e).1 e6
   ·
    rw [hat] at e6; have := (hpa b o s e).2; cases e6; omega
 ·
  exact ((hb.mono hBw).grown hg (Nat.le_trans hBw hz) fun q hq => (World.ownsRow.lt h1 q hq).1).setCell (p := ⟨kb, 2, none⟩) h.bk _
 ·
  exact hk2 j (hrel.lt j hj).2 (fun e => hnv (h3 j e).1) fun e => hnv (by rw [e]; exact h.vk)
end Go.Proofs.YtihbgigledmliaaGreat

namespace Go.Proofs.YtihbgigledmliaaGreat
open Go.RowKit
set_option linter.unusedVariables false
theorem run_cell_v (W : World) (a : Addr) (v : Value) (hv : ∃ x n c, v = .slice x n c) (hc : W.cell? a = some v) : (Instr.loadAt 32 (.pointer (some a))).run Tryz.prog W = .ok v W := by
 obtain ⟨x, n, c, rfl⟩ := hv
 go_simp
theorem rd_lowJ {W W' : World} {B n : Nat} {a : Option Addr} {z : List Nat} (h : Rd W a n z) (hl : ∀ b o s, a = some ⟨b, o, s⟩ → n ≠ 0 → b < B) (hb : Below B W W') : Rd W' a n z := rd_stay h hb.size fun b o s e hn => hb.block b (hl b o s e hn)
theorem OwA.sl {X : Nat → Prop} {B jb : Nat} {w : World} {v : Value} {ps : List (List Nat)} (h : OwA X B jb w v ps) : ∃ x n c, v = .slice x n c := by
 obtain ⟨a, n, c, e, _⟩ := h.row
 exact ⟨a, n, c, e⟩
/-- what the document's Append leaves -/
def RapR (X V : Nat → Prop) (B d m kb N : Nat) (nm : ByteArray) (A1 : Ad) (ps : List (List Nat)) (p : List Nat) (w : World) (r : Ad × Int) (e : Ending) (w' : World) : Prop :=
 e = .returned (.int .i64 r.2) ∧ PushR X V B d m kb N nm A1 r.1 (if r.2 = 0 then ps ++ [p] else ps) w w'
set_option maxRecDepth 100000 in
set_option maxHeartbeats 8000000 in
theorem rapp_c {X V : Nat → Prop} {B d m kb N k0 : Nat} {nm : ByteArray} {A1 A : Ad} {rv : Value} {ps : List (List Nat)} {w : World} (h : Rel X B d m N A1 A w) (g : Gk k0 A) (hk0 : k0 ≤ 10000) (rk : Rk V B m kb nm rv ps w) (hVX : ∀ j, V j → X j) (hnm : nm.size ≤ 1000) (hps : ps.length ≤ 1000000) (pa : Option Addr) (pn pc : Nat) (p : List Nat) (hp : Rd w pa pn p) (hlow : ∀ b o s, pa = some ⟨b, o, s⟩ → pn ≠ 0 → b < B) (hnil : pa = none → pc = 0) (hpn : pn ≤ 1048568) :
  Calls Tryz.prog 12 #[.pointer (some ⟨kb, 0, none⟩), .slice pa pn pc] w (RapR X V B d m kb N nm A1 ps p w (A.step ⟨1, nm, ⟨#[]⟩, Frm.frameL p⟩)) := by
 have HD := Lib.hid h
 have HG := Lib.hid g
 have HK := Lib.hid hk0
 have HRK := Lib.hid rk
 have HVX := Lib.hid hVX
 have HPS := Lib.hid hps
 have HPL := Lib.hid hp.1
 have HPB := Lib.hid hp.2.1
 have HPN := Lib.hid hpn
 have HP := Lib.hid hp
 have HLO := Lib.hid hlow
 have HNIL := Lib.hid hnil
 have HNX := Lib.hid (show nm.size ≤ maxLen from by unfold maxLen; omega)
 have HBW := Lib.hid (show B ≤ w.heap.size from by have := h.base; omega)
 have hfit : ¬ (1048568 : Int) < (pn : Int) := by omega
 obtain ⟨r, hr⟩ : ∃ r, A.step ⟨1, nm, ⟨#[]⟩, Frm.frameL p⟩ = r := ⟨_, rfl⟩
 rw [hr]
 clear h g hk0 rk hVX hps hp hlow hnil hpn hnm
 go_enter Tryz.func12, Tryz.ntmps12
 go_upto_region 3 with fail
 obtain ⟨w0, hw0⟩ : ∃ W, W = World.drew w := ⟨_, rfl⟩
 have hb0 : Below w.heap.size w w0 := by rw [hw0]; exact below_drewN' _ w 1
 have HBD := Lib.hid hb0
 have HB0 := Lib.hid (show B ≤ w0.heap.size from Nat.le_trans HBW.out hb0.size)
 have HR0 := Lib.hid (HD.out.below hb0)
 have HRK0 := Lib.hid (HRK.out.below hb0)
 have HS := Lib.hid (show HasC [(⟨kb, 0, none⟩, .pointer (some ⟨m, 0, none⟩)), (⟨kb, 1, none⟩, .string nm)] w0 from by
  obtain ⟨q1, q2, q3⟩ := HRK0.out.cells
  intro q hq
  simp only [List.mem_cons, List.not_mem_nil, or_false] at hq
  rcases hq with rfl | rfl
  ·
   exact q1
  ·
   exact q2)
 have HSX := Lib.hid (show ∀ q ∈ ([(⟨kb, 0, none⟩, .pointer (some ⟨m, 0, none⟩)), (⟨kb, 1, none⟩, .string nm)] : List (Addr × Value)), q.1.block < w0.heap.size from by
  have := (Array.getElem?_eq_some_iff.1 HRK0.out.row).1
  intro q hq
  simp only [List.mem_cons, List.not_mem_nil, or_false] at hq
  rcases hq with rfl | rfl <;> exact this)
 have HK4 := Lib.hid (fun (w4 : World) (hk : KpX X w w4) => show HasC [(⟨kb, 0, none⟩, .pointer (some ⟨m, 0, none⟩)), (⟨kb, 1, none⟩, .string nm)] w4 from by
  have hrow := (hk kb (HVX.out kb HRK.out.vk)).trans HRK.out.row
  intro q hq
  simp only [List.mem_cons, List.not_mem_nil, or_false] at hq
  rcases hq with rfl | rfl
  ·
   exact (cell_of_row w4 kb 0 _ _ _ hrow).trans rfl
  ·
   exact (cell_of_row w4 kb 1 _ _ _ hrow).trans rfl)
 have HL1 := Lib.hid (fun W (hW : HasC [(⟨kb, 0, none⟩, .pointer (some ⟨m, 0, none⟩)), (⟨kb, 1, none⟩, .string nm)] W) => run_cell_rd W ⟨kb, 0, none⟩ _ (hW (⟨kb, 0, none⟩, .pointer (some ⟨m, 0, none⟩)) (by simp)))
 have HL2 := Lib.hid (fun W (hW : HasC [(⟨kb, 0, none⟩, .pointer (some ⟨m, 0, none⟩)), (⟨kb, 1, none⟩, .string nm)] W) => run_cell_s W ⟨kb, 1, none⟩ nm (hW (⟨kb, 1, none⟩, .string nm) (by simp)))
 have HFR := Lib.hid ((rframe_c pa pn pc p w0 (HP.out.below hb0) HNIL.out (by have := HPN.out; omega)).mono (RetB.form (Frm.frame_byte p HPB.out)))
 have HGS := Lib.hid (HG.out.step ⟨1, nm, ⟨#[]⟩, Frm.frameL p⟩)
 obtain ⟨A', x⟩ := r
 refine anyH_begin (S := HasC [(⟨kb, 0, none⟩, .pointer (some ⟨m, 0, none⟩)), (⟨kb, 1, none⟩, .string nm)]) (by kernel_rfl) ?_
 rw [← hw0]
 clear hw0 hb0
 refine aP 0 (d := 9) (op := .move (.tmp 0)) (.pointer (some ⟨kb, 0, none⟩)) HS.out ?_
 simp only [Act.put, sT, sZ, sS]
 refine aP 1 (d := 10) (op := .nilCheck (.tmp 9)) (.pointer (some ⟨kb, 0, none⟩)) HS.out ?_
 simp only [Act.put, sT, sZ, sS]
 refine aP 2 (d := 11) (op := .fieldAddr 53 (.tmp 10) 0) (.pointer (some ⟨kb, 0, none⟩)) HS.out ?_
 simp only [Act.put, sT, sZ, sS]
 refine aL 3 (d := 12) (ty := 29) (x := (.tmp 11)) (p := .pointer (some ⟨kb, 0, none⟩)) (.pointer (some ⟨m, 0, none⟩)) HL1.out HS.out ?_
 simp only [Act.put, sT, sZ, sS]
 refine aP 4 (d := 13) (op := .move (.tmp 0)) (.pointer (some ⟨kb, 0, none⟩)) HS.out ?_
 simp only [Act.put, sT, sZ, sS]
 refine aP 5 (d := 14) (op := .nilCheck (.tmp 13)) (.pointer (some ⟨kb, 0, none⟩)) HS.out ?_
 simp only [Act.put, sT, sZ, sS]
 refine aP 6 (d := 15) (op := .fieldAddr 53 (.tmp 14) 1) (.pointer (some ⟨kb, 1, none⟩)) HS.out ?_
 simp only [Act.put, sT, sZ, sS]
 refine aL 7 (d := 16) (ty := 9) (x := (.tmp 15)) (p := .pointer (some ⟨kb, 1, none⟩)) (.string nm) HL2.out HS.out ?_
 simp only [Act.put, sT, sZ, sS]
 refine aP 8 (d := 17) (op := .move (.tmp 1)) (.slice pa pn pc) HS.out ?_
 simp only [Act.put, sT, sZ, sS]
 refine anyH_callG 9 (d := some 18) (f := 45) (xs := #[(.tmp 17)]) (ts := #[38]) (gd := none) (vs := #[.slice pa pn pc]) (by kernel_rfl) (by rfl) wantedP (by go_simp) (by go_simp) (HFR.out) ?_
 rintro e3 w3 ⟨a3, L3, c3, rfl, hl3, hlc3, hcm3, hn3, hr3, ho3, hb3⟩
 have hL3 : L3 = 8 + pn := by rw [← hl3, Frm.frame_len, HPL.out]
 have HS3 := Lib.hid (HS.out.below hb3 HSX.out)
 have HREL3 := Lib.hid (HR0.out.with hb3 HB0.out (fun j => ∃ o s, a3 = some ⟨j, o, s⟩) fun j ⟨o, s, e⟩ => own_blk ho3 j o s e)
 have HST := Lib.hid (HREL3.out.ap (X := X) (fun j hj => .inl hj) HG.out.gs (by have := HG.out.len; have := HK.out; omega) (by have := HG.out.len; have := HK.out; omega) nm HNX.out a3 L3 c3 (Frm.frameL p) hr3 (fun b o s e _ => .inr ⟨.inr ⟨o, s, e⟩, fun hx => by have := (HR0.out.lt b hx).2; have := (own_blk ho3 b o s e).1; omega⟩) hn3 hlc3 (by have := HPN.out; omega))
 rw [hr] at HST
 have HB3 := Lib.hid hb3
 clear hl3 hlc3 hcm3 hn3 hr3 ho3 hb3 hL3 HREL3
 refine ⟨_, rfl, HS3.out, fun _ => ?_⟩
 simp only [Act.put, sT, sZ, sS]
 refine aP 10 (d := 19) (op := .build 94 #[(0, (.const (.int .i64 1))), (1, (.tmp 16)), (3, (.tmp 18))]) (.agg #[.int .i64 1, .string nm, .string ⟨#[]⟩, .slice a3 L3 c3]) HS3.out ?_
 simp only [Act.put, sT, sZ, sS]
 refine anyH_callG 11 (d := some 20) (f := 39) (xs := #[(.tmp 12), (.tmp 19)]) (ts := #[29, 94]) (gd := none) (vs := #[.pointer (some ⟨m, 0, none⟩), .agg #[.int .i64 1, .string nm, .string ⟨#[]⟩, .slice a3 L3 c3]]) (by kernel_rfl) (by rfl) wantedP (by go_simp) (by go_simp) (HST.out) ?_
 rintro e4 w4 ⟨rfl, g4, b4, k4⟩
 have HREL4 := Lib.hid (show Rel X B d m N A1 A' w4 from g4)
 have HKP4 := Lib.hid (show KpX X w w4 from fun j hj => ((k4 j (.inl hj)).trans (HB3.out.block j (HR0.out.lt j hj).2)).trans (HBD.out.block j (HD.out.lt j hj).2))
 have HB4 := Lib.hid (show Below B w w4 from (HBD.out.mono HBW.out).trans ((HB3.out.mono HB0.out).trans b4))
 have HS4 := Lib.hid (HK4.out w4 HKP4.out)
 clear g4 b4 k4 HST
 refine ⟨_, rfl, HS4.out, fun _ => ?_⟩
 simp only [Act.put, sT, sZ, sS]
 refine aP 12 (d := 5) (op := .assign (.tmp 20)) (.int .i64 x) HS4.out ?_
 simp only [Act.put, sT, sZ, sS]
 refine wpAnyH_done (by kernel_rfl) ?_ _
 clear HL1 HL2 HS HS3 HS4 HSX HK4 HFR HGS HRK0 HB3 HB0 HR0
 by_cases h0 : x = 0
 ·
  subst h0
  go_upto_region 5 with fail
  obtain ⟨w5, hw5⟩ : ∃ W, W = World.drew w4 := ⟨_, rfl⟩
  have hb5 : Below w4.heap.size w4 w5 := by rw [hw5]; exact below_drewN' _ w4 1
  have HRK4 := Lib.hid (HRK.out.stay HB4.out fun j hj => HKP4.out j (HVX.out j hj))
  have HRK5 := Lib.hid (HRK4.out.below hb5)
  have HREL5 := Lib.hid (HREL4.out.below hb5)
  have HB5 := Lib.hid (HB4.out.trans (hb5.mono (Nat.le_trans HBW.out HB4.out.size)))
  have HB50 := Lib.hid (Nat.le_trans HBW.out HB5.out.size)
  have HKP5 := Lib.hid (show KpX X w w5 from fun j hj => (hb5.block j (HREL4.out.lt j hj).2).trans (HKP4.out j hj))
  obtain ⟨vs, hvs⟩ := HRK5.out.own
  have HVS := Lib.hid (show OwB V B kb w5 rv vs ps from hvs)
  have HSL := Lib.hid (HRK5.out.own.sl)
  have HC2 := Lib.hid HRK5.out.cells.2.2
  have HKL := Lib.hid (Array.getElem?_eq_some_iff.1 HRK5.out.row).1
  have HBR5 := Lib.hid (Below.refl w5.heap.size w5)
  have HTW := Lib.hid (fun W (hW : Below w5.heap.size w5 W) => (twin_c pa pn pc p W (rd_lowJ HP.out HLO.out (HB5.out.trans (hW.mono HB50.out))) (by have := HPN.out; omega)).mono (RetB.form HPB.out))
  refine anyH_begin (S := fun _ => True) (by kernel_rfl) ?_
  rw [← hw5]
  clear hw5 hb5 hvs HRK4
  refine aP 0 (d := 23) (op := .move (.tmp 0)) (.pointer (some ⟨kb, 0, none⟩)) trivial ?_
  simp only [Act.put, sT, sZ, sS]
  refine aP 1 (d := 24) (op := .move (.tmp 0)) (.pointer (some ⟨kb, 0, none⟩)) trivial ?_
  simp only [Act.put, sT, sZ, sS]
  refine aP 2 (d := 25) (op := .nilCheck (.tmp 24)) (.pointer (some ⟨kb, 0, none⟩)) trivial ?_
  simp only [Act.put, sT, sZ, sS]
  refine aP 3 (d := 26) (op := .fieldAddr 53 (.tmp 25) 2) (.pointer (some ⟨kb, 2, none⟩)) trivial ?_
  simp only [Act.put, sT, sZ, sS]
  refine aP 5 (d := 28) (op := .move (.tmp 1)) (.slice pa pn pc) trivial ?_
  simp only [Act.put, sT, sZ, sS]
  refine anyH_twoJ 4 6 (d1 := some 27) (op1 := .load 32 (.tmp 26)) (d2 := some 29) (op2 := .call { callee := .value (.func 46), args := #[(.tmp 28)], argTypes := #[38] }) (by kernel_rfl) (by rfl) (by rfl) (fun o hod hoo => ?_) (fun o hod hoo => ?_)
  ·
   refine wp_load_g 32 (.tmp 26) hoo (.pointer (some ⟨kb, 2, none⟩)) rv (by rfl) (run_cell_v _ ⟨kb, 2, none⟩ rv HSL.out ((HBR5.out.cell (p := ⟨kb, 2, none⟩) HKL.out).trans HC2.out)) ?_
   refine ⟨trivial, ?_⟩
   rw [hod]
   simp only [Act.put, sT, sZ, sS]
   refine anyH_oneJ 6 (d1 := some 29) (op1 := .call { callee := .value (.func 46), args := #[(.tmp 28)], argTypes := #[38] }) (by kernel_rfl) (by rfl) (fun o hod hoo => ?_)
   refine wp_callJ hoo (by go_simp) (by go_simp) (HTW.out w5 HBR5.out) ?_
   rintro e20 w20 ⟨a20, L20, c20, rfl, hl20, hlc20, hcm20, hn20, hr20, ho20, hb20⟩
   obtain rfl := hl20
   have HB20 := Lib.hid (HBR5.out.trans (hb20.mono HBR5.out.size))
   have HR20 := Lib.hid hr20
   have HC20 := Lib.hid (And.intro hlc20 hcm20)
   have HA20 := Lib.hid (own_blk ho20)
   have HZ20 := Lib.hid (show w5.heap.size ≤ w20.heap.size from hb20.size)
   clear hlc20 hcm20 hn20 hr20 ho20 hb20
   refine ⟨_, rfl, ?_⟩
   refine ⟨trivial, ?_⟩
   rw [hod]
   simp only [Act.put, sT, sZ, sS]
   refine anyH_oneJ 7 (d1 := some 30) (op1 := .buildSlice 32 1 #[(0, (.tmp 29))]) (by kernel_rfl) (by rfl) (fun o hod hoo => ?_)
   refine wp_layVJ (.tmp 29) hoo a20 p.length c20 (by rfl) ?_
   obtain ⟨w30, hw30⟩ : ∃ W, W = w20.alloc (.cells #[.slice a20 p.length c20] 38) := ⟨_, rfl⟩
   have HG30 := Lib.hid (show w30.heap[w20.heap.size]? = some (.cells #[.slice a20 p.length c20] 38 (0, 0)) from by rw [hw30]; exact heap_new _ _)
   have hb30 : Below w20.heap.size w20 w30 := by rw [hw30]; exact (Below.refl _ _).alloc (Nat.le_refl _) _
   have HB30 := Lib.hid (HB20.out.trans (hb30.mono HB20.out.size))
   have HQ30 := Lib.hid hb30
   clear hb30
   rw [← hw30]
   clear hw30
   refine ⟨trivial, ?_⟩
   rw [hod]
   simp only [Act.put, sT, sZ, sS]
   refine anyH_oneJ 8 (d1 := some 31) (op1 := .call { callee := .builtin .append, args := #[(.tmp 27), (.tmp 30)], argTypes := #[32, 32] }) (by kernel_rfl) (by rfl) (fun o hod hoo => ?_)
   refine wp_pushVJ (.tmp 27) (.tmp 30) hoo B rv vs (.slice a20 p.length c20) rfl (by rfl) (HVS.out.1.keep HB30.out) (Nat.le_trans HB50.out HB30.out.size) w20.heap.size (by rfl) HG30.out (by have := HVS.out.2.1; have := HPS.out; omega) ?_
   intro vz40 w40 hoz hgz hat
   obtain ⟨zx40, zn40, zc40, hvz, -⟩ := hoz.form
   subst hvz
   have HPU40 := Lib.hid (Rk.push HREL5.out HRK5.out HVX.out HVS.out HB30.out HB50.out (HR20.out.below HQ30.out) HC20.out.1 HC20.out.2 (fun b o s e => ⟨Nat.le_trans HBR5.out.size (HA20.out b o s e).1, Nat.lt_of_lt_of_le (HA20.out b o s e).2 HQ30.out.size⟩) hoz hgz hat)
   have HRW40 := Lib.hid (show w40.heap[kb]? = some (.cells #[.pointer (some ⟨m, 0, none⟩), .string nm, rv] 53 (0, 0)) from (hgz.block kb (Nat.lt_of_lt_of_le HKL.out HB30.out.size) fun e => (HVS.out.2.2.1 kb (by first | exact e | exact e.symm)).2 rfl).trans ((HB30.out.block kb HKL.out).trans HRK5.out.row))
   have HBZ40 := Lib.hid (show Below B w5 w40 from (HB30.out.mono HB50.out).grown hgz (Nat.le_trans HB50.out HB30.out.size) fun q hq => (World.ownsRow.lt HVS.out.1 q hq).1)
   clear hoz hgz hat
   refine ⟨trivial, ?_⟩
   rw [hod]
   simp only [Act.put, sT, sZ, sS]
   refine aP 9 (d := 32) (op := .nilCheck (.tmp 23)) (.pointer (some ⟨kb, 0, none⟩)) (trivial) ?_
   simp only [Act.put, sT, sZ, sS]
   refine aP 10 (d := 33) (op := .fieldAddr 53 (.tmp 32) 2) (.pointer (some ⟨kb, 2, none⟩)) (trivial) ?_
   simp only [Act.put, sT, sZ, sS]
   refine anyH_oneJ 11 (d1 := none) (op1 := .store 32 (.tmp 33) (.tmp 31)) (by kernel_rfl) (by rfl) (fun o hod hoo => ?_)
   refine wp_store_one 32 (.tmp 33) (.tmp 31) hoo kb 2 (.slice zx40 zn40 zc40) (by rfl) (by rfl) (row_there HRW40.out (by simp)) (by kernel_rfl) (by rfl) (by rfl) ?_
   have HPU := HPU40
   have HBW5 := Lib.hid (show Below B w5 (w40.setCell ⟨kb, 2, none⟩ (.slice zx40 zn40 zc40)) from HBZ40.out.setCell (p := ⟨kb, 2, none⟩) HRK5.out.bk _)
   obtain ⟨wf, hwf⟩ : ∃ W, W = w40.setCells kb 2 [(.slice zx40 zn40 zc40)] := ⟨_, rfl⟩
   have HPF := Lib.hid (show PushR X V B d m kb N nm A1 A' (ps ++ [p]) w5 wf from by rw [hwf]; exact HPU.out)
   have HBF := Lib.hid (show Below B w5 wf from by rw [hwf]; exact HBW5.out)
   rw [← hwf]
   clear hwf
   refine ⟨trivial, ?_⟩
   rw [hod]
   simp only [Act.put, sT, sZ, sS]
   refine wpAnyH_done (by kernel_rfl) ?_ _
   have HE := Lib.hid (show RapR X V B d m kb N nm A1 ps p w (A', 0) (.returned (.int .i64 0)) wf from by
    refine ⟨rfl, ?_⟩
    rw [if_pos rfl]
    exact PushR.trans (fun _ hj => hj) (fun _ hj => hj) (fun _ hj => .inl hj) HB5.out (fun j hj => (HD.out.lt j hj).2) (fun j hj _ => HKP5.out j hj) HPF.out)
   go_wp2_with fail
   go_ret
   exact HE.out
  ·
   refine wp_callJ hoo (by go_simp) (by go_simp) (HTW.out w5 HBR5.out) ?_
   rintro e60 w60 ⟨a60, L60, c60, rfl, hl60, hlc60, hcm60, hn60, hr60, ho60, hb60⟩
   obtain rfl := hl60
   have HB60 := Lib.hid (HBR5.out.trans (hb60.mono HBR5.out.size))
   have HR60 := Lib.hid hr60
   have HC60 := Lib.hid (And.intro hlc60 hcm60)
   have HA60 := Lib.hid (own_blk ho60)
   have HZ60 := Lib.hid (show w5.heap.size ≤ w60.heap.size from hb60.size)
   clear hlc60 hcm60 hn60 hr60 ho60 hb60
   refine ⟨_, rfl, ?_⟩
   refine ⟨trivial, ?_⟩
   rw [hod]
   simp only [Act.put, sT, sZ, sS]
   refine anyH_twoJ 4 7 (d1 := some 27) (op1 := .load 32 (.tmp 26)) (d2 := some 30) (op2 := .buildSlice 32 1 #[(0, (.tmp 29))]) (by kernel_rfl) (by rfl) (by rfl) (fun o hod hoo => ?_) (fun o hod hoo => ?_)
   ·
    refine wp_load_g 32 (.tmp 26) hoo (.pointer (some ⟨kb, 2, none⟩)) rv (by rfl) (run_cell_v _ ⟨kb, 2, none⟩ rv HSL.out ((HB60.out.cell (p := ⟨kb, 2, none⟩) HKL.out).trans HC2.out)) ?_
    refine ⟨trivial, ?_⟩
    rw [hod]
    simp only [Act.put, sT, sZ, sS]
    refine anyH_oneJ 7 (d1 := some 30) (op1 := .buildSlice 32 1 #[(0, (.tmp 29))]) (by kernel_rfl) (by rfl) (fun o hod hoo => ?_)
    refine wp_layVJ (.tmp 29) hoo a60 p.length c60 (by rfl) ?_
    obtain ⟨w80, hw80⟩ : ∃ W, W = w60.alloc (.cells #[.slice a60 p.length c60] 38) := ⟨_, rfl⟩
    have HG80 := Lib.hid (show w80.heap[w60.heap.size]? = some (.cells #[.slice a60 p.length c60] 38 (0, 0)) from by rw [hw80]; exact heap_new _ _)
    have hb80 : Below w60.heap.size w60 w80 := by rw [hw80]; exact (Below.refl _ _).alloc (Nat.le_refl _) _
    have HB80 := Lib.hid (HB60.out.trans (hb80.mono HB60.out.size))
    have HQ80 := Lib.hid hb80
    clear hb80
    rw [← hw80]
    clear hw80
    refine ⟨trivial, ?_⟩
    rw [hod]
    simp only [Act.put, sT, sZ, sS]
    refine anyH_oneJ 8 (d1 := some 31) (op1 := .call { callee := .builtin .append, args := #[(.tmp 27), (.tmp 30)], argTypes := #[32, 32] }) (by kernel_rfl) (by rfl) (fun o hod hoo => ?_)
    refine wp_pushVJ (.tmp 27) (.tmp 30) hoo B rv vs (.slice a60 p.length c60) rfl (by rfl) (HVS.out.1.keep HB80.out) (Nat.le_trans HB50.out HB80.out.size) w60.heap.size (by rfl) HG80.out (by have := HVS.out.2.1; have := HPS.out; omega) ?_
    intro vz90 w90 hoz hgz hat
    obtain ⟨zx90, zn90, zc90, hvz, -⟩ := hoz.form
    subst hvz
    have HPU90 := Lib.hid (Rk.push HREL5.out HRK5.out HVX.out HVS.out HB80.out HB50.out (HR60.out.below HQ80.out) HC60.out.1 HC60.out.2 (fun b o s e => ⟨Nat.le_trans HBR5.out.size (HA60.out b o s e).1, Nat.lt_of_lt_of_le (HA60.out b o s e).2 HQ80.out.size⟩) hoz hgz hat)
    have HRW90 := Lib.hid (show w90.heap[kb]? = some (.cells #[.pointer (some ⟨m, 0, none⟩), .string nm, rv] 53 (0, 0)) from (hgz.block kb (Nat.lt_of_lt_of_le HKL.out HB80.out.size) fun e => (HVS.out.2.2.1 kb (by first | exact e | exact e.symm)).2 rfl).trans ((HB80.out.block kb HKL.out).trans HRK5.out.row))
    have HBZ90 := Lib.hid (show Below B w5 w90 from (HB80.out.mono HB50.out).grown hgz (Nat.le_trans HB50.out HB80.out.size) fun q hq => (World.ownsRow.lt HVS.out.1 q hq).1)
    clear hoz hgz hat
    refine ⟨trivial, ?_⟩
    rw [hod]
    simp only [Act.put, sT, sZ, sS]
    refine aP 9 (d := 32) (op := .nilCheck (.tmp 23)) (.pointer (some ⟨kb, 0, none⟩)) (trivial) ?_
    simp only [Act.put, sT, sZ, sS]
    refine aP 10 (d := 33) (op := .fieldAddr 53 (.tmp 32) 2) (.pointer (some ⟨kb, 2, none⟩)) (trivial) ?_
    simp only [Act.put, sT, sZ, sS]
    refine anyH_oneJ 11 (d1 := none) (op1 := .store 32 (.tmp 33) (.tmp 31)) (by kernel_rfl) (by rfl) (fun o hod hoo => ?_)
    refine wp_store_one 32 (.tmp 33) (.tmp 31) hoo kb 2 (.slice zx90 zn90 zc90) (by rfl) (by rfl) (row_there HRW90.out (by simp)) (by kernel_rfl) (by rfl) (by rfl) ?_
    have HPU := HPU90
    have HBW5 := Lib.hid (show Below B w5 (w90.setCell ⟨kb, 2, none⟩ (.slice zx90 zn90 zc90)) from HBZ90.out.setCell (p := ⟨kb, 2, none⟩) HRK5.out.bk _)
    obtain ⟨wf, hwf⟩ : ∃ W, W = w90.setCells kb 2 [(.slice zx90 zn90 zc90)] := ⟨_, rfl⟩
    have HPF := Lib.hid (show PushR X V B d m kb N nm A1 A' (ps ++ [p]) w5 wf from by rw [hwf]; exact HPU.out)
    have HBF := Lib.hid (show Below B w5 wf from by rw [hwf]; exact HBW5.out)
    rw [← hwf]
    clear hwf
    refine ⟨trivial, ?_⟩
    rw [hod]
    simp only [Act.put, sT, sZ, sS]
    refine wpAnyH_done (by kernel_rfl) ?_ _
    have HE := Lib.hid (show RapR X V B d m kb N nm A1 ps p w (A', 0) (.returned (.int .i64 0)) wf from by
     refine ⟨rfl, ?_⟩
     rw [if_pos rfl]
     exact PushR.trans (fun _ hj => hj) (fun _ hj => hj) (fun _ hj => .inl hj) HB5.out (fun j hj => (HD.out.lt j hj).2) (fun j hj _ => HKP5.out j hj) HPF.out)
    go_wp2_with fail
    go_ret
    exact HE.out
   ·
    refine wp_layVJ (.tmp 29) hoo a60 p.length c60 (by rfl) ?_
    obtain ⟨w110, hw110⟩ : ∃ W, W = w60.alloc (.cells #[.slice a60 p.length c60] 38) := ⟨_, rfl⟩
    have HG110 := Lib.hid (show w110.heap[w60.heap.size]? = some (.cells #[.slice a60 p.length c60] 38 (0, 0)) from by rw [hw110]; exact heap_new _ _)
    have hb110 : Below w60.heap.size w60 w110 := by rw [hw110]; exact (Below.refl _ _).alloc (Nat.le_refl _) _
    have HB110 := Lib.hid (HB60.out.trans (hb110.mono HB60.out.size))
    have HQ110 := Lib.hid hb110
    clear hb110
    rw [← hw110]
    clear hw110
    refine ⟨trivial, ?_⟩
    rw [hod]
    simp only [Act.put, sT, sZ, sS]
    refine anyH_oneJ 4 (d1 := some 27) (op1 := .load 32 (.tmp 26)) (by kernel_rfl) (by rfl) (fun o hod hoo => ?_)
    refine wp_load_g 32 (.tmp 26) hoo (.pointer (some ⟨kb, 2, none⟩)) rv (by rfl) (run_cell_v _ ⟨kb, 2, none⟩ rv HSL.out ((HB110.out.cell (p := ⟨kb, 2, none⟩) HKL.out).trans HC2.out)) ?_
    refine ⟨trivial, ?_⟩
    rw [hod]
    simp only [Act.put, sT, sZ, sS]
    refine anyH_oneJ 8 (d1 := some 31) (op1 := .call { callee := .builtin .append, args := #[(.tmp 27), (.tmp 30)], argTypes := #[32, 32] }) (by kernel_rfl) (by rfl) (fun o hod hoo => ?_)
    refine wp_pushVJ (.tmp 27) (.tmp 30) hoo B rv vs (.slice a60 p.length c60) rfl (by rfl) (HVS.out.1.keep HB110.out) (Nat.le_trans HB50.out HB110.out.size) w60.heap.size (by rfl) HG110.out (by have := HVS.out.2.1; have := HPS.out; omega) ?_
    intro vz130 w130 hoz hgz hat
    obtain ⟨zx130, zn130, zc130, hvz, -⟩ := hoz.form
    subst hvz
    have HPU130 := Lib.hid (Rk.push HREL5.out HRK5.out HVX.out HVS.out HB110.out HB50.out (HR60.out.below HQ110.out) HC60.out.1 HC60.out.2 (fun b o s e => ⟨Nat.le_trans HBR5.out.size (HA60.out b o s e).1, Nat.lt_of_lt_of_le (HA60.out b o s e).2 HQ110.out.size⟩) hoz hgz hat)
    have HRW130 := Lib.hid (show w130.heap[kb]? = some (.cells #[.pointer (some ⟨m, 0, none⟩), .string nm, rv] 53 (0, 0)) from (hgz.block kb (Nat.lt_of_lt_of_le HKL.out HB110.out.size) fun e => (HVS.out.2.2.1 kb (by first | exact e | exact e.symm)).2 rfl).trans ((HB110.out.block kb HKL.out).trans HRK5.out.row))
    have HBZ130 := Lib.hid (show Below B w5 w130 from (HB110.out.mono HB50.out).grown hgz (Nat.le_trans HB50.out HB110.out.size) fun q hq => (World.ownsRow.lt HVS.out.1 q hq).1)
    clear hoz hgz hat
    refine ⟨trivial, ?_⟩
    rw [hod]
    simp only [Act.put, sT, sZ, sS]
    refine aP 9 (d := 32) (op := .nilCheck (.tmp 23)) (.pointer (some ⟨kb, 0, none⟩)) (trivial) ?_
    simp only [Act.put, sT, sZ, sS]
    refine aP 10 (d := 33) (op := .fieldAddr 53 (.tmp 32) 2) (.pointer (some ⟨kb, 2, none⟩)) (trivial) ?_
    simp only [Act.put, sT, sZ, sS]
    refine anyH_oneJ 11 (d1 := none) (op1 := .store 32 (.tmp 33) (.tmp 31)) (by kernel_rfl) (by rfl) (fun o hod hoo => ?_)
    refine wp_store_one 32 (.tmp 33) (.tmp 31) hoo kb 2 (.slice zx130 zn130 zc130) (by rfl) (by rfl) (row_there HRW130.out (by simp)) (by kernel_rfl) (by rfl) (by rfl) ?_
    have HPU := HPU130
    have HBW5 := Lib.hid (show Below B w5 (w130.setCell ⟨kb, 2, none⟩ (.slice zx130 zn130 zc130)) from HBZ130.out.setCell (p := ⟨kb, 2, none⟩) HRK5.out.bk _)
    obtain ⟨wf, hwf⟩ : ∃ W, W = w130.setCells kb 2 [(.slice zx130 zn130 zc130)] := ⟨_, rfl⟩
    have HPF := Lib.hid (show PushR X V B d m kb N nm A1 A' (ps ++ [p]) w5 wf from by rw [hwf]; exact HPU.out)
    have HBF := Lib.hid (show Below B w5 wf from by rw [hwf]; exact HBW5.out)
    rw [← hwf]
    clear hwf
    refine ⟨trivial, ?_⟩
    rw [hod]
    simp only [Act.put, sT, sZ, sS]
    refine wpAnyH_done (by kernel_rfl) ?_ _
    have HE := Lib.hid (show RapR X V B d m kb N nm A1 ps p w (A', 0) (.returned (.int .i64 0)) wf from by
     refine ⟨rfl, ?_⟩
     rw [if_pos rfl]
     exact PushR.trans (fun _ hj => hj) (fun _ hj => hj) (fun _ hj => .inl hj) HB5.out (fun j hj => (HD.out.lt j hj).2) (fun j hj _ => HKP5.out j hj) HPF.out)
    go_wp2_with fail
    go_ret
    exact HE.out
 ·
  have hx0 : (x == 0) = false := by simp [h0]
  have HE := Lib.hid (show RapR X V B d m kb N nm A1 ps p w (A', x) (.returned (.int .i64 x)) w4 from by
   rw [RapR, if_neg h0]
   exact ⟨rfl, X, V, rv, HREL4.out, HRK.out.stay HB4.out fun j hj => HKP4.out j (HVX.out j hj), fun _ hj => hj, fun _ hj => hj, HVX.out, fun _ hj => .inl hj, HB4.out, fun j hj _ => HKP4.out j hj⟩)
  go_wp2_with fail
  go_ret
  exact HE.out
end Go.Proofs.YtihbgigledmliaaGreat

namespace Go.Proofs.YtihbgigledmliaaGreat
open Go.RowKit
set_option linter.unusedVariables false
theorem exec_bidxJ {b off len cap i : Nat} (hi : i < len) {A : Act} {x y : Operand} (hx : A.eval x = .slice (some ⟨b, off, none⟩) len cap) (hy : A.eval y = .int .i64 (i : Int)) (op : Oper) (ho : op.op = .indexAddr 32 x y) (W : World) :
  (execOp A.eval op).run Tryz.prog W = .ok (.value (.pointer (some ⟨b, off + i, none⟩))) W := by
 unfold execOp
 simp only [ho, hx, hy]
 rw [Sem.run_bind, run_bidx W b off len cap i hi]
 rfl
theorem Rk.frozen {V : Nat → Prop} {B m kb : Nat} {nm : ByteArray} {rv : Value} {ps : List (List Nat)} {w : World} (h : Rk V B m kb nm rv ps w) : w.frozen? ⟨kb, 2, none⟩ = false := frozen_of_row w kb 2 _ _ h.row
theorem Rk.clear {X V : Nat → Prop} {B d m kb N : Nat} {nm : ByteArray} {A1 A2 : Ad} {w : World} {rv : Value} {ps : List (List Nat)} (hrel : Rel X B d m N A1 A2 w) (h : Rk V B m kb nm rv ps w) (hVX : ∀ j, V j → X j) :
  PushR X V B d m kb N nm A1 A2 [] w (w.setCell ⟨kb, 2, none⟩ (.slice none 0 0)) := by
 have hkl : kb < w.heap.size := (Array.getElem?_eq_some_iff.1 h.row).1
 have hs : (w.setCell ⟨kb, 2, none⟩ (.slice none 0 0)).heap.size = w.heap.size := by simp [World.setCell]
 have hst : ∀ j, j ≠ kb → (w.setCell ⟨kb, 2, none⟩ (.slice none 0 0)).heap[j]? = w.heap[j]? := fun j hj => Below.heap_setCell w ⟨kb, 2, none⟩ _ j hj
 refine ⟨X, V, .slice none 0 0, hrel.more ⟨by omega, fun k _ b => hst k fun e => b (by rw [e]; exact hVX kb h.vk)⟩ (fun j hj => .inl hj) (fun j hj => ⟨(hrel.lt j hj).1, by rw [hs]; exact (hrel.lt j hj).2⟩), ⟨h.vk, h.bk, by rw [setCell_rowJ h.row 2]; rfl, OwA.nil _ _ _ _⟩, fun _ hj => hj, fun _ hj => hj, hVX, fun _ hj => .inl hj, (Below.refl _ _).setCell (p := ⟨kb, 2, none⟩) h.bk _, fun j _ hn => hst j fun e => hn (by rw [e]; exact h.vk)⟩
/-- what the document's Rewrite leaves -/
def RrwR (X V : Nat → Prop) (B d m kb N : Nat) (nm : ByteArray) (A1 : Ad) (qs ps : List (List Nat)) (w : World) (r : Ad × Int) (e : Ending) (w' : World) : Prop :=
 e = .returned (.int .i64 r.2) ∧ PushR X V B d m kb N nm A1 r.1 (if r.2 = 0 then ps else qs) w w'
set_option maxRecDepth 100000 in
set_option maxHeartbeats 8000000 in
theorem rrw_c {X V : Nat → Prop} {B d m kb N k0 : Nat} {nm : ByteArray} {A1 A : Ad} {rv : Value} {qs : List (List Nat)} {w : World} (h : Rel X B d m N A1 A w) (g : Gk k0 A) (hk0 : k0 ≤ 10000) (rk : Rk V B m kb nm rv qs w) (hVX : ∀ j, V j → X j) (hnm : nm.size ≤ 1000) (ra : Option Addr) (rn rc : Nat) (ps : List (List Nat)) (hr : Rcd (fun _ => False) B w ra rn ps) (hrn : rn ≤ 1000000) (hfl : (Frm.flatF ps).length < 1048568) (hpb : ∀ p ∈ ps, ∀ z ∈ p, z < 256) :
  Calls Tryz.prog 16 #[.pointer (some ⟨kb, 0, none⟩), .slice ra rn rc] w (RrwR X V B d m kb N nm A1 qs ps w (A.rw nm (spJ nm) (Frm.flatF ps))) := by
 have HD := Lib.hid h
 have HG := Lib.hid g
 have HK := Lib.hid hk0
 have HRK := Lib.hid rk
 have HVX := Lib.hid hVX
 have HR := Lib.hid hr
 have HPB := Lib.hid hpb
 have HRN := Lib.hid hrn
 have HNM := Lib.hid hnm
 have HFL := Lib.hid hfl
 have HBW := Lib.hid (show B ≤ w.heap.size from by have := h.base; omega)
 have HLN := Lib.hid (show ∀ p ∈ ps, p.length ≤ 1048568 from fun p hp => by
  obtain ⟨k, hk⟩ := List.getElem?_of_mem hp
  have h1 := flat_take_le ps (k + 1)
  rw [Frm.flat_snoc ps k p hk, List.length_append, Frm.frame_len] at h1
  omega)
 obtain ⟨r, hrr⟩ : ∃ r, A.rw nm (spJ nm) (Frm.flatF ps) = r := ⟨_, rfl⟩
 have HST0 := Lib.hid (fun (W : World) (hb : Below w.heap.size w W) => rlay_c (h.below hb) g hk0 nm hnm ra rn rc ps (hr.below hb) hrn (by omega) hpb)
 rw [hrr] at HST0 ⊢
 clear h g hk0 rk hVX hr hpb hnm hfl hrr
 go_enter Tryz.func16, Tryz.ntmps16
 go_wp2_with fail
 go_loopw [5] (fun i wr => ∃ k : Nat, k ≤ rn ∧ i = .int .i64 k ∧ Hid (w = wr)) (fun i _ => rn - (intOf i).toNat)
 case atStart => exact ⟨0, Nat.zero_le _, rfl, Lib.hid rfl⟩
 case round =>
  obtain ⟨k1, hk1, rfl, HW⟩ := hrel
  have hW := HW.out
  subst hW
  by_cases hkn1 : k1 < rn
  ·
   obtain ⟨p, hp⟩ : ∃ p, ps[k1]? = some p := ⟨_, List.getElem?_eq_getElem (by rw [HR.out.ln]; exact hkn1)⟩
   obtain ⟨b, o, pa, pc, rfl, hb1, hb2, hc, hrd, _, hnil, hpc, hpm⟩ := HR.out.rc k1 p hp
   have hpl := HLN.out p (List.mem_of_getElem? hp)
   have kI := fun W => run_bidx W b o rn rc k1 hkn1
   obtain ⟨pn, hpn⟩ : ∃ pn, pn = p.length := ⟨_, rfl⟩
   rw [← hpn] at hc hpl
   have hpl2 : ¬ (1048568 : Int) < (pn : Int) := by omega
   clear hp hb1 hb2 hrd hnil hpc hpm hpn
   go_wp2_with fail
   go_roundw
   case rel => exact ⟨k1 + 1, by omega, by go_num, (by first | exact HW | exact Lib.hid trivial)⟩
   case measure => simp [intOf]; omega
  ·
   obtain ⟨A', x⟩ := r
   go_upto_region 6 with fail
   obtain ⟨w0, hw0⟩ : ∃ W, W = World.drew w := ⟨_, rfl⟩
   have hb0 : Below w.heap.size w w0 := by rw [hw0]; exact below_drewN' _ w 1
   have HBD := Lib.hid hb0
   have HRK0 := Lib.hid (HRK.out.below hb0)
   have HS := Lib.hid (show HasC [(⟨kb, 0, none⟩, .pointer (some ⟨m, 0, none⟩)), (⟨kb, 1, none⟩, .string nm)] w0 from by
    obtain ⟨q1, q2, q3⟩ := HRK0.out.cells
    intro q hq
    simp only [List.mem_cons, List.not_mem_nil, or_false] at hq
    rcases hq with rfl | rfl
    ·
     exact q1
    ·
     exact q2)
   have HK4 := Lib.hid (fun (w4 : World) (hk : KpX X w w4) => show HasC [(⟨kb, 0, none⟩, .pointer (some ⟨m, 0, none⟩)), (⟨kb, 1, none⟩, .string nm)] w4 from by
    have hrow := (hk kb (HVX.out kb HRK.out.vk)).trans HRK.out.row
    intro q hq
    simp only [List.mem_cons, List.not_mem_nil, or_false] at hq
    rcases hq with rfl | rfl
    ·
     exact (cell_of_row w4 kb 0 _ _ _ hrow).trans rfl
    ·
     exact (cell_of_row w4 kb 1 _ _ _ hrow).trans rfl)
   have HL1 := Lib.hid (fun W (hW : HasC [(⟨kb, 0, none⟩, .pointer (some ⟨m, 0, none⟩)), (⟨kb, 1, none⟩, .string nm)] W) => run_cell_rd W ⟨kb, 0, none⟩ _ (hW (⟨kb, 0, none⟩, .pointer (some ⟨m, 0, none⟩)) (by simp)))
   have HL2 := Lib.hid (fun W (hW : HasC [(⟨kb, 0, none⟩, .pointer (some ⟨m, 0, none⟩)), (⟨kb, 1, none⟩, .string nm)] W) => run_cell_s W ⟨kb, 1, none⟩ nm (hW (⟨kb, 1, none⟩, .string nm) (by simp)))
   have HST := Lib.hid (HST0.out w0 hb0)
   refine anyH_begin (S := HasC [(⟨kb, 0, none⟩, .pointer (some ⟨m, 0, none⟩)), (⟨kb, 1, none⟩, .string nm)]) (by kernel_rfl) ?_
   rw [← hw0]
   clear hw0 hb0 HST0
   refine aP 0 (d := 20) (op := .move (.tmp 0)) (.pointer (some ⟨kb, 0, none⟩)) HS.out ?_
   simp only [Act.put, sT, sZ, sS]
   refine aP 1 (d := 21) (op := .nilCheck (.tmp 20)) (.pointer (some ⟨kb, 0, none⟩)) HS.out ?_
   simp only [Act.put, sT, sZ, sS]
   refine aP 2 (d := 22) (op := .fieldAddr 53 (.tmp 21) 0) (.pointer (some ⟨kb, 0, none⟩)) HS.out ?_
   simp only [Act.put, sT, sZ, sS]
   refine aL 3 (d := 23) (ty := 29) (x := (.tmp 22)) (p := .pointer (some ⟨kb, 0, none⟩)) (.pointer (some ⟨m, 0, none⟩)) HL1.out HS.out ?_
   simp only [Act.put, sT, sZ, sS]
   refine aP 4 (d := 24) (op := .move (.tmp 0)) (.pointer (some ⟨kb, 0, none⟩)) HS.out ?_
   simp only [Act.put, sT, sZ, sS]
   refine aP 5 (d := 25) (op := .nilCheck (.tmp 24)) (.pointer (some ⟨kb, 0, none⟩)) HS.out ?_
   simp only [Act.put, sT, sZ, sS]
   refine aP 6 (d := 26) (op := .fieldAddr 53 (.tmp 25) 1) (.pointer (some ⟨kb, 1, none⟩)) HS.out ?_
   simp only [Act.put, sT, sZ, sS]
   refine aL 7 (d := 27) (ty := 9) (x := (.tmp 26)) (p := .pointer (some ⟨kb, 1, none⟩)) (.string nm) HL2.out HS.out ?_
   simp only [Act.put, sT, sZ, sS]
   refine aP 8 (d := 28) (op := .move (.tmp 1)) (.slice ra rn rc) HS.out ?_
   simp only [Act.put, sT, sZ, sS]
   refine anyH_callG 9 (d := some 29) (f := 41) (xs := #[(.tmp 23), (.tmp 27), (.tmp 28)]) (ts := #[29, 9, 32]) (gd := none) (vs := #[.pointer (some ⟨m, 0, none⟩), .string nm, .slice ra rn rc]) (by kernel_rfl) (by rfl) wantedP (by go_simp) (by go_simp) (HST.out) ?_
   rintro e4 w4 ⟨rfl, g4, b4, k4⟩
   have HREL4 := Lib.hid (show Rel X B d m N A1 A' w4 from g4)
   have HKP4 := Lib.hid (show KpX X w w4 from fun j hj => (k4 j hj).trans (HBD.out.block j (HD.out.lt j hj).2))
   have HB4 := Lib.hid (show Below B w w4 from (HBD.out.mono HBW.out).trans b4)
   have HS4 := Lib.hid (HK4.out w4 HKP4.out)
   clear g4 b4 k4 HST
   refine ⟨_, rfl, HS4.out, fun _ => ?_⟩
   simp only [Act.put, sT, sZ, sS]
   refine aP 10 (d := 6) (op := .assign (.tmp 29)) (.int .i64 x) HS4.out ?_
   simp only [Act.put, sT, sZ, sS]
   refine wpAnyH_done (by kernel_rfl) ?_ _
   clear HL1 HL2 HS HS4 HK4 HRK0
   by_cases h0 : x = 0
   ·
    subst h0
    have HRK4 := Lib.hid (HRK.out.stay HB4.out fun j hj => HKP4.out j (HVX.out j hj))
    have HCL := Lib.hid (Rk.clear HREL4.out HRK4.out HVX.out)
    have HP0 := Lib.hid (show PushR X V B d m kb N nm A1 A' (ps.take 0) w (w4.setCell ⟨kb, 2, none⟩ (.slice none 0 0)) from by
     rw [List.take_zero]
     exact PushR.trans (fun _ hj => hj) (fun _ hj => hj) (fun _ hj => .inl hj) HB4.out (fun j hj => (HD.out.lt j hj).2) (fun j hj _ => HKP4.out j hj) HCL.out)
    obtain ⟨q0, q1, q2⟩ := HRK4.out.cells
    have q3 := HRK4.out.frozen
    obtain ⟨rx, rxn, rxc, hrv⟩ := HRK4.out.own.sl
    rw [hrv] at q2
    go_wp2_with fail
    clear q0 q1 q2 q3 hrv
    go_loopw [7] (fun i wr => ∃ k : Nat, k ≤ rn ∧ i = .int .i64 k ∧ Hid (PushR X V B d m kb N nm A1 A' (ps.take k) w wr)) (fun i _ => rn - (intOf i).toNat)
    case atStart => exact ⟨0, Nat.zero_le _, rfl, HP0⟩
    case round =>
     clear HP0
     obtain ⟨k, hk, rfl, HP⟩ := hrel
     by_cases hkn : k < rn
     ·
      obtain ⟨p, hp⟩ : ∃ p, ps[k]? = some p := ⟨_, List.getElem?_eq_getElem (by rw [HR.out.ln]; exact hkn)⟩
      have HTK := Lib.hid (show ps.take (k + 1) = ps.take k ++ [p] from by rw [List.take_add_one, hp]; rfl)
      obtain ⟨b, o, pa, pc, rfl, hb1, hb2, hc, hrd, hlo, hnil, hpc, hpm⟩ := HR.out.rc k p hp
      have HLN1 := Lib.hid (HLN.out p (List.mem_of_getElem? hp))
      have HPB1 := Lib.hid (HPB.out p (List.mem_of_getElem? hp))
      have hbB : b < B := hb1.resolve_right fun e => e
      obtain ⟨X5, V5, rv5, h1, h2, h3, h4, h5, h6, h7, h8⟩ := HP.out
      obtain ⟨rv, hrv5⟩ : ∃ rv, rv = rv5 := ⟨_, rfl⟩
      subst hrv5
      obtain ⟨w5, hw5⟩ : ∃ W, W = World.drew wr := ⟨_, rfl⟩
      have hb5 : Below wr.heap.size wr w5 := by rw [hw5]; exact below_drewN' _ wr 1
      have HREL5 := Lib.hid (h1.below hb5)
      have HRK5 := Lib.hid (h2.below hb5)
      have HX5 := Lib.hid h3
      have HV5 := Lib.hid h4
      have HVX5 := Lib.hid h5
      have HN5 := Lib.hid h6
      have HB5 := Lib.hid (h7.trans (hb5.mono (Nat.le_trans HBW.out h7.size)))
      have HB50 := Lib.hid (Nat.le_trans HBW.out HB5.out.size)
      have HKP5 := Lib.hid (show ∀ j, X j → ¬ V j → w5.heap[j]? = w.heap[j]? from fun j hj hn => (hb5.block j (Nat.lt_of_lt_of_le (HD.out.lt j hj).2 h7.size)).trans (h8 j hj hn))
      obtain ⟨vs, hvs⟩ := HRK5.out.own
      have HVS := Lib.hid (show OwB V5 B kb w5 rv vs (ps.take k) from hvs)
      have HPS := Lib.hid (show (ps.take k).length ≤ 1000000 from by rw [List.length_take]; have := HR.out.ln; have := HRN.out; omega)
      have HSL := Lib.hid (HRK5.out.own.sl)
      have HC2 := Lib.hid HRK5.out.cells.2.2
      have HKL := Lib.hid (Array.getElem?_eq_some_iff.1 HRK5.out.row).1
      have HBR5 := Lib.hid (Below.refl w5.heap.size w5)
      have HEL := Lib.hid (fun (W : World) (hW : Below B w5 W) => show W.cell? ⟨b, o + k, none⟩ = some (.slice pa p.length pc) from ((HB5.out.trans hW).cell (p := ⟨b, o + k, none⟩) hbB).trans hc)
      have HSE := Lib.hid (HEL.out w5 (Below.refl _ _))
      have HLE := Lib.hid (fun W (hW : W.cell? ⟨b, o + k, none⟩ = some (.slice pa p.length pc)) => run_cell_sl W b (o + k) pa p.length pc hW)
      have HTW := Lib.hid (fun W (hW : Below w5.heap.size w5 W) => (twin_c pa p.length pc p W (rd_lowJ hrd (fun b o s e hn => (hlo b o s e hn).resolve_right fun e => e) (HB5.out.trans (hW.mono HB50.out))) (by have := HLN1.out; omega)).mono (RetB.form HPB1.out))
      clear hp hb1 hb2 hc hrd hlo hnil hpc hpm hbB h1 h2 h3 h4 h5 h6 h7 h8 hvs HP
      go_upto_region 12 with fail
      refine anyH_begin (S := fun W => W.cell? ⟨b, o + k, none⟩ = some (.slice pa p.length pc)) (by kernel_rfl) ?_
      rw [← hw5]
      clear hw5 hb5
      refine aP 0 (d := 41) (op := .move (.tmp 0)) (.pointer (some ⟨kb, 0, none⟩)) HSE.out ?_
      simp only [Act.put, sT, sZ, sS]
      refine aP 1 (d := 42) (op := .move (.tmp 0)) (.pointer (some ⟨kb, 0, none⟩)) HSE.out ?_
      simp only [Act.put, sT, sZ, sS]
      refine aP 2 (d := 43) (op := .nilCheck (.tmp 42)) (.pointer (some ⟨kb, 0, none⟩)) HSE.out ?_
      simp only [Act.put, sT, sZ, sS]
      refine aP 3 (d := 44) (op := .fieldAddr 53 (.tmp 43) 2) (.pointer (some ⟨kb, 2, none⟩)) HSE.out ?_
      simp only [Act.put, sT, sZ, sS]
      refine aP 5 (d := 46) (op := .move (.tmp 1)) (.slice (some ⟨b, o, none⟩) rn rc) HSE.out ?_
      simp only [Act.put, sT, sZ, sS]
      refine aP 6 (d := 47) (op := .move (.tmp 7)) (.int .i64 (k : Int)) HSE.out ?_
      simp only [Act.put, sT, sZ, sS]
      refine anyH_pureG 7 (d := 48) (op := .indexAddr 32 (.tmp 46) (.tmp 47)) (gd := none) (.pointer (some ⟨b, o + k, none⟩)) (by rfl) wantedP (by kernel_rfl) (by kernel_rfl) (by kernel_rfl) (fun _ _ _ h => h) (fun o1 ho W hW => exec_bidxJ hkn (x := .tmp 46) (y := .tmp 47) (by rfl) (by rfl) o1 ho W) HSE.out ?_
      simp only [Act.put, sT, sZ, sS]
      refine aL 8 (d := 49) (ty := 38) (x := (.tmp 48)) (p := .pointer (some ⟨b, o + k, none⟩)) (.slice pa p.length pc) HLE.out HSE.out ?_
      simp only [Act.put, sT, sZ, sS]
      refine anyH_twoJ 4 9 (d1 := some 45) (op1 := .load 32 (.tmp 44)) (d2 := some 50) (op2 := .call { callee := .value (.func 46), args := #[(.tmp 49)], argTypes := #[38] }) (by kernel_rfl) (by rfl) (by rfl) (fun o hod hoo => ?_) (fun o hod hoo => ?_)
      ·
       refine wp_load_g 32 (.tmp 44) hoo (.pointer (some ⟨kb, 2, none⟩)) rv (by rfl) (run_cell_v _ ⟨kb, 2, none⟩ rv HSL.out ((HBR5.out.cell (p := ⟨kb, 2, none⟩) HKL.out).trans HC2.out)) ?_
       refine ⟨HEL.out w5 (HBR5.out.mono HB50.out), ?_⟩
       rw [hod]
       simp only [Act.put, sT, sZ, sS]
       refine anyH_oneJ 9 (d1 := some 50) (op1 := .call { callee := .value (.func 46), args := #[(.tmp 49)], argTypes := #[38] }) (by kernel_rfl) (by rfl) (fun o hod hoo => ?_)
       refine wp_callJ hoo (by go_simp) (by go_simp) (HTW.out w5 HBR5.out) ?_
       rintro e20 w20 ⟨a20, L20, c20, rfl, hl20, hlc20, hcm20, hn20, hr20, ho20, hb20⟩
       obtain rfl := hl20
       have HB20 := Lib.hid (HBR5.out.trans (hb20.mono HBR5.out.size))
       have HR20 := Lib.hid hr20
       have HC20 := Lib.hid (And.intro hlc20 hcm20)
       have HA20 := Lib.hid (own_blk ho20)
       have HZ20 := Lib.hid (show w5.heap.size ≤ w20.heap.size from hb20.size)
       clear hlc20 hcm20 hn20 hr20 ho20 hb20
       refine ⟨_, rfl, ?_⟩
       refine ⟨HEL.out w20 (HB20.out.mono HB50.out), ?_⟩
       rw [hod]
       simp only [Act.put, sT, sZ, sS]
       refine anyH_oneJ 10 (d1 := some 51) (op1 := .buildSlice 32 1 #[(0, (.tmp 50))]) (by kernel_rfl) (by rfl) (fun o hod hoo => ?_)
       refine wp_layVJ (.tmp 50) hoo a20 p.length c20 (by rfl) ?_
       obtain ⟨w30, hw30⟩ : ∃ W, W = w20.alloc (.cells #[.slice a20 p.length c20] 38) := ⟨_, rfl⟩
       have HG30 := Lib.hid (show w30.heap[w20.heap.size]? = some (.cells #[.slice a20 p.length c20] 38 (0, 0)) from by rw [hw30]; exact heap_new _ _)
       have hb30 : Below w20.heap.size w20 w30 := by rw [hw30]; exact (Below.refl _ _).alloc (Nat.le_refl _) _
       have HB30 := Lib.hid (HB20.out.trans (hb30.mono HB20.out.size))
       have HQ30 := Lib.hid hb30
       clear hb30
       rw [← hw30]
       clear hw30
       refine ⟨HEL.out w30 (HB30.out.mono HB50.out), ?_⟩
       rw [hod]
       simp only [Act.put, sT, sZ, sS]
       refine anyH_oneJ 11 (d1 := some 52) (op1 := .call { callee := .builtin .append, args := #[(.tmp 45), (.tmp 51)], argTypes := #[32, 32] }) (by kernel_rfl) (by rfl) (fun o hod hoo => ?_)
       refine wp_pushVJ (.tmp 45) (.tmp 51) hoo B rv vs (.slice a20 p.length c20) rfl (by rfl) (HVS.out.1.keep HB30.out) (Nat.le_trans HB50.out HB30.out.size) w20.heap.size (by rfl) HG30.out (by have := HVS.out.2.1; have := HPS.out; omega) ?_
       intro vz40 w40 hoz hgz hat
       obtain ⟨zx40, zn40, zc40, hvz, -⟩ := hoz.form
       subst hvz
       have HPU40 := Lib.hid (Rk.push HREL5.out HRK5.out HVX5.out HVS.out HB30.out HB50.out (HR20.out.below HQ30.out) HC20.out.1 HC20.out.2 (fun b o s e => ⟨Nat.le_trans HBR5.out.size (HA20.out b o s e).1, Nat.lt_of_lt_of_le (HA20.out b o s e).2 HQ30.out.size⟩) hoz hgz hat)
       have HRW40 := Lib.hid (show w40.heap[kb]? = some (.cells #[.pointer (some ⟨m, 0, none⟩), .string nm, rv] 53 (0, 0)) from (hgz.block kb (Nat.lt_of_lt_of_le HKL.out HB30.out.size) fun e => (HVS.out.2.2.1 kb (by first | exact e | exact e.symm)).2 rfl).trans ((HB30.out.block kb HKL.out).trans HRK5.out.row))
       have HBZ40 := Lib.hid (show Below B w5 w40 from (HB30.out.mono HB50.out).grown hgz (Nat.le_trans HB50.out HB30.out.size) fun q hq => (World.ownsRow.lt HVS.out.1 q hq).1)
       clear hoz hgz hat
       refine ⟨HEL.out w40 HBZ40.out, ?_⟩
       rw [hod]
       simp only [Act.put, sT, sZ, sS]
       refine aP 12 (d := 53) (op := .nilCheck (.tmp 41)) (.pointer (some ⟨kb, 0, none⟩)) (HEL.out w40 HBZ40.out) ?_
       simp only [Act.put, sT, sZ, sS]
       refine aP 13 (d := 54) (op := .fieldAddr 53 (.tmp 53) 2) (.pointer (some ⟨kb, 2, none⟩)) (HEL.out w40 HBZ40.out) ?_
       simp only [Act.put, sT, sZ, sS]
       refine anyH_oneJ 14 (d1 := none) (op1 := .store 32 (.tmp 54) (.tmp 52)) (by kernel_rfl) (by rfl) (fun o hod hoo => ?_)
       refine wp_store_one 32 (.tmp 54) (.tmp 52) hoo kb 2 (.slice zx40 zn40 zc40) (by rfl) (by rfl) (row_there HRW40.out (by simp)) (by kernel_rfl) (by rfl) (by rfl) ?_
       have HPU := HPU40
       have HBW5 := Lib.hid (show Below B w5 (w40.setCell ⟨kb, 2, none⟩ (.slice zx40 zn40 zc40)) from HBZ40.out.setCell (p := ⟨kb, 2, none⟩) HRK5.out.bk _)
       obtain ⟨wf, hwf⟩ : ∃ W, W = w40.setCells kb 2 [(.slice zx40 zn40 zc40)] := ⟨_, rfl⟩
       have HPF := Lib.hid (show PushR X5 V5 B d m kb N nm A1 A' (ps.take k ++ [p]) w5 wf from by rw [hwf]; exact HPU.out)
       have HBF := Lib.hid (show Below B w5 wf from by rw [hwf]; exact HBW5.out)
       rw [← hwf]
       clear hwf
       refine ⟨HEL.out wf HBF.out, ?_⟩
       rw [hod]
       simp only [Act.put, sT, sZ, sS]
       refine wpAnyH_done (by kernel_rfl) ?_ _
       have HPN := Lib.hid (show PushR X V B d m kb N nm A1 A' (ps.take (k + 1)) w wf from by
        rw [HTK.out]
        exact PushR.trans HX5.out HV5.out HN5.out HB5.out (fun j hj => (HD.out.lt j hj).2) HKP5.out HPF.out)
       clear HPF HBF HSE HLE HEL
       go_wp2_with fail
       go_roundw
       case rel => exact ⟨k + 1, by omega, by go_num, HPN⟩
       case measure => simp [intOf]; omega
      ·
       refine wp_callJ hoo (by go_simp) (by go_simp) (HTW.out w5 HBR5.out) ?_
       rintro e60 w60 ⟨a60, L60, c60, rfl, hl60, hlc60, hcm60, hn60, hr60, ho60, hb60⟩
       obtain rfl := hl60
       have HB60 := Lib.hid (HBR5.out.trans (hb60.mono HBR5.out.size))
       have HR60 := Lib.hid hr60
       have HC60 := Lib.hid (And.intro hlc60 hcm60)
       have HA60 := Lib.hid (own_blk ho60)
       have HZ60 := Lib.hid (show w5.heap.size ≤ w60.heap.size from hb60.size)
       clear hlc60 hcm60 hn60 hr60 ho60 hb60
       refine ⟨_, rfl, ?_⟩
       refine ⟨HEL.out w60 (HB60.out.mono HB50.out), ?_⟩
       rw [hod]
       simp only [Act.put, sT, sZ, sS]
       refine anyH_twoJ 4 10 (d1 := some 45) (op1 := .load 32 (.tmp 44)) (d2 := some 51) (op2 := .buildSlice 32 1 #[(0, (.tmp 50))]) (by kernel_rfl) (by rfl) (by rfl) (fun o hod hoo => ?_) (fun o hod hoo => ?_)
       ·
        refine wp_load_g 32 (.tmp 44) hoo (.pointer (some ⟨kb, 2, none⟩)) rv (by rfl) (run_cell_v _ ⟨kb, 2, none⟩ rv HSL.out ((HB60.out.cell (p := ⟨kb, 2, none⟩) HKL.out).trans HC2.out)) ?_
        refine ⟨HEL.out w60 (HB60.out.mono HB50.out), ?_⟩
        rw [hod]
        simp only [Act.put, sT, sZ, sS]
        refine anyH_oneJ 10 (d1 := some 51) (op1 := .buildSlice 32 1 #[(0, (.tmp 50))]) (by kernel_rfl) (by rfl) (fun o hod hoo => ?_)
        refine wp_layVJ (.tmp 50) hoo a60 p.length c60 (by rfl) ?_
        obtain ⟨w80, hw80⟩ : ∃ W, W = w60.alloc (.cells #[.slice a60 p.length c60] 38) := ⟨_, rfl⟩
        have HG80 := Lib.hid (show w80.heap[w60.heap.size]? = some (.cells #[.slice a60 p.length c60] 38 (0, 0)) from by rw [hw80]; exact heap_new _ _)
        have hb80 : Below w60.heap.size w60 w80 := by rw [hw80]; exact (Below.refl _ _).alloc (Nat.le_refl _) _
        have HB80 := Lib.hid (HB60.out.trans (hb80.mono HB60.out.size))
        have HQ80 := Lib.hid hb80
        clear hb80
        rw [← hw80]
        clear hw80
        refine ⟨HEL.out w80 (HB80.out.mono HB50.out), ?_⟩
        rw [hod]
        simp only [Act.put, sT, sZ, sS]
        refine anyH_oneJ 11 (d1 := some 52) (op1 := .call { callee := .builtin .append, args := #[(.tmp 45), (.tmp 51)], argTypes := #[32, 32] }) (by kernel_rfl) (by rfl) (fun o hod hoo => ?_)
        refine wp_pushVJ (.tmp 45) (.tmp 51) hoo B rv vs (.slice a60 p.length c60) rfl (by rfl) (HVS.out.1.keep HB80.out) (Nat.le_trans HB50.out HB80.out.size) w60.heap.size (by rfl) HG80.out (by have := HVS.out.2.1; have := HPS.out; omega) ?_
        intro vz90 w90 hoz hgz hat
        obtain ⟨zx90, zn90, zc90, hvz, -⟩ := hoz.form
        subst hvz
        have HPU90 := Lib.hid (Rk.push HREL5.out HRK5.out HVX5.out HVS.out HB80.out HB50.out (HR60.out.below HQ80.out) HC60.out.1 HC60.out.2 (fun b o s e => ⟨Nat.le_trans HBR5.out.size (HA60.out b o s e).1, Nat.lt_of_lt_of_le (HA60.out b o s e).2 HQ80.out.size⟩) hoz hgz hat)
        have HRW90 := Lib.hid (show w90.heap[kb]? = some (.cells #[.pointer (some ⟨m, 0, none⟩), .string nm, rv] 53 (0, 0)) from (hgz.block kb (Nat.lt_of_lt_of_le HKL.out HB80.out.size) fun e => (HVS.out.2.2.1 kb (by first | exact e | exact e.symm)).2 rfl).trans ((HB80.out.block kb HKL.out).trans HRK5.out.row))
        have HBZ90 := Lib.hid (show Below B w5 w90 from (HB80.out.mono HB50.out).grown hgz (Nat.le_trans HB50.out HB80.out.size) fun q hq => (World.ownsRow.lt HVS.out.1 q hq).1)
        clear hoz hgz hat
        refine ⟨HEL.out w90 HBZ90.out, ?_⟩
        rw [hod]
        simp only [Act.put, sT, sZ, sS]
        refine aP 12 (d := 53) (op := .nilCheck (.tmp 41)) (.pointer (some ⟨kb, 0, none⟩)) (HEL.out w90 HBZ90.out) ?_
        simp only [Act.put, sT, sZ, sS]
        refine aP 13 (d := 54) (op := .fieldAddr 53 (.tmp 53) 2) (.pointer (some ⟨kb, 2, none⟩)) (HEL.out w90 HBZ90.out) ?_
        simp only [Act.put, sT, sZ, sS]
        refine anyH_oneJ 14 (d1 := none) (op1 := .store 32 (.tmp 54) (.tmp 52)) (by kernel_rfl) (by rfl) (fun o hod hoo => ?_)
        refine wp_store_one 32 (.tmp 54) (.tmp 52) hoo kb 2 (.slice zx90 zn90 zc90) (by rfl) (by rfl) (row_there HRW90.out (by simp)) (by kernel_rfl) (by rfl) (by rfl) ?_
        have HPU := HPU90
        have HBW5 := Lib.hid (show Below B w5 (w90.setCell ⟨kb, 2, none⟩ (.slice zx90 zn90 zc90)) from HBZ90.out.setCell (p := ⟨kb, 2, none⟩) HRK5.out.bk _)
        obtain ⟨wf, hwf⟩ : ∃ W, W = w90.setCells kb 2 [(.slice zx90 zn90 zc90)] := ⟨_, rfl⟩
        have HPF := Lib.hid (show PushR X5 V5 B d m kb N nm A1 A' (ps.take k ++ [p]) w5 wf from by rw [hwf]; exact HPU.out)
        have HBF := Lib.hid (show Below B w5 wf from by rw [hwf]; exact HBW5.out)
        rw [← hwf]
        clear hwf
        refine ⟨HEL.out wf HBF.out, ?_⟩
        rw [hod]
        simp only [Act.put, sT, sZ, sS]
        refine wpAnyH_done (by kernel_rfl) ?_ _
        have HPN := Lib.hid (show PushR X V B d m kb N nm A1 A' (ps.take (k + 1)) w wf from by
         rw [HTK.out]
         exact PushR.trans HX5.out HV5.out HN5.out HB5.out (fun j hj => (HD.out.lt j hj).2) HKP5.out HPF.out)
        clear HPF HBF HSE HLE HEL
        go_wp2_with fail
        go_roundw
        case rel => exact ⟨k + 1, by omega, by go_num, HPN⟩
        case measure => simp [intOf]; omega
       ·
        refine wp_layVJ (.tmp 50) hoo a60 p.length c60 (by rfl) ?_
        obtain ⟨w110, hw110⟩ : ∃ W, W = w60.alloc (.cells #[.slice a60 p.length c60] 38) := ⟨_, rfl⟩
        have HG110 := Lib.hid (show w110.heap[w60.heap.size]? = some (.cells #[.slice a60 p.length c60] 38 (0, 0)) from by rw [hw110]; exact heap_new _ _)
        have hb110 : Below w60.heap.size w60 w110 := by rw [hw110]; exact (Below.refl _ _).alloc (Nat.le_refl _) _
        have HB110 := Lib.hid (HB60.out.trans (hb110.mono HB60.out.size))
        have HQ110 := Lib.hid hb110
        clear hb110
        rw [← hw110]
        clear hw110
        refine ⟨HEL.out w110 (HB110.out.mono HB50.out), ?_⟩
        rw [hod]
        simp only [Act.put, sT, sZ, sS]
        refine anyH_oneJ 4 (d1 := some 45) (op1 := .load 32 (.tmp 44)) (by kernel_rfl) (by rfl) (fun o hod hoo => ?_)
        refine wp_load_g 32 (.tmp 44) hoo (.pointer (some ⟨kb, 2, none⟩)) rv (by rfl) (run_cell_v _ ⟨kb, 2, none⟩ rv HSL.out ((HB110.out.cell (p := ⟨kb, 2, none⟩) HKL.out).trans HC2.out)) ?_
        refine ⟨HEL.out w110 (HB110.out.mono HB50.out), ?_⟩
        rw [hod]
        simp only [Act.put, sT, sZ, sS]
        refine anyH_oneJ 11 (d1 := some 52) (op1 := .call { callee := .builtin .append, args := #[(.tmp 45), (.tmp 51)], argTypes := #[32, 32] }) (by kernel_rfl) (by rfl) (fun o hod hoo => ?_)
        refine wp_pushVJ (.tmp 45) (.tmp 51) hoo B rv vs (.slice a60 p.length c60) rfl (by rfl) (HVS.out.1.keep HB110.out) (Nat.le_trans HB50.out HB110.out.size) w60.heap.size (by rfl) HG110.out (by have := HVS.out.2.1; have := HPS.out; omega) ?_
        intro vz130 w130 hoz hgz hat
        obtain ⟨zx130, zn130, zc130, hvz, -⟩ := hoz.form
        subst hvz
        have HPU130 := Lib.hid (Rk.push HREL5.out HRK5.out HVX5.out HVS.out HB110.out HB50.out (HR60.out.below HQ110.out) HC60.out.1 HC60.out.2 (fun b o s e => ⟨Nat.le_trans HBR5.out.size (HA60.out b o s e).1, Nat.lt_of_lt_of_le (HA60.out b o s e).2 HQ110.out.size⟩) hoz hgz hat)
        have HRW130 := Lib.hid (show w130.heap[kb]? = some (.cells #[.pointer (some ⟨m, 0, none⟩), .string nm, rv] 53 (0, 0)) from (hgz.block kb (Nat.lt_of_lt_of_le HKL.out HB110.out.size) fun e => (HVS.out.2.2.1 kb (by first | exact e | exact e.symm)).2 rfl).trans ((HB110.out.block kb HKL.out).trans HRK5.out.row))
        have HBZ130 := Lib.hid (show Below B w5 w130 from (HB110.out.mono HB50.out).grown hgz (Nat.le_trans HB50.out HB110.out.size) fun q hq => (World.ownsRow.lt HVS.out.1 q hq).1)
        clear hoz hgz hat
        refine ⟨HEL.out w130 HBZ130.out, ?_⟩
        rw [hod]
        simp only [Act.put, sT, sZ, sS]
        refine aP 12 (d := 53) (op := .nilCheck (.tmp 41)) (.pointer (some ⟨kb, 0, none⟩)) (HEL.out w130 HBZ130.out) ?_
        simp only [Act.put, sT, sZ, sS]
        refine aP 13 (d := 54) (op := .fieldAddr 53 (.tmp 53) 2) (.pointer (some ⟨kb, 2, none⟩)) (HEL.out w130 HBZ130.out) ?_
        simp only [Act.put, sT, sZ, sS]
        refine anyH_oneJ 14 (d1 := none) (op1 := .store 32 (.tmp 54) (.tmp 52)) (by kernel_rfl) (by rfl) (fun o hod hoo => ?_)
        refine wp_store_one 32 (.tmp 54) (.tmp 52) hoo kb 2 (.slice zx130 zn130 zc130) (by rfl) (by rfl) (row_there HRW130.out (by simp)) (by kernel_rfl) (by rfl) (by rfl) ?_
        have HPU := HPU130
        have HBW5 := Lib.hid (show Below B w5 (w130.setCell ⟨kb, 2, none⟩ (.slice zx130 zn130 zc130)) from HBZ130.out.setCell (p := ⟨kb, 2, none⟩) HRK5.out.bk _)
        obtain ⟨wf, hwf⟩ : ∃ W, W = w130.setCells kb 2 [(.slice zx130 zn130 zc130)] := ⟨_, rfl⟩
        have HPF := Lib.hid (show PushR X5 V5 B d m kb N nm A1 A' (ps.take k ++ [p]) w5 wf from by rw [hwf]; exact HPU.out)
        have HBF := Lib.hid (show Below B w5 wf from by rw [hwf]; exact HBW5.out)
        rw [← hwf]
        clear hwf
        refine ⟨HEL.out wf HBF.out, ?_⟩
        rw [hod]
        simp only [Act.put, sT, sZ, sS]
        refine wpAnyH_done (by kernel_rfl) ?_ _
        have HPN := Lib.hid (show PushR X V B d m kb N nm A1 A' (ps.take (k + 1)) w wf from by
         rw [HTK.out]
         exact PushR.trans HX5.out HV5.out HN5.out HB5.out (fun j hj => (HD.out.lt j hj).2) HKP5.out HPF.out)
        clear HPF HBF HSE HLE HEL
        go_wp2_with fail
        go_roundw
        case rel => exact ⟨k + 1, by omega, by go_num, HPN⟩
        case measure => simp [intOf]; omega
     ·
      have HPE := Lib.hid (show PushR X V B d m kb N nm A1 A' ps w wr from by
       have := HP.out
       rwa [List.take_of_length_le (by rw [HR.out.ln]; omega)] at this)
      have HE := Lib.hid (show RrwR X V B d m kb N nm A1 qs ps w (A', 0) (.returned (.int .i64 0)) wr from by
       rw [RrwR, if_pos rfl]
       exact ⟨rfl, HPE.out⟩)
      go_wp2_with fail
      go_ret
      exact HE.out
   ·
    have hx0 : (x == 0) = false := by simp [h0]
    have HE := Lib.hid (show RrwR X V B d m kb N nm A1 qs ps w (A', x) (.returned (.int .i64 x)) w4 from by
     rw [RrwR, if_neg h0]
     exact ⟨rfl, X, V, rv, HREL4.out, HRK.out.stay HB4.out fun j hj => HKP4.out j (HVX.out j hj), fun _ hj => hj, fun _ hj => hj, HVX.out, fun _ hj => .inl hj, HB4.out, fun j hj _ => HKP4.out j hj⟩)
    go_wp2_with fail
    go_ret
    exact HE.out
end Go.Proofs.YtihbgigledmliaaGreat

namespace Go.Proofs.YtihbgigledmliaaGreat
open Go.RowKit
set_option linter.unusedVariables false
theorem flat_snoc_len (ps : List (List Nat)) (k : Nat) (p : List Nat) (h : ps[k]? = some p) : (Frm.flatF (ps.take (k + 1))).length = (Frm.flatF (ps.take k)).length + (8 + p.length) := by
 rw [Frm.flat_snoc ps k p h, List.length_append, Frm.frame_len]
set_option maxRecDepth 100000 in
set_option maxHeartbeats 8000000 in
theorem rsize_c (a : Option Addr) (n c : Nat) (ps : List (List Nat)) (w : World) (h : RowRd w a n ps) (hn : n ≤ 1000000000) (hf : (Frm.flatF ps).length ≤ 1000000000000) :
  Calls Tryz.prog 21 #[.slice a n c] w fun e w' => e = .returned (.int .i64 ((Frm.flatF ps).length : Int)) ∧ w' = w := by
 have H := Lib.hid h
 have HF := Lib.hid (fun k => Nat.le_trans (flat_take_le ps k) hf)
 obtain ⟨S, hS⟩ : ∃ S, S = (Frm.flatF ps).length := ⟨_, rfl⟩
 rw [← hS]
 have HS := Lib.hid hS
 clear h hf hS
 go_enter Tryz.func21, Tryz.ntmps21
 go_wp2_with fail
 go_loopw [3, 4] (fun s i wr => ∃ k q : Nat, k ≤ n ∧ i = .int .i64 k ∧ s = .int .i64 q ∧ Hid (q = (Frm.flatF (ps.take k)).length) ∧ Hid (w = wr)) (fun _ i _ => n - (intOf i).toNat)
 case atStart => exact ⟨0, 0, Nat.zero_le _, rfl, rfl, Lib.hid (by simp [Frm.flatF]), Lib.hid rfl⟩
 case round =>
  obtain ⟨k, q, hk, rfl, rfl, HQ, HW⟩ := hrel
  have hW := HW.out
  subst hW
  by_cases hkn : k < n
  ·
   obtain ⟨b, o, rfl, hc⟩ := H.out.2.resolve_left (by omega)
   obtain ⟨p, hp⟩ : ∃ p, ps[k]? = some p := ⟨_, List.getElem?_eq_getElem (by rw [H.out.1]; exact hkn)⟩
   obtain ⟨x1, m1, d1, e1, r1, g1⟩ := hc k p hp
   have hs := flat_snoc_len ps k p hp
   have hb := HF.out (k + 1)
   have hm1 : p.length = m1 := r1.1
   have HQ2 := Lib.hid (show q + (8 + m1) = (Frm.flatF (ps.take (k + 1))).length from by rw [hs, HQ.out, hm1])
   have hq2 : q + (8 + m1) ≤ 1000000000000 := by rw [HQ2.out]; exact hb
   have kI := fun W => run_bidx W b o n c k hkn
   clear hc hp r1 g1 hs hb hm1
   go_wp2_with fail
   go_roundw
   case rel => exact ⟨k + 1, q + (8 + m1), by omega, by go_num, by go_num, HQ2, (by first | exact HW | exact Lib.hid trivial)⟩
   case measure => simp [intOf]; omega
  ·
   have HE := Lib.hid (show q = S from by
    have h1 := HQ.out
    rw [List.take_of_length_le (by rw [H.out.1]; omega)] at h1
    rw [h1, HS.out])
   have hqs := HE.out
   clear HQ
   subst hqs
   go_wp2_with fail
   go_ret
   exact ⟨rfl, rfl⟩
/-- what Scan of the document's tells: the records in new memory -/
theorem rscan_rcd {w w' : World} {b : List Nat} {e : Ending} (h : RscanR w b e w') (B kb : Nat) (hkb : kb < w.heap.size) (hB : B ≤ w.heap.size) : ∃ a n c, e = .returned (.tuple #[.slice a n c, .int .i64 (((Frm.scanL b).2 : Nat) : Int)]) ∧ Rcd (fun j => w.heap.size ≤ j ∧ j < w'.heap.size) B w' a n (Frm.scanL b).1 ∧ OwA (fun j => w.heap.size ≤ j ∧ j < w'.heap.size) B kb w' (.slice a n c) (Frm.scanL b).1 ∧ n ≤ c ∧ c ≤ 9223372036854775807 ∧ Below w.heap.size w w' := by
 obtain ⟨v, vs, rfl, ho, hr, hb⟩ := h
 have ho' : OwnV w' B v vs := ⟨ho.1, ho.2.imp id fun ⟨g, cap, cur, e1, e2, e3⟩ => ⟨g, cap, cur, e1, Nat.le_trans hB e2, e3⟩⟩
 obtain ⟨a, n, c, rfl, hln, hnc, hcm, hrow⟩ := ho.form
 have el : ∀ (k : Nat) (p : List Nat) (u : Value), (Frm.scanL b).1[k]? = some p → vs[k]? = some u → ∃ pa pc, u = .slice pa p.length pc ∧ Rd w' pa p.length p ∧ p.length ≤ pc ∧ pc ≤ 9223372036854775807 ∧ (pa = none → pc = 0) ∧ ∀ b o s, pa = some ⟨b, o, s⟩ → p.length ≠ 0 → (w.heap.size ≤ b ∧ b < w'.heap.size) ∧ (Value.slice a n c).ownBlock ≠ some b := by
  intro k p u hp hu
  have hz := hr.at_ k u p hu hp
  obtain ⟨pa, pn, pc, rfl, h2, h3, h4, h5, h6, h7⟩ := id hz
  subst h5
  obtain ⟨pa', pn', pc', e', _, _, _, hrd⟩ := hz.rd
  obtain ⟨rfl, rfl, rfl⟩ := Value.slice.inj e'
  refine ⟨pa, pc, rfl, hrd, h2, h3, h4, fun b o s e hn => ?_⟩
  obtain ⟨g, off, cur, fr, f1, f2, f3, f4⟩ := h7.resolve_left hn
  rw [f1] at e
  cases e
  exact ⟨⟨f2, (Array.getElem?_eq_some_iff.1 f3).1⟩, fun e => ho.other f3 e.symm⟩
 refine ⟨a, n, c, rfl, ⟨by rw [← hr.len, hln], fun k p hp => ?_⟩, ⟨vs, ho', hr.len, fun j e => ?_, fun k p u hp hu => ?_⟩, hnc, hcm, hb⟩
 ·
  have hk : k < (Frm.scanL b).1.length := (List.getElem?_eq_some_iff.1 hp).1
  have hkn : k < n := by rw [← hln, hr.len]; exact hk
  obtain ⟨g, rfl, hg1, hg2, hcell⟩ := hrow.resolve_left (by omega)
  obtain ⟨u, hu⟩ : ∃ u, vs[k]? = some u := ⟨_, List.getElem?_eq_getElem (by omega)⟩
  obtain ⟨pa, pc, rfl, h1, h2, h3, h4, h5⟩ := el k p u hp hu
  exact ⟨g, 0, pa, pc, rfl, .inr ⟨hg1, hg2⟩, hg2, by rw [Nat.zero_add]; exact hcell k _ hu, h1, fun b' o' s e hn => .inr (h5 b' o' s e hn).1, h4, h2, h3⟩
 ·
  have := World.ownsRow.lt ho j e
  exact ⟨this, by omega⟩
 ·
  obtain ⟨pa, pc, rfl, h1, h2, h3, h4, h5⟩ := el k p u hp hu
  exact ⟨pa, pc, rfl, h1, h2, h3, fun b' o' s e hn => ⟨.inr ⟨(h5 b' o' s e hn).1, by have := (h5 b' o' s e hn).1.1; omega⟩, (h5 b' o' s e hn).2⟩⟩
theorem Rel.now {X : Nat → Prop} {B d m N : Nat} {A1 A2 : Ad} {w : World} (h : Rel X B d m N A1 A2 w) : ∃ na nn nc F, w.cell? ⟨m, 1, none⟩ = some (.slice na nn nc) ∧ w.cell? ⟨m, 5, none⟩ = some (.bool A2.down) ∧ RF F w na nn A2.now := by
 obtain ⟨S, lv, h1, h2, h3, h4⟩ := h.ex
 obtain ⟨na, nn, nc, sa, sn, sc, ⟨-, c1, -, -, -, c5⟩, -, r1, -⟩ := h3.cells
 exact ⟨na, nn, nc, _, c1, c5, r1⟩
/-- what the document's Open leaves -/
def RopR (X : Nat → Prop) (B d m N : Nat) (nm : ByteArray) (A1 : Ad) (ps : List (List Nat)) (w : World) (r : Ad × Int) (e : Ending) (w' : World) : Prop :=
 (r.2 = 0 ∧ ∃ (kb : Nat) (V : Nat → Prop) (rv : Value), e = .returned (.tuple #[.pointer (some ⟨kb, 0, none⟩), .int .i64 0]) ∧ Rel (fun j => X j ∨ V j) B d m N A1 r.1 w' ∧ Rk V B m kb nm rv ps w' ∧ (∀ j, V j → w.heap.size ≤ j) ∧ Below B w w' ∧ KpX X w w') ∨
 (r.2 ≠ 0 ∧ e = .returned (.tuple #[.pointer none, .int .i64 r.2]) ∧ Rel X B d m N A1 r.1 w' ∧ Below B w w' ∧ KpX X w w')
set_option maxRecDepth 100000 in
set_option maxHeartbeats 8000000 in
theorem ropen_bad (nm : ByteArray) (m : Nat) (w : World) (hs : nm.size ≤ 1000) (h : nm.size = 0 ∨ 160 ≤ nm.size) :
  Calls Tryz.prog 9 #[.pointer (some ⟨m, 0, none⟩), .string nm] w fun e w' => e = .returned (.tuple #[.pointer none, .int .i64 1]) ∧ w' = w := by
 have HN := Lib.hid (risname_c nm w (by unfold maxLen; omega))
 by_cases h0 : nm.size = 160
 ·
  have hi : isNm nm = true := by unfold isNm; simp; omega
  have h1 : ((nm.size : Int) == 160) = true := by simp; omega
  have h2 : (nm.size : Int) = 160 := by omega
  rw [hi] at HN
  clear hi h h0
  go_enter Tryz.func9, Tryz.ntmps9
  go_wp2_with fail
  refine HN.out.mono ?_
  rintro e1 w1 ⟨rfl, e2⟩
  subst e2
  go_wp2_with fail
  go_ret2
  exact ⟨rfl, rfl⟩
 ·
  have hi : isNm nm = false := by unfold isNm; simp; omega
  rw [hi] at HN
  clear hi h h0
  go_enter Tryz.func9, Tryz.ntmps9
  go_wp2_with fail
  refine HN.out.mono ?_
  rintro e1 w1 ⟨rfl, e2⟩
  subst e2
  go_wp2_with fail
  go_ret2
  exact ⟨rfl, rfl⟩
set_option maxRecDepth 100000 in
set_option maxHeartbeats 8000000 in
theorem ropen_down {X : Nat → Prop} {B d m N : Nat} {A1 A : Ad} {w : World} (h : Rel X B d m N A1 A w) (nm : ByteArray) (h1 : 1 ≤ nm.size) (h2 : nm.size ≤ 159) (hd : A.down = true) :
  Calls Tryz.prog 9 #[.pointer (some ⟨m, 0, none⟩), .string nm] w (RopR X B d m N nm A1 (recsA A nm) w (A.load nm)) := by
 have HN := Lib.hid (risname_c nm w (by unfold maxLen; omega))
 rw [show isNm nm = true from by unfold isNm; simp; omega] at HN
 obtain ⟨na, nn, nc, F, f1, f5, f6⟩ := h.now
 rw [hd] at f5
 have hb1 : ((nm.size : Int) == 160) = false := by simp; omega
 have hb2 : ¬ (nm.size : Int) = 160 := by omega
 have HE := Lib.hid (show RopR X B d m N nm A1 (recsA A nm) w (A.load nm) (.returned (.tuple #[.pointer none, .int .i64 5])) w from by
  have e : A.load nm = (A, 5) := by unfold Ad.load; rw [if_pos hd]
  rw [e]
  exact .inr ⟨by simp, rfl, h, Below.refl _ _, KpX.refl _ _⟩)
 clear h f1 f6 h1 h2 hd
 go_enter Tryz.func9, Tryz.ntmps9
 go_wp2_with fail
 refine HN.out.mono ?_
 rintro e1 w1 ⟨rfl, e2⟩
 subst e2
 go_wp2_with fail
 go_ret2
 exact HE.out
set_option maxRecDepth 100000 in
set_option maxHeartbeats 8000000 in
theorem ropen_none {X : Nat → Prop} {B d m N k0 : Nat} {A1 A : Ad} {w : World} (h : Rel X B d m N A1 A w) (g : Gk k0 A) (hk0 : k0 ≤ 10000) (nm : ByteArray) (h1 : 1 ≤ nm.size) (h2 : nm.size ≤ 159) (hd : A.down = false) (hl : lookF A.now nm = none) :
  Calls Tryz.prog 9 #[.pointer (some ⟨m, 0, none⟩), .string nm] w (RopR X B d m N nm A1 (recsA A nm) w (A.load nm)) := by
 have HN := Lib.hid (risname_c nm w (by unfold maxLen; omega))
 rw [show isNm nm = true from by unfold isNm; simp; omega] at HN
 have HBW := Lib.hid (show B ≤ w.heap.size from by have := h.base; omega)
 obtain ⟨w1, hw1⟩ : ∃ W, W = w.alloc (.cells #[.pointer (some ⟨m, 0, none⟩), .string nm, .slice none 0 0] 53) := ⟨_, rfl⟩
 have hb1 : Below w.heap.size w w1 := by rw [hw1]; exact (Below.refl _ _).alloc (Nat.le_refl _) _
 obtain ⟨kb, hkb⟩ : ∃ kb, kb = w.heap.size := ⟨_, rfl⟩
 have hrow : w1.heap[kb]? = some (.cells #[.pointer (some ⟨m, 0, none⟩), .string nm, .slice none 0 0] 53 (0, 0)) := by rw [hw1, hkb]; exact heap_alloc_new w _
 have hz1 : w1.heap.size = kb + 1 := by rw [hw1, hkb]; simp
 obtain ⟨na, nn, nc, F, f1, f5, f6⟩ := h.now
 rw [hd] at f5
 have HFI := Lib.hid (rfind_c (cap := nc) (f6.below hb1) nm (by have := f6.ln; have := g.len; omega))
 rw [idxI_of.1 hl] at HFI
 have hml := h.base
 have g1 := (hb1.cell (p := ⟨m, 1, none⟩) hml.2.2.2).trans f1
 have HR1 := Lib.hid (show Rel (fun j => X j ∨ j = kb) B d m N A1 A w1 from h.with hb1 HBW.out (fun j => j = kb) fun j e => by subst e; exact ⟨by omega, by omega⟩)
 have HKX := Lib.hid (KpX.ofBelow hb1 fun j hj => (h.lt j hj).2)
 have HB1 := Lib.hid (hb1.mono HBW.out)
 have HG := Lib.hid g
 have HK := Lib.hid hk0
 have HROW := Lib.hid hrow
 have HKB := Lib.hid (show w.heap.size ≤ kb from by omega)
 have hlo : A.load nm = runA [mkA nm, Ad.sync] A := by unfold Ad.load; rw [hd, hl]; rfl
 have hrec : recsA A nm = [] := by unfold recsA; rw [hd, hl]; rfl
 rw [hlo, hrec]
 have HST := Lib.hid (HR1.out.mkf HG.out.gs (by have := HG.out.len; have := HK.out; omega) (by have := HG.out.len; have := HK.out; omega) nm (by unfold maxLen; omega))
 obtain ⟨r2, hr2⟩ : ∃ r, A.step ⟨0, nm, ⟨#[]⟩, []⟩ = r := ⟨_, rfl⟩
 have HG2 := Lib.hid (HG.out.step ⟨0, nm, ⟨#[]⟩, []⟩)
 rw [hr2] at HST HG2
 obtain ⟨A2, x⟩ := r2
 have HR2 := Lib.hid (show mkA nm A = (A2, x) from hr2)
 have hbd1 : ((nm.size : Int) == 160) = false := by simp; omega
 have hbd2 : ¬ (nm.size : Int) = 160 := by omega
 clear h g hk0 h1 h2 hd hl f6 hb1 hrow hz1 hml hlo hrec hr2
 go_enter Tryz.func9, Tryz.ntmps9
 go_wp2_with fail
 refine HN.out.mono ?_
 rintro e1 w9 ⟨rfl, e2⟩
 subst w9
 go_upto_region 6 with fail
 rw [← hw1, ← hkb]
 clear hw1 hkb hbd1 hbd2 HN
 go_wp2_with fail
 refine HFI.out.mono ?_
 rintro e1 w9 ⟨rfl, e2⟩
 subst w9
 clear HFI
 go_wp2_with fail
 refine HST.out.mono ?_
 rintro e3 w3 ⟨rfl, g3, b3, k3⟩
 have HR3 := Lib.hid (show Rel (fun j => X j ∨ j = kb) B d m N A1 A2 w3 from g3)
 have HB3 := Lib.hid (HB1.out.trans b3)
 have HKQ := Lib.hid k3
 clear g3 b3 k3 HST HR1 g1 f1 f5
 by_cases hx : x = 0
 ·
  subst hx
  have HSY := Lib.hid (HR3.out.syncS HG2.out.gs)
  obtain ⟨r4, hr4⟩ : ∃ r, A2.sync = r := ⟨_, rfl⟩
  rw [hr4] at HSY
  obtain ⟨A4, y⟩ := r4
  have HR4 := Lib.hid (show Ad.sync A2 = (A4, y) from hr4)
  clear hr4
  go_wp2_with fail
  refine HSY.out.mono ?_
  rintro e5 w5 ⟨rfl, g5, b5, k5⟩
  have HR5 := Lib.hid (show Rel (fun j => X j ∨ j = kb) B d m N A1 A4 w5 from g5)
  have HB5 := Lib.hid (HB3.out.trans b5)
  have HK5 := Lib.hid (show KpX (fun j => X j ∨ j = kb) w1 w5 from HKQ.out.trans k5)
  clear g5 b5 k5 HSY HR3 HB3 HKQ
  by_cases hy : y = 0
  ·
   subst hy
   have HE := Lib.hid (show RopR X B d m N nm A1 [] w (runA [mkA nm, Ad.sync] A) (.returned (.tuple #[.pointer (some ⟨kb, 0, none⟩), .int .i64 0])) w5 from by
    rw [runA_ok HR2.out, runA_ok HR4.out]
    exact .inl ⟨rfl, kb, fun j => j = kb, .slice none 0 0, rfl, HR5.out, ⟨rfl, Nat.le_trans HBW.out HKB.out, (HK5.out kb (.inr rfl)).trans HROW.out, OwA.nil _ _ _ _⟩, fun j e => by subst e; exact HKB.out, HB5.out, HKX.out.trans (HK5.out.less fun j hj => .inl hj)⟩)
   go_wp2_with fail
   go_ret2
   exact HE.out
  ·
   have hy0 : (y == 0) = false := by simp [hy]
   have hy1 : (y != 0) = true := by simp [hy]
   have HE := Lib.hid (show RopR X B d m N nm A1 [] w (runA [mkA nm, Ad.sync] A) (.returned (.tuple #[.pointer none, .int .i64 y])) w5 from by
    rw [runA_ok HR2.out, runA_er HR4.out hy]
    exact .inr ⟨hy, rfl, HR5.out.less fun j hj => .inl hj, HB5.out, HKX.out.trans (HK5.out.less fun j hj => .inl hj)⟩)
   go_wp2_with fail
   go_ret2
   exact HE.out
 ·
  have hx0 : (x == 0) = false := by simp [hx]
  have hx1 : (x != 0) = true := by simp [hx]
  have HE := Lib.hid (show RopR X B d m N nm A1 [] w (runA [mkA nm, Ad.sync] A) (.returned (.tuple #[.pointer none, .int .i64 x])) w3 from by
   rw [runA_er HR2.out hx]
   exact .inr ⟨hx, rfl, HR3.out.less fun j hj => .inl hj, HB3.out, HKX.out.trans (HKQ.out.less fun j hj => .inl hj)⟩)
  go_wp2_with fail
  go_ret2
  exact HE.out
set_option maxRecDepth 100000 in
set_option maxHeartbeats 8000000 in
theorem ropen_some {X : Nat → Prop} {B d m N k0 : Nat} {A1 A : Ad} {w : World} (h : Rel X B d m N A1 A w) (g : Gk k0 A) (hk0 : k0 ≤ 10000) (nm : ByteArray) (h1 : 1 ≤ nm.size) (h2 : nm.size ≤ 159) (hd : A.down = false) (z : List Nat) (hl : lookF A.now nm = some z) (hzl : z.length < 1048576) :
  Calls Tryz.prog 9 #[.pointer (some ⟨m, 0, none⟩), .string nm] w (RopR X B d m N nm A1 (recsA A nm) w (A.load nm)) := by
 have HN := Lib.hid (risname_c nm w (by unfold maxLen; omega))
 rw [show isNm nm = true from by unfold isNm; simp; omega] at HN
 have HBW := Lib.hid (show B ≤ w.heap.size from by have := h.base; omega)
 obtain ⟨w1, hw1⟩ : ∃ W, W = w.alloc (.cells #[.pointer (some ⟨m, 0, none⟩), .string nm, .slice none 0 0] 53) := ⟨_, rfl⟩
 have hb1 : Below w.heap.size w w1 := by rw [hw1]; exact (Below.refl _ _).alloc (Nat.le_refl _) _
 obtain ⟨kb, hkb⟩ : ∃ kb, kb = w.heap.size := ⟨_, rfl⟩
 have hrow : w1.heap[kb]? = some (.cells #[.pointer (some ⟨m, 0, none⟩), .string nm, .slice none 0 0] 53 (0, 0)) := by rw [hw1, hkb]; exact heap_alloc_new w _
 have hz1 : w1.heap.size = kb + 1 := by rw [hw1, hkb]; simp
 obtain ⟨na, nn, nc, F, f1, f5, f6⟩ := h.now
 rw [hd] at f5
 have HFI := Lib.hid (rfind_c (cap := nc) (f6.below hb1) nm (by have := f6.ln; have := g.len; omega))
 obtain ⟨ix, hix⟩ : ∃ ix, idxF A.now nm = some ix := by
  cases e : idxF A.now nm with
  | none => rw [idxF_none.1 e] at hl; cases hl
  | some ix => exact ⟨ix, rfl⟩
 obtain ⟨z', hz', hlz⟩ := idxF_some hix
 rw [hl] at hlz
 obtain rfl := Option.some.inj hlz
 have hixn : ix < nn := by
  have := (List.getElem?_eq_some_iff.1 hz').1
  have := f6.ln
  omega
 obtain ⟨fb, fo, ff, ra, rn, rc, rfl, hfb, hff, e1c, e2c, hrb⟩ := f6.at hixn
 rw [hz'] at hff
 obtain rfl := Option.some.inj hff
 rw [hix] at HFI
 have hml := h.base
 have g1 := (hb1.cell (p := ⟨m, 1, none⟩) hml.2.2.2).trans f1
 have g2 := (hb1.cell (p := ⟨fb, fo + 2 * ix + 1, none⟩) hfb).trans e2c
 have kF := fun W => run_file_idx W fb fo nn nc ix hixn
 have HX := Lib.hid (show Calls Tryz.prog 40 #[.slice ra rn rc] w1 (RscanR w1 z) from rscan_w ra rn rc z w1 (hrb.rd.below hb1) hrb.le (by have := hrb.rd.1; simp only at this; omega))
 have HR0 := Lib.hid h
 have HB1 := Lib.hid hb1
 have HG := Lib.hid g
 have HK := Lib.hid hk0
 have HROW := Lib.hid hrow
 have HKB := Lib.hid (show w.heap.size = kb ∧ w1.heap.size = kb + 1 from ⟨hkb.symm, hz1⟩)
 have HNM := Lib.hid (show nm.size ≤ 1000 from by omega)
 have HZL := Lib.hid hzl
 have hlo : A.load nm = if (Frm.scanL z).2 < z.length then A.rw nm (spJ nm) (Frm.flatF (Frm.scanL z).1) else (A, 0) := by unfold Ad.load; rw [hd, hl]; rfl
 have hrec : recsA A nm = (Frm.scanL z).1 := by unfold recsA; rw [hd, hl]; rfl
 have HZB := Lib.hid (scan_bytes z.length z (Nat.le_refl _) hrb.rd.2.1)
 have hrz : z.length = rn := hrb.rd.1
 obtain ⟨R, hR⟩ : ∃ R, R = A.load nm := ⟨_, rfl⟩
 obtain ⟨RS, hRS⟩ : ∃ RS, RS = recsA A nm := ⟨_, rfl⟩
 rw [← hR, ← hRS]
 have HLO := Lib.hid (hR.trans hlo)
 have HRS := Lib.hid (hRS.trans hrec)
 have hbd1 : ((nm.size : Int) == 160) = false := by simp; omega
 have hbd2 : ¬ (nm.size : Int) = 160 := by omega
 have HRZ := Lib.hid hrz
 clear h g hk0 h1 h2 hd hl f6 hb1 hrow hz1 hml hlo hrec hix hz' hfb e1c e2c hrb hzl f1 hR hRS hrz
 go_enter Tryz.func9, Tryz.ntmps9
 go_wp2_with fail
 refine HN.out.mono ?_
 rintro e1 w9 ⟨rfl, e2⟩
 subst w9
 go_upto_region 6 with fail
 rw [← hw1, ← hkb]
 clear hw1 hkb hbd1 hbd2 HN
 go_wp2_with fail
 refine HFI.out.mono ?_
 rintro e1 w9 ⟨rfl, e2⟩
 subst w9
 clear HFI
 rw [show ixI (some ix) = (ix : Int) from rfl]
 go_wp2_with fail
 refine HX.out.mono ?_
 rintro e3 w3 hsc
 obtain ⟨a, n, c, rfl, s1, s2, s3, s4, s5⟩ := rscan_rcd hsc B kb (by have := HKB.out; omega) (by have := HKB.out; have := HBW.out; omega)
 have hrow3 := (s5.block kb (by have := HKB.out; omega)).trans HROW.out
 have q0 := (cell_of_row w3 kb 0 _ _ _ hrow3).trans rfl
 have q1 := (cell_of_row w3 kb 1 _ _ _ hrow3).trans rfl
 have q2 := (cell_of_row w3 kb 2 _ _ _ hrow3).trans rfl
 have q3 : w3.frozen? ⟨kb, 2, none⟩ = false := frozen_of_row w3 kb 2 _ _ hrow3
 obtain ⟨w7, hw7⟩ : ∃ W, W = w3.setCell ⟨kb, 2, none⟩ (.slice a n c) := ⟨_, rfl⟩
 have hs7 : w7.heap.size = w3.heap.size := by rw [hw7]; simp [World.setCell]
 have hst : ∀ j, j ≠ kb → w7.heap[j]? = w3.heap[j]? := fun j hj => by rw [hw7]; exact Below.heap_setCell w3 ⟨kb, 2, none⟩ _ j hj
 have hb7 : Below w.heap.size w w7 := by
  rw [hw7]
  exact (HB1.out.trans (s5.mono HB1.out.size)).setCell (p := ⟨kb, 2, none⟩) (by have := HKB.out; show w.heap.size ≤ kb; omega) _
 obtain ⟨V, hV⟩ : ∃ V : Nat → Prop, V = fun j => w.heap.size ≤ j ∧ j < w7.heap.size := ⟨_, rfl⟩
 have HVN := Lib.hid (show ∀ j, V j → w.heap.size ≤ j from fun j hj => by rw [hV] at hj; exact hj.1)
 have HR7 := Lib.hid (show Rel (fun j => X j ∨ V j) B d m N A1 A w7 from by rw [hV]; exact HR0.out.with hb7 HBW.out _ fun j hj => hj)
 have HRK7 := Lib.hid (show Rk V B m kb nm (.slice a n c) RS w7 from by
  have hkz := HKB.out
  have hz3 := s5.size
  refine ⟨by rw [hV]; exact ⟨by omega, by omega⟩, by have := HBW.out; omega, by rw [hw7, setCell_rowJ hrow3 2]; rfl, ?_⟩
  rw [HRS.out]
  refine (s2.stay (w' := w7) (by omega) fun j _ hj => hst j fun e => ?_).more fun j hj => by rw [hV]; exact ⟨by omega, by omega⟩
  rcases hj with hj | hj
  ·
   have := HBW.out; omega
  ·
   exact hj.2 e)
 have HRC7 := Lib.hid (s1.stay (w' := w7) (by omega) fun j _ hj => hst j fun e => by
  have := HKB.out
  have := HBW.out
  rcases hj with hj | hj <;> omega)
 have HB7 := Lib.hid (hb7.mono HBW.out)
 have HK7 := Lib.hid (KpX.ofBelow hb7 fun j hj => (HR0.out.lt j hj).2)
 have HN4 := Lib.hid (And.intro s3 s4)
 obtain ⟨U, hU⟩ : ∃ U, U = (Frm.scanL z).2 := ⟨_, rfl⟩
 rw [← hU]
 have HU := Lib.hid hU
 clear hsc s1 s2 s3 s4 s5 hrow3 HX g1 g2 kF f5 hs7 hst hb7 hV hU
 go_upto_region 17 with fail
 rw [← hw7]
 clear hw7 q0 q1 q2 q3
 by_cases hcut : U < rn
 ·
  have hcI : (U : Int) < (rn : Int) := by omega
  have HRR := Lib.hid (show R = A.rw nm (spJ nm) (Frm.flatF RS) from by rw [HLO.out, HRS.out, if_pos (by rw [← HU.out, HRZ.out]; exact hcut)])
  have HFL := Lib.hid (show (Frm.flatF (Frm.scanL z).1).length < 1048576 from by
   rw [scan_flat z.length z (Nat.le_refl _), List.length_take]
   have := HZL.out
   omega)
  have HLY := Lib.hid (rlay_c HR7.out HG.out HK.out nm HNM.out a n c (Frm.scanL z).1 HRC7.out (by
   have h1 := HRC7.out.ln
   have h2 := flat_low (Frm.scanL z).1
   have := HFL.out
   omega) HFL.out HZB.out)
  rw [← HRS.out, ← HRR.out] at HLY
  obtain ⟨A', x⟩ := R
  clear HLO
  go_wp2_with fail
  refine HLY.out.mono ?_
  rintro e8 w8 ⟨rfl, g8, b8, k8⟩
  have HR8 := Lib.hid (show Rel (fun j => X j ∨ V j) B d m N A1 A' w8 from g8)
  have HB8 := Lib.hid (HB7.out.trans b8)
  have HRK8 := Lib.hid (HRK7.out.stay b8 fun j hj => k8 j (.inr hj))
  have HK8 := Lib.hid (HK7.out.trans (k8.less fun j hj => .inl hj))
  clear g8 b8 k8 HLY
  by_cases hx : x = 0
  ·
   subst hx
   have HE := Lib.hid (show RopR X B d m N nm A1 RS w (A', 0) (.returned (.tuple #[.pointer (some ⟨kb, 0, none⟩), .int .i64 0])) w8 from .inl ⟨rfl, kb, V, _, rfl, HR8.out, HRK8.out, HVN.out, HB8.out, HK8.out⟩)
   go_wp2_with fail
   go_ret2
   exact HE.out
  ·
   have hx0 : (x == 0) = false := by simp [hx]
   have hx1 : (x != 0) = true := by simp [hx]
   have HE := Lib.hid (show RopR X B d m N nm A1 RS w (A', x) (.returned (.tuple #[.pointer none, .int .i64 x])) w8 from .inr ⟨hx, rfl, HR8.out.less fun j hj => .inl hj, HB8.out, HK8.out⟩)
   go_wp2_with fail
   go_ret2
   exact HE.out
 ·
  have hcI : ¬ (U : Int) < (rn : Int) := by omega
  have HE := Lib.hid (show RopR X B d m N nm A1 RS w R (.returned (.tuple #[.pointer (some ⟨kb, 0, none⟩), .int .i64 0])) w7 from by
   rw [HLO.out, if_neg (by rw [← HU.out, HRZ.out]; exact hcut)]
   exact .inl ⟨rfl, kb, V, _, rfl, HR7.out, HRK7.out, HVN.out, HB7.out, HK7.out⟩)
  go_wp2_with fail
  go_ret2
  exact HE.out
theorem ropen_c {X : Nat → Prop} {B d m N k0 : Nat} {A1 A : Ad} {w : World} (h : Rel X B d m N A1 A w) (g : Gk k0 A) (hk0 : k0 ≤ 10000) (nm : ByteArray) (h1 : 1 ≤ nm.size) (h2 : nm.size ≤ 159) (hzl : ∀ z, lookF A.now nm = some z → z.length < 1048576) :
  Calls Tryz.prog 9 #[.pointer (some ⟨m, 0, none⟩), .string nm] w (RopR X B d m N nm A1 (recsA A nm) w (A.load nm)) := by
 cases hd : A.down with
 | true => exact ropen_down h nm h1 h2 hd
 | false =>
  cases hl : lookF A.now nm with
  | none => exact ropen_none h g hk0 nm h1 h2 hd hl
  | some z => exact ropen_some h g hk0 nm h1 h2 hd z hl (hzl z hl)
end Go.Proofs.YtihbgigledmliaaGreat

namespace Go.Proofs.YtihbgigledmliaaGreat
open Go.RowKit
set_option linter.unusedVariables false
/-- a disk's call leaves all blocks but its own and Z; what is new may be others' -/
theorem Rel.dx2 {X : Nat → Prop} {B d m N : Nat} {A1 A2 : Ad} {w : World} (h : Rel X B d m N A1 A2 w) : ∃ Y : Nat → Prop, Dx Y B d N A1 w ∧ (∀ j, X j → Y j) ∧ (∀ j, Y j → B ≤ j) ∧
  ∀ (Z X' Y' : Nat → Prop) (N' : Nat) (A1' : Ad) (w' : World), (∀ j, Z j → X j) → (∀ j, Y j → Y' j) → Dx Y' B d N' A1' w' → Below B w w' → (∀ j, Y j → ¬ Z j → w'.heap[j]? = w.heap[j]?) → (∀ j, X' j → X j ∨ (Y' j ∧ w.heap.size ≤ j)) → Rel X' B d m N' A1' A2 w' := by
 obtain ⟨S, lv, h1, h2, h3, h4⟩ := h.ex
 have hbw : B ≤ w.heap.size := by have := h1.base; have := h1.lt; omega
 refine ⟨fun j => B ≤ j ∧ j < w.heap.size ∧ ¬ S.own d j, ⟨⟨S, h1, h2, fun j hj => hj.2.2⟩, fun j hj => hj.2.1⟩, fun j hj => ⟨(h.lt j hj).1, (h.lt j hj).2, h4 j hj⟩, fun j hj => hj.1, ?_⟩
 rintro Z X' Y' N' A1' w' hZ hYY ⟨⟨S', k1, k2, k3⟩, hlt'⟩ hb hk hX'
 refine ⟨⟨S', lv, k1, k2, h3.sta ⟨hb.size, fun k hk1 hn => ?_⟩ (fun j hj => ?_), fun j hj ho => ?_⟩, fun j hj => ?_⟩
 ·
  by_cases hB : k < B
  ·
   exact hb.block k hB
  ·
   exact hk k ⟨by omega, hk1, fun ho => hn (.inl ho)⟩ fun hz => hn (.inr (hZ k hz))
 ·
  rcases hj with hj | hj
  ·
   by_cases hw : w.heap.size ≤ j
   ·
    exact .inr hw
   ·
    refine .inl (.inl ?_)
    by_cases ho : S.own d j
    ·
     exact ho
    ·
     exact absurd hj (k3 j (hYY j ⟨(k1.ownLt hj).1, by omega, ho⟩))
  ·
   rcases hX' j hj with h9 | h9
   ·
    exact .inl (.inr h9)
   ·
    exact .inr h9.2
 ·
  rcases hX' j hj with h9 | h9
  ·
   exact k3 j (hYY j ⟨(h.lt j h9).1, (h.lt j h9).2, h4 j h9⟩) ho
  ·
   exact k3 j h9.1 ho
 ·
  rcases hX' j hj with h9 | h9
  ·
   exact ⟨(h.lt j h9).1, Nat.lt_of_lt_of_le (h.lt j h9).2 hb.size⟩
  ·
   exact ⟨by omega, hlt' j h9.1⟩
/-- both journals -/
structure Js (X V : Nat → Prop) (B d m jb kb N : Nat) (nm : ByteArray) (A1 A2 : Ad) (sz : Nat) (rv : Value) (ps : List (List Nat)) (w : World) : Prop where
 rel : Rel X B d m N A1 A2 w
 xj : X jb
 nj : ¬ V jb
 rj : w.heap[jb]? = some (.cells #[.pointer (some ⟨d, 0, none⟩), .string nm, .int .i64 (sz : Int)] 88 (0, 0))
 rk : Rk V B m kb nm rv ps w
 vx : ∀ j, V j → X j
theorem Js.below {X V : Nat → Prop} {B d m jb kb N : Nat} {nm : ByteArray} {A1 A2 : Ad} {sz : Nat} {rv : Value} {ps : List (List Nat)} {w w' : World} (h : Js X V B d m jb kb N nm A1 A2 sz rv ps w) (hb : Below w.heap.size w w') : Js X V B d m jb kb N nm A1 A2 sz rv ps w' :=
 ⟨h.rel.below hb, h.xj, h.nj, (hb.block jb (h.rel.lt jb h.xj).2).trans h.rj, h.rk.below hb, h.vx⟩
theorem Js.mono {X V : Nat → Prop} {B d m jb kb N M : Nat} {nm : ByteArray} {A1 A2 : Ad} {sz : Nat} {rv : Value} {ps : List (List Nat)} {w : World} (h : Js X V B d m jb kb N nm A1 A2 sz rv ps w) (hM : N ≤ M) : Js X V B d m jb kb M nm A1 A2 sz rv ps w := ⟨h.rel.mono hM, h.xj, h.nj, h.rj, h.rk, h.vx⟩
/-- a block more that is others' -/
theorem Js.with {X V : Nat → Prop} {B d m jb kb N : Nat} {nm : ByteArray} {A1 A2 : Ad} {sz : Nat} {rv : Value} {ps : List (List Nat)} {w w' : World} (h : Js X V B d m jb kb N nm A1 A2 sz rv ps w) (hb : Below w.heap.size w w') (hB : B ≤ w.heap.size) (x : Nat) (h1 : w.heap.size ≤ x) (h2 : x < w'.heap.size) : Js (fun j => X j ∨ j = x) V B d m jb kb N nm A1 A2 sz rv ps w' :=
 ⟨h.rel.with hb hB _ fun j e => by subst e; exact ⟨h1, h2⟩, .inl h.xj, h.nj, (hb.block jb (h.rel.lt jb h.xj).2).trans h.rj, h.rk.below hb, fun j hj => .inl (h.vx j hj)⟩
theorem Js.jn {X V Y : Nat → Prop} {B d m jb kb N : Nat} {nm : ByteArray} {A1 A2 : Ad} {sz : Nat} {rv : Value} {ps : List (List Nat)} {w : World} (h : Js X V B d m jb kb N nm A1 A2 sz rv ps w) (hd : Dx Y B d N A1 w) (hY : ∀ j, X j → Y j) : Jn Y B d jb nm (sz : Int) N A1 w := ⟨hd, hY jb h.xj, (h.rel.lt jb h.xj).1, h.rj⟩
/-- what a call of the program's journal leaves -/
def PjR (X V : Nat → Prop) (B d m jb kb N : Nat) (nm : ByteArray) (A2 : Ad) (sz0 sz1 : Nat) (rv : Value) (ps : List (List Nat)) (w : World) (r : Ad × Int) (e : Ending) (w' : World) : Prop :=
 e = .returned (.int .i64 r.2) ∧ Js X V B d m jb kb N nm r.1 A2 (if r.2 = 0 then sz1 else sz0) rv ps w' ∧ Below B w w' ∧ ∀ j, X j → j ≠ jb → w'.heap[j]? = w.heap[j]?
theorem Js.after {X V : Nat → Prop} {B d m jb kb N N' : Nat} {nm : ByteArray} {A1 A1' A2 : Ad} {sz sz' : Nat} {rv : Value} {ps : List (List Nat)} {w w' : World} (h : Js X V B d m jb kb N nm A1 A2 sz rv ps w) (hrel : Rel X B d m N' A1' A2 w') (hj : w'.heap[jb]? = some (.cells #[.pointer (some ⟨d, 0, none⟩), .string nm, .int .i64 (sz' : Int)] 88 (0, 0))) (hb : Below B w w') (hk : ∀ j, X j → j ≠ jb → w'.heap[j]? = w.heap[j]?) : Js X V B d m jb kb N' nm A1' A2 sz' rv ps w' :=
 ⟨hrel, h.xj, h.nj, hj, h.rk.stay hb fun j hj => hk j (h.vx j hj) fun e => h.nj (by rw [← e]; exact hj), h.vx⟩
theorem papp_c {X V : Nat → Prop} {B d m jb kb N : Nat} {nm : ByteArray} {A1 A2 : Ad} {sz : Nat} {rv : Value} {ps : List (List Nat)} {w : World} (h : Js X V B d m jb kb N nm A1 A2 sz rv ps w) (hN : N < 100000000) (hn : nm.size ≤ 1000) (hsz : sz ≤ 1000000000000) (pa : Option Addr) (pn pc : Nat) (p : List Nat) (hr : Rd w pa pn p) (hnil : pa = none → pc = 0) (hpn : pn ≤ 1048568) :
  Calls Tryz.prog 11 #[.pointer (some ⟨jb, 0, none⟩), .slice pa pn pc] w (PjR X V B d m jb kb (N + 3) nm A2 sz (sz + (8 + pn)) rv ps w (A1.step ⟨1, nm, ⟨#[]⟩, Frm.frameL p⟩)) := by
 obtain ⟨Y, d1, d2, d3, d4⟩ := h.rel.dx2
 refine (jappend_c (h.jn d1 d2) hN hn hsz pa pn pc p hr hnil hpn).mono ?_
 rintro e w' ⟨rfl, k1, k2, k3⟩
 refine ⟨rfl, ?_, k2, fun j hj hne => k3 j (d2 j hj) hne⟩
 refine h.after (d4 (fun j => j = jb) X Y _ _ _ (fun j e => by rw [e]; exact h.xj) (fun j hj => hj) k1.dx k2 (fun j hj hn => k3 j hj hn) fun j hj => .inl hj) ?_ k2 fun j hj hne => k3 j (d2 j hj) hne
 exact k1.row
theorem prw_c {X V : Nat → Prop} {B d m jb kb N : Nat} {nm : ByteArray} {A1 A2 : Ad} {sz : Nat} {rv : Value} {ps : List (List Nat)} {w : World} (h : Js X V B d m jb kb N nm A1 A2 sz rv ps w) (hN : N < 100000000) (hn : nm.size ≤ 1000) (ra : Option Addr) (rn rc : Nat) (qs : List (List Nat)) (hr : Rcd (fun _ => False) B w ra rn qs) (hrn : rn ≤ 1000000) (hfl : (Frm.flatF qs).length < 1048576) (hpb : ∀ p ∈ qs, ∀ z ∈ p, z < 256) :
  Calls Tryz.prog 15 #[.pointer (some ⟨jb, 0, none⟩), .slice ra rn rc] w (PjR X V B d m jb kb (N + 24) nm A2 sz (Frm.flatF qs).length rv ps w (A1.rw nm (spJ nm) (Frm.flatF qs))) := by
 obtain ⟨Y, d1, d2, d3, d4⟩ := h.rel.dx2
 refine (jRewrite_c (h.jn d1 d2) hN hn ra rn rc qs (hr.more fun j e => e.elim) hrn hfl hpb).mono ?_
 rintro e w' ⟨rfl, k1, k2, k3⟩
 refine ⟨rfl, ?_, k2, fun j hj hne => k3 j (d2 j hj) hne⟩
 refine h.after (d4 (fun j => j = jb) X Y _ _ _ (fun j e => by rw [e]; exact h.xj) (fun j hj => hj) k1.dx k2 (fun j hj hn => k3 j hj hn) fun j hj => .inl hj) ?_ k2 fun j hj hne => k3 j (d2 j hj) hne
 rw [k1.row]
 by_cases h0 : (A1.rw nm (spJ nm) (Frm.flatF qs)).2 = 0
 ·
  rw [if_pos h0, if_pos h0]
 ·
  rw [if_neg h0, if_neg h0]
theorem psync_c {X V : Nat → Prop} {B d m jb kb N : Nat} {nm : ByteArray} {A1 A2 : Ad} {sz : Nat} {rv : Value} {ps : List (List Nat)} {w : World} (h : Js X V B d m jb kb N nm A1 A2 sz rv ps w) :
  Calls Tryz.prog 13 #[.pointer (some ⟨jb, 0, none⟩)] w (PjR X V B d m jb kb (N + 3) nm A2 sz sz rv ps w A1.sync) := by
 obtain ⟨Y, d1, d2, d3, d4⟩ := h.rel.dx2
 refine (jsync_c (h.jn d1 d2)).mono ?_
 rintro e w' ⟨rfl, k1, k2, k3⟩
 refine ⟨rfl, ?_, k2, fun j hj hne => k3 j (d2 j hj)⟩
 refine h.after (d4 (fun _ => False) X Y _ _ _ (fun j e => e.elim) (fun j hj => hj) k1.dx k2 (fun j hj hn => k3 j hj) fun j hj => .inl hj) ?_ k2 fun j hj hne => k3 j (d2 j hj)
 rw [k1.row]
 split <;> rfl
/-- what a call of the document's journal leaves -/
def DjR (X V : Nat → Prop) (B d m jb kb N : Nat) (nm : ByteArray) (A1 : Ad) (sz : Nat) (ps qs : List (List Nat)) (w : World) (r : Ad × Int) (e : Ending) (w' : World) : Prop :=
 e = .returned (.int .i64 r.2) ∧ ∃ (X' V' : Nat → Prop) (rv : Value), Js X' V' B d m jb kb N nm A1 r.1 sz rv (if r.2 = 0 then qs else ps) w' ∧ (∀ j, X j → X' j) ∧ Below B w w' ∧ ∀ j, X j → ¬ V j → w'.heap[j]? = w.heap[j]?
theorem Js.pushed {X V : Nat → Prop} {B d m jb kb N : Nat} {nm : ByteArray} {A1 A2 A2' : Ad} {sz : Nat} {rv : Value} {ps qs : List (List Nat)} {w w' : World} (h : Js X V B d m jb kb N nm A1 A2 sz rv ps w) (k : PushR X V B d m kb N nm A1 A2' qs w w') : ∃ (X' V' : Nat → Prop) (rv : Value), Js X' V' B d m jb kb N nm A1 A2' sz rv qs w' ∧ (∀ j, X j → X' j) ∧ Below B w w' ∧ ∀ j, X j → ¬ V j → w'.heap[j]? = w.heap[j]? := by
 obtain ⟨X', V', rv', k1, k2, k3, k4, k5, k6, k7, k8⟩ := k
 refine ⟨X', V', rv', ⟨k1, k3 jb h.xj, fun e => ?_, (k8 jb h.xj h.nj).trans h.rj, k2, k5⟩, k3, k7, k8⟩
 rcases k6 jb e with h9 | h9
 ·
  exact h.nj h9
 ·
  have := (h.rel.lt jb h.xj).2; omega
theorem dapp_c {X V : Nat → Prop} {B d m jb kb N k0 : Nat} {nm : ByteArray} {A1 A : Ad} {sz : Nat} {rv : Value} {ps : List (List Nat)} {w : World} (h : Js X V B d m jb kb N nm A1 A sz rv ps w) (g : Gk k0 A) (hk0 : k0 ≤ 10000) (hn : nm.size ≤ 1000) (hps : ps.length ≤ 1000000) (pa : Option Addr) (pn pc : Nat) (p : List Nat) (hp : Rd w pa pn p) (hlow : ∀ b o s, pa = some ⟨b, o, s⟩ → pn ≠ 0 → b < B) (hnil : pa = none → pc = 0) (hpn : pn ≤ 1048568) :
  Calls Tryz.prog 12 #[.pointer (some ⟨kb, 0, none⟩), .slice pa pn pc] w (DjR X V B d m jb kb N nm A1 sz ps (ps ++ [p]) w (A.step ⟨1, nm, ⟨#[]⟩, Frm.frameL p⟩)) := by
 refine (rapp_c h.rel g hk0 h.rk h.vx hn hps pa pn pc p hp hlow hnil hpn).mono ?_
 rintro e w' ⟨rfl, k⟩
 exact ⟨rfl, h.pushed k⟩
theorem drw_c {X V : Nat → Prop} {B d m jb kb N k0 : Nat} {nm : ByteArray} {A1 A : Ad} {sz : Nat} {rv : Value} {ps : List (List Nat)} {w : World} (h : Js X V B d m jb kb N nm A1 A sz rv ps w) (g : Gk k0 A) (hk0 : k0 ≤ 10000) (hn : nm.size ≤ 1000) (ra : Option Addr) (rn rc : Nat) (qs : List (List Nat)) (hr : Rcd (fun _ => False) B w ra rn qs) (hrn : rn ≤ 1000000) (hfl : (Frm.flatF qs).length < 1048568) (hpb : ∀ p ∈ qs, ∀ z ∈ p, z < 256) :
  Calls Tryz.prog 16 #[.pointer (some ⟨kb, 0, none⟩), .slice ra rn rc] w (DjR X V B d m jb kb N nm A1 sz ps qs w (A.rw nm (spJ nm) (Frm.flatF qs))) := by
 refine (rrw_c h.rel g hk0 h.rk h.vx hn ra rn rc qs hr hrn hfl hpb).mono ?_
 rintro e w' ⟨rfl, k⟩
 exact ⟨rfl, h.pushed k⟩
theorem dsync_c {X V : Nat → Prop} {B d m jb kb N : Nat} {nm : ByteArray} {A1 A : Ad} {sz : Nat} {rv : Value} {ps : List (List Nat)} {w : World} (h : Js X V B d m jb kb N nm A1 A sz rv ps w) (g : Gs A) :
  Calls Tryz.prog 14 #[.pointer (some ⟨m, 0, none⟩)] w (DjR X V B d m jb kb N nm A1 sz ps ps w A.sync) := by
 refine (h.rel.syncS g).mono ?_
 rintro e w' ⟨rfl, k1, k2, k3⟩
 refine ⟨rfl, X, V, rv, ⟨k1, h.xj, h.nj, (k3 jb h.xj).trans h.rj, ?_, h.vx⟩, fun _ hj => hj, k2, fun j hj _ => k3 j hj⟩
 have := h.rk.stay k2 fun j hj => k3 j (h.vx j hj)
 split <;> exact this
/-- what the program's Open leaves -/
def PopR (X : Nat → Prop) (B d m N : Nat) (nm : ByteArray) (A2 : Ad) (sz : Nat) (rs : List (List Nat)) (w : World) (r : Ad × Int) (e : Ending) (w' : World) : Prop :=
 (r.2 = 0 ∧ ∃ (jb : Nat) (E : Nat → Prop) (a : Option Addr) (n c : Nat), e = .returned (.tuple #[.pointer (some ⟨jb, 0, none⟩), .slice a n c, .int .i64 0]) ∧ Rel (fun j => X j ∨ E j) B d m N r.1 A2 w' ∧ E jb ∧ (∀ j, E j → w.heap.size ≤ j) ∧ w'.heap[jb]? = some (.cells #[.pointer (some ⟨d, 0, none⟩), .string nm, .int .i64 (sz : Int)] 88 (0, 0)) ∧ Rcd E B w' a n rs ∧ n ≤ c ∧ c ≤ 9223372036854775807 ∧ Below B w w' ∧ KpX X w w') ∨
 (r.2 ≠ 0 ∧ e = .returned (.tuple #[.pointer none, .slice none 0 0, .int .i64 r.2]) ∧ Rel X B d m N r.1 A2 w' ∧ Below B w w' ∧ KpX X w w')
theorem popen_c {X : Nat → Prop} {B d m N : Nat} {A1 A2 : Ad} {w : World} (h : Rel X B d m N A1 A2 w) (hN : N < 100000000) (nm : ByteArray) (h1 : 1 ≤ nm.size) (h2 : nm.size ≤ 159) (hzl : ∀ z, lookF A1.now nm = some z → z.length < 1048576) :
  Calls Tryz.prog 8 #[.pointer (some ⟨d, 0, none⟩), .string nm] w (PopR X B d m (N + 24) nm A2 (usedA A1 nm) (recsA A1 nm) w (A1.load nm)) := by
 obtain ⟨Y, d1, d2, d3, d4⟩ := h.dx2
 refine (jopen_c d1 hN nm h1 h2 hzl).mono ?_
 rintro e w' ⟨Y', jb, a, n, c, hres, y1, y2, y3, y4, y0, y5, y6, y7, y8, y9⟩
 rcases hres with ⟨hr, rfl⟩ | ⟨hr, rfl⟩
 ·
  refine .inl ⟨hr, jb, fun j => Y' j ∧ w.heap.size ≤ j, a, n, c, rfl, ?_, ⟨y3.xj, y7⟩, fun j hj => hj.2, y3.row, y4, y5, y6, y8, fun j hj => y9 j (d2 j hj)⟩
  exact d4 (fun _ => False) _ Y' _ _ _ (fun j e => e.elim) y1 y3.dx y8 (fun j hj _ => y9 j hj) fun j hj => hj
 ·
  refine .inr ⟨hr, rfl, ?_, y8, fun j hj => y9 j (d2 j hj)⟩
  exact d4 (fun _ => False) X Y' _ _ _ (fun j e => e.elim) y1 y3.dx y8 (fun j hj _ => y9 j hj) fun j hj => .inl hj
theorem RowRd.of {X : Nat → Prop} {B : Nat} {w : World} {a : Option Addr} {n : Nat} {ps : List (List Nat)} (h : Rcd X B w a n ps) : RowRd w a n ps := by
 refine ⟨h.ln, ?_⟩
 by_cases h0 : n = 0
 ·
  exact .inl h0
 ·
  obtain ⟨b, o, pa, pc, rfl, -⟩ := h.rc 0 (ps[0]'(by rw [h.ln]; omega)) (List.getElem?_eq_getElem _)
  refine .inr ⟨b, o, rfl, fun i p hp => ?_⟩
  obtain ⟨b', o', pa', pc', e, -, -, hc, hrd, -, -, hpc, hpm⟩ := h.rc i p hp
  cases e
  exact ⟨pa', p.length, pc', hc, hrd, by omega⟩
end Go.Proofs.YtihbgigledmliaaGreat

namespace Go.Proofs.YtihbgigledmliaaGreat
open Go.RowKit
set_option linter.unusedVariables false
theorem convJ1 (w : World) : (convert 38 38 (.slice (some ⟨w.heap.size, 0, none⟩) 1 1)).run Tryz.prog (w.alloc (.cells #[.int .u8 97] 5)) = .ok (.slice (some ⟨w.heap.size, 0, none⟩) 1 1) (w.alloc (.cells #[.int .u8 97] 5 (1, 2))) :=
 Lib.run_convert_bytes_const (P := Tryz.prog) w 38 5 #[.int .u8 97] 1 1 Tryz.underlying38 Tryz.underlying5
def nmw : ByteArray := ⟨#[106]⟩
def awJ0 : Ad := ⟨100, -1, false, [], [], []⟩
def awJ1 : Ad := (Ad.load awJ0 nmw).1
def awJ2 : Ad := (awJ1.step ⟨1, nmw, ⟨#[]⟩, Frm.frameL [97]⟩).1
def awJ3 : Ad := awJ2.sync.1
theorem awj1 : (Ad.load awJ0 nmw).2 = 0 := by rfl
theorem awj2 : (awJ1.step ⟨1, nmw, ⟨#[]⟩, Frm.frameL [97]⟩).2 = 0 := by decide +kernel
theorem awj3 : awJ2.sync.2 = 0 := by decide +kernel
theorem awj4 : awJ3.down = false ∧ lookF awJ3.now nmw = some (Frm.frameL [97]) := by decide +kernel
theorem awj5 : Frm.scanL (Frm.frameL [97]) = ([[97]], 9) := by
 have h1 : Frm.firstL (Frm.frameL [97]) = some [97] := by decide +kernel
 rw [Frm.scan_some h1]
 have h2 : (Frm.frameL [97]).drop (8 + [97].length) = [] := by decide +kernel
 rw [h2, Frm.scan_none (Frm.first_short (by simp))]
 rfl
theorem awj6 : recsA awJ3 nmw = [[97]] ∧ usedA awJ3 nmw = 9 ∧ (Ad.load awJ3 nmw).2 = 0 := by
 have h1 := awj4.1
 have h2 := awj4.2
 refine ⟨?_, ?_, ?_⟩
 ·
  unfold recsA; rw [h1, h2]; simp only [Bool.false_eq_true, if_false]; rw [awj5]
 ·
  unfold usedA; rw [h1, h2]; simp only [Bool.false_eq_true, if_false]; rw [awj5]
 ·
  unfold Ad.load; rw [h1, h2]; simp only [Bool.false_eq_true, if_false]; rw [awj5, if_neg (by decide +kernel)]
set_option maxRecDepth 100000 in
set_option maxHeartbeats 8000000 in
theorem awake10_c (w : World) : Calls Tryz.prog 5 #[] w fun e w' => e = .returned (.bool true) ∧ Below w.heap.size w w' := by
 have HD := Lib.hid (dnew_c 100 w (by omega) (by omega))
 go_enter Tryz.func5, Tryz.ntmps5
 go_wp2_with fail
 refine HD.out.mono ?_
 rintro e1 w1 ⟨rfl, hk1, hb1⟩
 obtain ⟨d, hd⟩ : ∃ d, d = w.heap.size := ⟨_, rfl⟩
 have hdx1 : Dx (fun _ => False) w.heap.size d 0 awJ0 w1 := ⟨⟨newS 100, by rw [hd]; exact hk1, anewS 100 (by omega) (by omega), fun j hj => hj.elim⟩, fun j hj => hj.elim⟩
 rw [← hd]
 have HOP := Lib.hid (jopen_c hdx1 (by omega) nmw (by decide) (by decide) (fun z hz => by cases hz))
 have HB1 := Lib.hid hb1
 clear hk1 hb1 hdx1 HD hd
 go_wp2_with fail
 refine HOP.out.mono ?_
 rintro e2 w2 ⟨Y, jb, a, n, c, hres, y1, y2, y3, y4, y0, y5, y6, y7, y8, y9⟩
 obtain ⟨-, rfl⟩ := hres.resolve_right (fun h => h.1 awj1)
 have hn0 : n = 0 := by
  have h1 := y4.ln
  rw [show recsA awJ0 nmw = [] from rfl] at h1
  exact h1.symm
 subst hn0
 have HB2 := Lib.hid (HB1.out.trans y8)
 have HJ2 := Lib.hid (show Jn Y w.heap.size d jb nmw ((0 : Nat) : Int) 24 awJ1 w2 from y3)
 have kc := convJ1 w2
 obtain ⟨w3, hw3⟩ : ∃ w3, w3 = w2.alloc (.cells #[.int .u8 97] 5 (1, 2)) := ⟨_, rfl⟩
 obtain ⟨gb, hgb⟩ : ∃ gb, gb = w2.heap.size := ⟨_, rfl⟩
 have hc3 : w3.heap[gb]? = some (.cells #[.int .u8 97] 5 (1, 2)) := by rw [hw3, hgb]; exact heap_alloc_new w2 _
 have hrd3 : Rd w3 (some ⟨gb, 0, none⟩) 1 [97] := ⟨rfl, by decide, .inr ⟨gb, 0, rfl, by rw [hw3, hgb]; simp, fun i hi => by
  rw [Nat.zero_add, cell_of_row w3 gb i _ _ _ hc3]
  match i, hi with
  | 0, _ => rfl⟩⟩
 have hb3 : Below w2.heap.size w2 w3 := by rw [hw3]; exact (Below.refl _ _).alloc (Nat.le_refl _) _
 have HJ3 := Lib.hid (HJ2.out.below hb3)
 have HB3 := Lib.hid (HB2.out.trans (hb3.mono HB2.out.size))
 have HAP := Lib.hid (jappend_c HJ3.out (by omega) (by decide) (by omega) (some ⟨gb, 0, none⟩) 1 1 [97] hrd3 (fun e => by cases e) (by omega))
 have ha2 := awj2
 obtain ⟨r2, hr2⟩ : ∃ r, awJ1.step ⟨1, nmw, ⟨#[]⟩, Frm.frameL [97]⟩ = r := ⟨_, rfl⟩
 have hA2 : r2.1 = awJ2 := by rw [← hr2]; rfl
 rw [hr2] at HAP ha2
 obtain ⟨A2, x2⟩ := r2
 simp only at ha2 hA2
 subst ha2
 subst hA2
 clear y1 y2 y3 y4 y0 y5 y6 y7 y8 y9 hres HOP hc3 hrd3 hb3 hr2
 go_wp2_with fail
 (try rw [← hgb])
 (try rw [← hw3])
 clear hw3 kc hgb
 refine HAP.out.mono ?_
 rintro e4 w4 ⟨rfl, g1, g2, g3⟩
 have HJ4 := Lib.hid (show Jn Y w.heap.size d jb nmw ((9 : Nat) : Int) 27 awJ2 w4 from g1)
 have HB4 := Lib.hid (HB3.out.trans g2)
 have hsy := jsync_c HJ4.out
 have ha3 := awj3
 obtain ⟨r3, hr3⟩ : ∃ r, awJ2.sync = r := ⟨_, rfl⟩
 have hA3 : r3.1 = awJ3 := by rw [← hr3]; rfl
 rw [hr3] at hsy ha3
 obtain ⟨A3, x3⟩ := r3
 simp only at ha3 hA3
 subst ha3
 subst hA3
 have HSY := Lib.hid hsy
 clear g1 g2 g3 HAP hsy hr3
 go_wp2_with fail
 refine HSY.out.mono ?_
 rintro e5 w5 ⟨rfl, g1, g2, g3⟩
 have HJ5 := Lib.hid (show Jn Y w.heap.size d jb nmw ((9 : Nat) : Int) 30 awJ3 w5 from g1)
 have HB5 := Lib.hid (HB4.out.trans g2)
 have hop := jopen_c HJ5.out.dx (by omega) nmw (by decide) (by decide) (fun z hz => by
  rw [awj4.2] at hz
  cases hz
  decide +kernel)
 have ha6 := awj6.2.2
 rw [awj6.1, awj6.2.1] at hop
 obtain ⟨r6, hr6⟩ : ∃ r, Ad.load awJ3 nmw = r := ⟨_, rfl⟩
 rw [hr6] at hop ha6
 obtain ⟨A6, x6⟩ := r6
 simp only at ha6
 subst ha6
 have HOP := Lib.hid hop
 clear g1 g2 g3 HSY hop hr6
 go_wp2_with fail
 refine HOP.out.mono ?_
 rintro e6 w6 ⟨Z, jb2, a2, n2, c2, hres, y1, y2, y3, y4, y0, y5, y6, y7, y8, y9⟩
 obtain ⟨-, rfl⟩ := hres.resolve_right (fun h => h.1 rfl)
 have hn1 : n2 = 1 := y4.ln.symm
 subst hn1
 obtain ⟨b, o, pa, pc, rfl, -, -, hcell, hrd, -⟩ := y4.rc 0 [97] rfl
 have hcell' : w6.cell? ⟨b, o, none⟩ = some (.slice pa 1 pc) := hcell
 have hst := run_str (w := w6) (ad := pa) (len := 1) (cap := pc) (zs := [97]) hrd
 rw [show str [97] = ⟨#[97]⟩ by decide] at hst
 have z2 : w6.cell? ⟨jb, 2, none⟩ = some (.int .i64 9) := (World.cell?_of_block (y9 jb HJ5.out.xj)).trans HJ5.out.cells.2.2
 have kI := fun W => run_bidx W b o 1 c2 0 (by omega)
 have HB6 := Lib.hid (HB5.out.trans y8)
 have HSZ := Lib.hid (show ∀ W : World, W.cell? ⟨jb, 2, none⟩ = some (.int .i64 9) → Calls Tryz.prog 20 #[.pointer (some ⟨jb, 0, none⟩)] W fun e w' => e = .returned (.int .i64 9) ∧ w' = W from fun W h2 => by
  clear hst hcell hcell' hrd kI z2
  go_enter Tryz.func20, Tryz.ntmps20
  go_wp2_with fail
  go_ret
  exact ⟨rfl, rfl⟩)
 have HS6 := Lib.hid (HSZ.out w6 z2)
 clear y1 y2 y3 y4 y0 y5 y6 y7 y8 y9 hres HOP hcell hrd HSZ
 go_wp2_with fail
 refine HS6.out.mono ?_
 rintro e7 w7 ⟨rfl, e8⟩
 subst w7
 go_wp2_with fail
 go_ret
 exact ⟨rfl, HB6.out⟩
end Go.Proofs.YtihbgigledmliaaGreat

namespace Go.Proofs.YtihbgigledmliaaGreat
open Go.RowKit
set_option linter.unusedVariables false
theorem modNJ (x : Int) (m : Nat) (h0 : 0 < m) (h1 : m ≤ 5000) : ∃ k : Nat, k < m ∧ wrap64 (Int.tmod (IntKind.u64.wrap x) (m : Int)) = (k : Int) := by
 have e : IntKind.u64.wrap x = x % 18446744073709551616 := by simp [IntKind.wrap, IntKind.bits, IntKind.signed]
 have n0 : 0 ≤ x % 18446744073709551616 := by omega
 rw [e, Int.tmod_eq_emod_of_nonneg n0]
 obtain ⟨y, hy⟩ : ∃ y, y = x % 18446744073709551616 := ⟨_, rfl⟩
 rw [← hy] at n0 ⊢
 have m0 : (0 : Int) < (m : Int) := by omega
 have p0 := Int.emod_nonneg y (show (m : Int) ≠ 0 by omega)
 have p1 := Int.emod_lt_of_pos y m0
 refine ⟨(y % (m : Int)).toNat, by omega, ?_⟩
 rw [wrap64_id (by omega) (by omega)]
 omega
/-- how many files and changes -/
def Lb (k : Nat) (A : Ad) : Prop := A.now.length ≤ k ∧ A.sure.length + A.loose.length ≤ k
theorem Lb.bnd {k : Nat} {A : Ad} (h : Lb k A) : Bnd k A := h.2
theorem Lb.mono {k j : Nat} {A : Ad} (h : Lb k A) (hk : k ≤ j) : Lb j A := ⟨Nat.le_trans h.1 hk, Nat.le_trans h.2 hk⟩
theorem Lb.of {k : Nat} {A : Ad} (h : Bnd k A) (g : Gd A) : Lb k A := ⟨g.now h, h⟩
theorem Lb.gk {k : Nat} {A : Ad} (h : Lb k A) (g : Gd A) : Gk k A := ⟨g.gs, h.1, by have := h.2; omega⟩
/-- what a step of a journal keeps -/
def Kp4 (f : Ad → Ad × Int) : Prop := ∀ k A, Rp 4000 A → Lb k A → Rp 4000 (f A).1 ∧ Lb (k + 1) (f A).1
theorem kp4_step (c : DCh) : Kp4 fun A => A.step c := fun k A h1 h2 => ⟨h1.step c, by
 obtain ⟨a, b⟩ := h2
 show Lb (k + 1) (A.step c).1
 unfold Ad.step
 split
 ·
  exact ⟨Nat.le_succ_of_le a, Nat.le_succ_of_le b⟩
 ·
  split
  ·
   exact ⟨Nat.le_succ_of_le a, Nat.le_succ_of_le b⟩
  ·
   split
   ·
    exact ⟨Nat.le_succ_of_le a, Nat.le_succ_of_le b⟩
   ·
    refine ⟨?_, ?_⟩
    ·
     show (doF A.now c).length ≤ k + 1
     have := length_doF A.now c
     omega
    ·
     show A.sure.length + (A.loose ++ [c]).length ≤ k + 1
     rw [List.length_append, List.length_singleton]
     omega⟩
theorem kp4_sync : Kp4 Ad.sync := fun k A h1 h2 => ⟨h1.sync, by
 obtain ⟨a, b⟩ := h2
 unfold Ad.sync
 split
 ·
  exact ⟨Nat.le_succ_of_le a, Nat.le_succ_of_le b⟩
 ·
  split
  ·
   exact ⟨Nat.le_succ_of_le a, Nat.le_succ_of_le b⟩
  ·
   refine ⟨Nat.le_succ_of_le a, ?_⟩
   show A.now.length + 0 ≤ k + 1
   omega⟩
theorem kp4_rm (s : ByteArray) : Kp4 (rmA s) := fun k A h1 h2 => kp4_step ⟨2, s, ⟨#[]⟩, []⟩ k A h1 h2
theorem kp4_mk (s : ByteArray) : Kp4 (mkA s) := kp4_step ⟨0, s, ⟨#[]⟩, []⟩
theorem kp4_mv (s t : ByteArray) : Kp4 (mvA s t) := kp4_step ⟨3, s, t, []⟩
theorem kp4_ap (s : ByteArray) (z : List Nat) : Kp4 (apF s z) := fun k A h1 h2 => by
 unfold apF
 split
 ·
  exact ⟨h1, h2.mono (by omega)⟩
 ·
  exact kp4_step ⟨1, s, ⟨#[]⟩, z⟩ k A h1 h2
theorem kp4_run : ∀ (fs : List (Ad → Ad × Int)) (k : Nat) (A : Ad), (∀ f ∈ fs, Kp4 f) → Rp 4000 A → Lb k A → Rp 4000 (runA fs A).1 ∧ Lb (k + fs.length) (runA fs A).1
 | [], k, A, _, h1, h2 => ⟨h1, h2⟩
 | f :: fs, k, A, hf, h1, h2 => by
  obtain ⟨a, b⟩ := hf f List.mem_cons_self k A h1 h2
  unfold runA
  split
  ·
   exact ⟨a, b.mono (by rw [List.length_cons]; omega)⟩
  ·
   obtain ⟨c, e⟩ := kp4_run fs (k + 1) _ (fun g hg => hf g (List.mem_cons_of_mem _ hg)) a b
   exact ⟨c, e.mono (by rw [List.length_cons]; omega)⟩
theorem kp4_rw {k : Nat} {A : Ad} (nm sp : ByteArray) (z : List Nat) (h1 : Rp 4000 A) (h2 : Lb k A) : Rp 4000 (A.rw nm sp z).1 ∧ Lb (k + 8) (A.rw nm sp z).1 := by
 have h3 := kp4_run (rwS nm sp z) k A (fun f hf => by
  unfold rwS at hf
  simp only [List.mem_cons, List.not_mem_nil, or_false] at hf
  rcases hf with rfl | rfl | rfl | rfl | rfl | rfl
  ·
   exact kp4_rm sp
  ·
   exact kp4_mk sp
  ·
   exact kp4_ap sp z
  ·
   exact kp4_sync
  ·
   exact kp4_mv sp nm
  ·
   exact kp4_sync) h1 h2
 unfold Ad.rw rwE
 split
 ·
  have h4 := kp4_run [rmA sp, fun A => (A, 4)] (k + 6) (runA (rwS nm sp z) A).1 (fun f hf => by
   simp only [List.mem_cons, List.not_mem_nil, or_false] at hf
   rcases hf with rfl | rfl
   ·
    exact kp4_rm sp
   ·
    exact fun k A a b => ⟨a, b.mono (by omega)⟩) h3.1 h3.2
  exact h4
 ·
  exact ⟨h3.1, h3.2.mono (by show k + 6 ≤ k + 8; omega)⟩
theorem kp4_load {k : Nat} {A : Ad} (nm : ByteArray) (h1 : Rp 4000 A) (h2 : Lb k A) : Rp 4000 (A.load nm).1 ∧ Lb (k + 8) (A.load nm).1 := by
 unfold Ad.load
 split
 ·
  exact ⟨h1, h2.mono (by omega)⟩
 ·
  split
  ·
   have h3 := kp4_run [mkA nm, Ad.sync] k A (fun f hf => by
    simp only [List.mem_cons, List.not_mem_nil, or_false] at hf
    rcases hf with rfl | rfl
    ·
     exact kp4_mk nm
    ·
     exact kp4_sync) h1 h2
   exact ⟨h3.1, h3.2.mono (by show k + 2 ≤ k + 8; omega)⟩
  ·
   split
   ·
    exact kp4_rw _ _ _ h1 h2
   ·
    exact ⟨h1, h2.mono (by omega)⟩
theorem Rp.zl {A : Ad} (h : Rp 4000 A) (nm : ByteArray) : ∀ z, lookF A.now nm = some z → z.length < 1048576 := fun z hz => by have := h.look hz; omega
theorem usedA_flat (A : Ad) (nm : ByteArray) : usedA A nm = (Frm.flatF (recsA A nm)).length := by
 unfold usedA recsA
 split
 ·
  rfl
 ·
  split
  ·
   rfl
  ·
   rename_i z hz
   rw [scan_flat z.length z (Nat.le_refl _), List.length_take]
   have := Frm.scan_le z.length z (Nat.le_refl _)
   omega
theorem Rp.used_le {A : Ad} (h : Rp 4000 A) (nm : ByteArray) : usedA A nm ≤ 4000 := by
 unfold usedA
 split
 ·
  omega
 ·
  split
  ·
   omega
  ·
   rename_i z hz
   have := h.look hz
   have := Frm.scan_le z.length z (Nat.le_refl _)
   omega
set_option maxRecDepth 100000 in
theorem psize_c (jb d : Nat) (nm : ByteArray) (sz : Int) (w : World) (h : w.heap[jb]? = some (.cells #[.pointer (some ⟨d, 0, none⟩), .string nm, .int .i64 sz] 88 (0, 0))) :
  Calls Tryz.prog 20 #[.pointer (some ⟨jb, 0, none⟩)] w fun e w' => e = .returned (.int .i64 sz) ∧ w' = w := by
 have h2 : w.cell? ⟨jb, 2, none⟩ = some (.int .i64 sz) := (cell_of_row w jb 2 _ _ _ h).trans rfl
 clear h
 go_enter Tryz.func20, Tryz.ntmps20
 go_wp2_with fail
 go_ret
 exact ⟨rfl, rfl⟩
set_option maxRecDepth 100000 in
set_option maxHeartbeats 8000000 in
theorem popen_bad (nm : ByteArray) (d : Nat) (w : World) (hs : nm.size ≤ 1000) (h : nm.size = 0 ∨ 160 ≤ nm.size) :
  Calls Tryz.prog 8 #[.pointer (some ⟨d, 0, none⟩), .string nm] w fun e w' => e = .returned (.tuple #[.pointer none, .slice none 0 0, .int .i64 1]) ∧ w' = w := by
 have hss : (nm ++ ⟨#[43]⟩ : ByteArray).size = nm.size + 1 := by rw [ByteArray.size_append]; rfl
 have HI1 := Lib.hid (isname_c nm w (by unfold maxLen; omega))
 have HI2 := Lib.hid (isname_c (nm ++ ⟨#[43]⟩) w (by unfold maxLen; omega))
 have hadd : ¬ 9223372036854775807 < nm.size + 1 := by omega
 by_cases h1 : 1 ≤ nm.size ∧ nm.size ≤ 160
 ·
  have e1 : (decide (1 ≤ nm.size) && decide (nm.size ≤ 160)) = true := by simp; omega
  have e2 : (decide (1 ≤ (nm ++ ⟨#[43]⟩ : ByteArray).size) && decide ((nm ++ ⟨#[43]⟩ : ByteArray).size ≤ 160)) = false := by rw [hss]; simp; omega
  rw [e1] at HI1
  rw [e2] at HI2
  clear e1 e2 h h1 hss
  go_enter Tryz.func8, Tryz.ntmps8
  go_wp2_with fail
  refine HI1.out.mono ?_
  rintro e1 w1 ⟨rfl, e2⟩
  subst w1
  go_wp2_with fail
  refine HI2.out.mono ?_
  rintro e1 w1 ⟨rfl, e2⟩
  subst w1
  go_wp2_with fail
  go_ret3
  exact ⟨rfl, rfl⟩
 ·
  have e1 : (decide (1 ≤ nm.size) && decide (nm.size ≤ 160)) = false := by simp; omega
  rw [e1] at HI1
  clear e1 h h1 hss HI2
  go_enter Tryz.func8, Tryz.ntmps8
  go_wp2_with fail
  refine HI1.out.mono ?_
  rintro e1 w1 ⟨rfl, e2⟩
  subst w1
  go_wp2_with fail
  go_ret3
  exact ⟨rfl, rfl⟩
/-- both journals, or none -/
def JsO (w : World) (d m k K : Nat) (nm : ByteArray) (A : Ad) (jv kv : Value) (wr : World) : Prop :=
 (jv = .pointer none ∧ kv = .pointer none ∧ Rel (fun _ => False) w.heap.size d m (3 * K) A A wr) ∨
 ∃ (X V : Nat → Prop) (jb kb sz : Nat) (rv : Value) (ps : List (List Nat)), jv = .pointer (some ⟨jb, 0, none⟩) ∧ kv = .pointer (some ⟨kb, 0, none⟩) ∧ 1 ≤ nm.size ∧ nm.size ≤ 159 ∧ Js X V w.heap.size d m jb kb (3 * K) nm A A sz rv ps wr ∧ sz = (Frm.flatF ps).length ∧ sz ≤ 10000 * (k + 1)
/-- between two steps of a script -/
def PlJ (w : World) (d m k : Nat) (nm : ByteArray) (jv kv : Value) (wr : World) : Prop :=
 ∃ (A : Ad) (K : Nat), Rp 4000 A ∧ Lb K A ∧ K ≤ 12 * k + 12 ∧ Below w.heap.size w wr ∧ JsO w d m k K nm A jv kv wr
theorem JsO.rel {w : World} {d m k K : Nat} {nm : ByteArray} {A : Ad} {jv kv : Value} {wr : World} (h : JsO w d m k K nm A jv kv wr) : ∃ X, Rel X w.heap.size d m (3 * K) A A wr := by
 rcases h with ⟨_, _, h⟩ | ⟨X, V, jb, kb, sz, rv, ps, _, _, _, _, h, _⟩
 ·
  exact ⟨_, h⟩
 ·
  exact ⟨_, h.rel⟩
theorem Js.rekept {X V : Nat → Prop} {B d m jb kb N N' : Nat} {nm : ByteArray} {A1 A2 A1' A2' : Ad} {sz : Nat} {rv : Value} {ps : List (List Nat)} {w w' : World} (h : Js X V B d m jb kb N nm A1 A2 sz rv ps w) (hrel : Rel X B d m N' A1' A2' w') (hb : Below B w w') (hk : KpX X w w') : Js X V B d m jb kb N' nm A1' A2' sz rv ps w' :=
 ⟨hrel, h.xj, h.nj, (hk jb h.xj).trans h.rj, h.rk.stay hb fun j hj => hk j (h.vx j hj), h.vx⟩
theorem row_baseJ {w : World} {B B' : Nat} {e : TypeId} {size n : Nat} {v : Value} {xs : List Value} (h : w.ownsRow B e size v n xs) (hB : B' ≤ B) : w.ownsRow B' e size v n xs := by
 refine ⟨h.1, ?_⟩
 rcases h.2 with hn | ⟨g, cap, cur, h1, h2, r⟩
 ·
  exact .inl hn
 ·
  exact .inr ⟨g, cap, cur, h1, Nat.le_trans hB h2, r⟩
theorem DKr.base_leJ {B B' : Nat} {S : Dsk} {w : World} (h : DKr B S w) (hB : B' ≤ B) : DKr B' S w :=
 ⟨h.hm.imp id fun ⟨b, h1, h2, h3⟩ => ⟨b, h1, Nat.le_trans hB h2, h3⟩, fun b f hf => by
  obtain ⟨h1, h2, h3, h4⟩ := h.hf b f hf
  exact ⟨Nat.le_trans hB h1, h2, row_baseJ h3 hB, h4⟩, h.ha, h.hr, row_baseJ h.hl hB, h.hc⟩
theorem RDK.base_leJ {F : Nat → Prop} {B B' m : Nat} {lv : Value} {A : Ad} {w : World} (h : RDK F B m lv A w) (hB : B' ≤ B) : RDK F B' m lv A w := by
 obtain ⟨ps, h1, h2, h3⟩ := h.hl
 exact ⟨Nat.le_trans hB h.base, h.noF, h.hd, ps, h1, row_baseJ h2 hB, h3⟩
theorem DK.base_leJ {B B' d : Nat} {S : Dsk} {w : World} (h : DK B d S w) (hB : B' ≤ B) : DK B' d S w := ⟨Nat.le_trans hB h.base, h.hd, h.rest.base_leJ hB⟩
theorem first_ok (R : Nat) (nm : ByteArray) (h1 : 1 ≤ nm.size) (h2 : nm.size ≤ 159) : (Ad.load ⟨(R : Int), -1, false, [], [], []⟩ nm).2 = 0 := by
 have hi : isNm nm = true := by unfold isNm; simp; omega
 have hm : Ad.may ⟨(R : Int), -1, false, [], [], []⟩ ⟨0, nm, ⟨#[]⟩, []⟩ = 0 := by
  unfold Ad.may
  rw [if_pos rfl, hi]
  rfl
 have hs : mkA nm ⟨(R : Int), -1, false, [], [], []⟩ = (Ad.did ⟨(R : Int), -1, false, [], [], []⟩ ⟨0, nm, ⟨#[]⟩, []⟩, 0) := by
  unfold mkA Ad.step
  rw [hm]
  rfl
 unfold Ad.load
 rw [if_neg (by simp)]
 show (runA [mkA nm, Ad.sync] _).2 = 0
 rw [runA_ok hs]
 rfl
end Go.Proofs.YtihbgigledmliaaGreat

