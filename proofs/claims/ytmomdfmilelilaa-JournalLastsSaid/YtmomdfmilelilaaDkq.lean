/-
  A disk in memory is the document's: Create, Append, Remove, Rename, Sync.
-/
import Derived.Test.YtmomdfmilelilaaDkp
namespace Go.Proofs.Ytmomdfmilelilaa
open Go.RowKit Go.Maps
set_option linter.unusedVariables false
/-- the document's disk -/
structure Ad where
  room : Int
  fuse : Int
  down : Bool
  now : Fls
  sure : Fls
  loose : List DCh
def Ad.may (A : Ad) (c : DCh) : Int :=
  if c.kind = 0 then (if isNm c.a = false then 1 else if (lookF A.now c.a).isSome then 7 else if 4096 ≤ A.now.length then 4 else 0)
  else if (lookF A.now c.a).isNone then 6
  else if c.kind = 1 then (if 1048576 < c.p.length then 8 else if A.room - (usedF A.now : Int) < (c.p.length : Int) then 4 else 0)
  else if c.kind = 3 ∧ isNm c.b = false then 1 else 0
def Ad.off (A : Ad) : Ad := { A with down := true }
def Ad.spent (A : Ad) : Ad := { A with fuse := if 0 < A.fuse then A.fuse - 1 else A.fuse }
def Ad.did (A : Ad) (c : DCh) : Ad := { A.spent with now := doF A.now c, loose := A.loose ++ [c] }
def Ad.step (A : Ad) (c : DCh) : Ad × Int := if A.down then (A, 5) else if A.may c ≠ 0 then (A, A.may c) else if A.fuse = 0 then (A.off, 5) else (A.did c, 0)
def Ad.sync (A : Ad) : Ad × Int := if A.down then (A, 5) else if A.fuse = 0 then (A.off, 5) else ({ A.spent with sure := A.now, loose := [] }, 0)
structure RA (N : Nat) (S : Dsk) (A : Ad) : Prop where
  room : S.room = A.room
  r0 : 0 ≤ A.room
  r1 : A.room ≤ 67108864
  fuse : A.fuse = max S.fuse (-1)
  fb : S.fuse ≤ 9223372036854775807
  down : S.down = A.down
  used : S.used = (usedF A.now : Int)
  size : Maps.size S.D = A.now.length
  td : Td S
  chn : Chn A.room.toNat S.vw S.loose.reverse A.now A.loose.reverse A.sure
  big : S.n + 2 * S.loose.length ≤ N
  nms : ∀ b f, S.fl b = some f → f.nm.size ≤ 160
  cnm : ∀ c ∈ S.loose, c.name.size ≤ 160
  zsl : ∀ b f, S.fl b = some f → f.zs.length ≤ 67108864
theorem RA.mono {N M : Nat} {S : Dsk} {A : Ad} (h : RA N S A) (hM : N ≤ M) : RA M S A := { h with big := Nat.le_trans h.big hM }
theorem RA.js {N : Nat} {S : Dsk} {A : Ad} (h : RA N S A) : JS S A.now := ⟨h.chn.ab, h.used, h.size⟩
theorem RA.uR {N : Nat} {S : Dsk} {A : Ad} (h : RA N S A) : usedF A.now ≤ 67108864 := by have := h.chn.used; have := h.r1; omega
theorem RA.look {N : Nat} {S : Dsk} {A : Ad} (h : RA N S A) (s : ByteArray) : lookF A.now s = (S.at s).map S.vw.zs := (h.chn.ab.look s).symm
theorem RA.fuse0 {N : Nat} {S : Dsk} {A : Ad} (h : RA N S A) : S.fuse = 0 ↔ A.fuse = 0 := by have := h.fuse; omega
theorem RA.offS {N : Nat} {S : Dsk} {A : Ad} (h : RA N S A) : RA N { S with down := true } A.off :=
  ⟨h.room, h.r0, h.r1, h.fuse, h.fb, rfl, h.used, h.size, h.td.same rfl, by
    have e : ({ S with down := true } : Dsk).vw = S.vw := Dsk.vw_of rfl rfl
    rw [e]; exact h.chn, h.big, h.nms, h.cnm, h.zsl⟩
theorem step_facts (S : Dsk) (hf : S.fuse ≠ 0) : S.step.2 = 0 ∧ S.step.1.n = S.n ∧ S.step.1.fl = S.fl ∧ S.step.1.loose = S.loose ∧ S.step.1.D = S.D ∧ S.step.1.room = S.room ∧ S.step.1.used = S.used ∧ S.step.1.down = S.down ∧ S.step.1.mb = S.mb ∧ S.step.1.lv = S.lv := by
  unfold Dsk.step
  rw [if_neg hf]
  split <;> exact ⟨rfl, rfl, rfl, rfl, rfl, rfl, rfl, rfl, rfl, rfl⟩
theorem RA.stepped {N : Nat} {S : Dsk} {A : Ad} (h : RA N S A) (hf : S.fuse ≠ 0) : RA N S.step.1 A.spent := by
  obtain ⟨_, h2, h3, h4, h5, h6, h7, h8, _, _⟩ := step_facts S hf
  have hfu : A.spent.fuse = max S.step.1.fuse (-1) ∧ S.step.1.fuse ≤ 9223372036854775807 := by
    have h0 := h.fuse
    have h1 := h.fb
    unfold Ad.spent Dsk.step
    rw [if_neg hf]
    by_cases hp : 0 < S.fuse
    · rw [if_pos hp]
      show (if 0 < A.fuse then A.fuse - 1 else A.fuse) = max (wrap64 (S.fuse - 1)) (-1) ∧ wrap64 (S.fuse - 1) ≤ _
      rw [wrap64_id (by omega) (by omega)]
      split <;> omega
    · rw [if_neg hp]
      show (if 0 < A.fuse then A.fuse - 1 else A.fuse) = max S.fuse (-1) ∧ S.fuse ≤ _
      split <;> omega
  exact ⟨h6.trans h.room, h.r0, h.r1, hfu.1, hfu.2, h8.trans h.down, h7.trans h.used, by rw [h5]; exact h.size, h.td.same h5, by
    rw [Dsk.vw_step, h4]; exact h.chn, by rw [h2, h4]; exact h.big, by rw [h3]; exact h.nms, by rw [h4]; exact h.cnm, by rw [h3]; exact h.zsl⟩
/-- what a call leaves -/
def Did (B d N : Nat) (S : Dsk) (w : World) (A' : Ad) (w' : World) : Prop := ∃ S', DK B d S' w' ∧ RA N S' A' ∧ Mov S d S' w w'
theorem Did.same {B d N : Nat} {S : Dsk} {w : World} {A : Ad} (h : DK B d S w) (r : RA N S A) (k : Nat) : Did B d (N + k) S w A w := ⟨S, h, r.mono (Nat.le_add_right _ _), Mov.refl _ _ _⟩
theorem Did.off {B d N : Nat} {S : Dsk} {w w' : World} {A : Ad} (h : DK B d { S with down := true } w') (r : RA N S A) (m : Mov S d { S with down := true } w w') (k : Nat) : Did B d (N + k) S w A.off w' := ⟨_, h, r.offS.mono (Nat.le_add_right _ _), m⟩
theorem DK.inX {B d : Nat} {S : Dsk} {w : World} (h : DK B d S w) : (∀ c ∈ S.loose.reverse, inX (fun b => (S.fl b).isSome = true) c) ∧ ∀ s b, S.vw.ix s = some b → (S.fl b).isSome = true := by
  refine ⟨fun c hc => ?_, fun s b hb => ?_⟩
  · obtain ⟨⟨f, h1⟩, h2⟩ := h.rest.hc c (List.mem_reverse.1 hc)
    exact ⟨by show (S.fl c.file).isSome = true; rw [h1]; rfl, fun r hr => by obtain ⟨g, h3⟩ := h2 r hr; show (S.fl r).isSome = true; rw [h3]; rfl⟩
  · obtain ⟨f, h1, _⟩ := h.rest.at hb
    rw [h1]; rfl
theorem RA.create {B d N : Nat} {S : Dsk} {A : Ad} {w : World} (h : DK B d S w) (r : RA N S A) (s : ByteArray) (hn : isNm s = true) (ha : S.at s = none) (hf : S.fuse ≠ 0) (b m : Nat) (v : Value) (hb : S.fl b = none) : RA (N + 3) (S.step.1.made s b m v) (A.did ⟨0, s, ⟨#[]⟩, []⟩) := by
  obtain ⟨_, h2, h3, h4, h5, h6, h7, h8, _, _⟩ := step_facts S hf
  have r1 := r.stepped hf
  have hs : s.size ≤ 160 := by
    unfold isNm at hn
    simp only [Bool.and_eq_true, decide_eq_true_eq] at hn
    exact hn.2
  obtain ⟨x1, x2⟩ := h.inX
  have hnb : ∀ x, S.step.1.at x ≠ some b := fun x hx => by
    have hx' : S.at x = some b := by unfold Dsk.at at hx ⊢; rw [h5] at hx; exact hx
    obtain ⟨f, k1, _⟩ := h.rest.at hx'
    rw [hb] at k1; cases k1
  have ha1 : S.step.1.at s = none := by unfold Dsk.at at ha ⊢; rw [h5]; exact ha
  have j1 : JS S.step.1 A.now := r1.js
  have j2 := j1.file hnb ⟨s, .slice none 0 0, []⟩
  have td2 : Td (S.step.1.file b ⟨s, .slice none 0 0, []⟩) := r1.td.same rfl
  have hfb : (S.step.1.file b ⟨s, .slice none 0 0, []⟩).fl b = some ⟨s, .slice none 0 0, []⟩ := by show (if _ then _ else _) = _; rw [if_pos rfl]
  have j3 := j2.put td2 hfb (by exact ha1) m (by exact hnb) (by show usedF A.now + 0 ≤ _; have := r.uR; omega)
  have td3 := td2.put m b ⟨s, .slice none 0 0, []⟩
  have hv : (S.step.1.made s b m v).vw = ((S.vw.bytes b []).name b s).set s (some b) := by
    have e1 : (S.step.1.made s b m v).vw = ((S.step.1.file b ⟨s, .slice none 0 0, []⟩).put m b ⟨s, .slice none 0 0, []⟩).vw := Dsk.vw_of rfl rfl
    rw [e1, Dsk.vw_put td2.tidy.isMap, Dsk.vw_file, Dsk.vw_step]
  have hl : (S.step.1.made s b m v).loose = S.loose ++ [⟨0, b, 0, ⟨#[]⟩, none⟩] := by
    show S.step.1.loose ++ [_] = _
    rw [h4]
  have hc := r.chn.create x1 x2 s b ha (by rw [hb]; exact fun e => by cases e) 0 ⟨#[]⟩ none
  have hbig := r.big
  refine ⟨r1.room, r.r0, r.r1, r1.fuse, r1.fb, r1.down, j3.used, j3.size, td3.same rfl, ?_, ?_, fun c f hc => ?_, fun c hc => ?_, fun c f hc => ?_⟩
  · rw [hv, hl, List.reverse_append, List.reverse_singleton, List.singleton_append]
    show Chn _ _ _ _ (A.loose ++ [_]).reverse _
    rw [List.reverse_append, List.reverse_singleton, List.singleton_append]
    exact hc
  · rw [hl, List.length_append, List.length_singleton]
    show S.step.1.n + 1 + 2 * (S.loose.length + 1) ≤ N + 3
    rw [h2]
    omega
  · have hc' : (if c = b then some (⟨s, .slice none 0 0, []⟩ : Fil) else S.step.1.fl c) = some f := hc
    split at hc'
    · cases hc'; exact hs
    · rw [h3] at hc'; exact r.nms c f hc'
  · rw [hl] at hc
    rcases List.mem_append.1 hc with hc | hc
    · exact r.cnm c hc
    · rw [List.mem_singleton] at hc; subst hc; show (0 : Nat) ≤ 160; omega
  · have hc' : (if c = b then some (⟨s, .slice none 0 0, []⟩ : Fil) else S.step.1.fl c) = some f := hc
    split at hc'
    · cases hc'; show (0 : Nat) ≤ _; omega
    · rw [h3] at hc'; exact r.zsl c f hc'
theorem RA.append {N : Nat} {S : Dsk} {A : Ad} (r : RA N S A) (s : ByteArray) {b : Nat} {f : Fil} (ha : S.at s = some b) (hfl : S.fl b = some f) (ps : List Nat) (hp : ps.length ≤ 1048576) (hR : (usedF A.now : Int) + (ps.length : Int) ≤ A.room) (hf : S.fuse ≠ 0) (v v' : Value) : RA (N + 3) (S.step.1.laid b f v v' ps) (A.did ⟨1, s, ⟨#[]⟩, ps⟩) := by
  obtain ⟨_, h2, h3, h4, h5, h6, h7, h8, _, _⟩ := step_facts S hf
  have r1 := r.stepped hf
  have ha1 : S.step.1.at s = some b := by unfold Dsk.at at ha ⊢; rw [h5]; exact ha
  have hfl1 : S.step.1.fl b = some f := by rw [h3]; exact hfl
  have hu := r.uR
  have hrr := r.r1
  obtain ⟨j2, hv⟩ := r1.js.bytes (S' := S.step.1.laid b f v v' ps) (v := v') (zs := f.zs ++ ps) hfl1 ha1 rfl rfl (by
    show wrap64 (S.step.1.used + (ps.length : Int)) = S.step.1.used - (f.zs.length : Int) + ((f.zs ++ ps).length : Int)
    rw [h7, r.used, wrap64_id (by omega) (by omega), List.length_append]
    omega)
  rw [Dsk.vw_step] at hv
  have hzs : S.vw.zs b = f.zs := Dsk.zs_of hfl
  have hc := r.chn.append s b ps ha (by have := r.r0; omega) (by omega) hp ⟨#[]⟩ none
  rw [hzs] at hc
  have hdo : doF A.now ⟨1, s, ⟨#[]⟩, ps⟩ = withF (withoutF A.now s) (s, f.zs ++ ps) := by
    rw [doF1, r.look, ha, Option.map_some, hzs]; rfl
  have hl : (S.step.1.laid b f v v' ps).loose = S.loose ++ [⟨1, b, (f.zs.length : Int), ⟨#[]⟩, none⟩] := by
    show S.step.1.loose ++ [_] = _
    rw [h4]
  have hbig := r.big
  have hlz : f.zs.length + ps.length ≤ 67108864 := by
    have h9 := used_without (n := s) r.chn.ab.srt
    rw [r.look, ha, Option.map_some, hzs] at h9
    simp only [Option.getD_some] at h9
    omega
  have j3 : JS (S.step.1.laid b f v v' ps) (doF A.now ⟨1, s, ⟨#[]⟩, ps⟩) := by rw [hdo]; exact j2
  refine ⟨r1.room, r.r0, r.r1, r1.fuse, r1.fb, r1.down, j3.used, j3.size, r1.td.same rfl, ?_, ?_, fun c g hc => ?_, fun c hc => ?_, fun c g hc => ?_⟩
  · rw [hv, hl, List.reverse_append, List.reverse_singleton, List.singleton_append]
    show Chn _ _ _ _ (A.loose ++ [_]).reverse _
    rw [List.reverse_append, List.reverse_singleton, List.singleton_append]
    exact hc
  · rw [hl, List.length_append, List.length_singleton]
    show S.step.1.n + 2 * (S.loose.length + 1) ≤ N + 3
    rw [h2]
    omega
  · have hc' : (if c = b then some (⟨f.nm, v', f.zs ++ ps⟩ : Fil) else S.step.1.fl c) = some g := hc
    split at hc'
    · cases hc'; exact r.nms b f hfl
    · rw [h3] at hc'; exact r.nms c g hc'
  · rw [hl] at hc
    rcases List.mem_append.1 hc with hc | hc
    · exact r.cnm c hc
    · rw [List.mem_singleton] at hc; subst hc; show (0 : Nat) ≤ 160; omega
  · have hc' : (if c = b then some (⟨f.nm, v', f.zs ++ ps⟩ : Fil) else S.step.1.fl c) = some g := hc
    split at hc'
    · cases hc'; show (f.zs ++ ps).length ≤ _; rw [List.length_append]; exact hlz
    · rw [h3] at hc'; exact r.zsl c g hc'
theorem RA.remove {N : Nat} {S : Dsk} {A : Ad} (r : RA N S A) (s : ByteArray) {b : Nat} {f : Fil} (ha : S.at s = some b) (hfl : S.fl b = some f) (hfs : f.nm = s) (hf : S.fuse ≠ 0) (v : Value) : RA (N + 3) (S.step.1.gone f b v) (A.did ⟨2, s, ⟨#[]⟩, []⟩) := by
  obtain ⟨_, h2, h3, h4, h5, h6, h7, h8, _, _⟩ := step_facts S hf
  have r1 := r.stepped hf
  have ha1 : S.step.1.at f.nm = some b := by rw [hfs]; unfold Dsk.at at ha ⊢; rw [h5]; exact ha
  have hfl1 : S.step.1.fl b = some f := by rw [h3]; exact hfl
  have j2 := r1.js.drop r1.td hfl1 ha1 r.uR
  have hl : (S.step.1.gone f b v).loose = S.loose ++ [⟨2, b, 0, ⟨#[]⟩, none⟩] := by
    show S.step.1.loose ++ [_] = _
    rw [h4]
  have hv : (S.step.1.gone f b v).vw = S.vw.set s none := by
    have e1 : (S.step.1.gone f b v).vw = (S.step.1.drop f).vw := Dsk.vw_of rfl rfl
    rw [e1, Dsk.vw_drop, Dsk.vw_step, hfs]
  have hc := r.chn.remove s b ha 0 ⟨#[]⟩ none
  have hbig := r.big
  have j3 : JS (S.step.1.drop f) (doF A.now ⟨2, s, ⟨#[]⟩, []⟩) := by rw [doF2, ← hfs]; exact j2
  refine ⟨r1.room, r.r0, r.r1, r1.fuse, r1.fb, r1.down, j3.used, j3.size, (r1.td.drop f).same rfl, ?_, ?_, fun c g hc => r.nms c g (by rw [← h3]; exact hc), fun c hc => ?_, fun c g hc => r.zsl c g (by rw [← h3]; exact hc)⟩
  · rw [hv, hl, List.reverse_append, List.reverse_singleton, List.singleton_append]
    show Chn _ _ _ _ (A.loose ++ [_]).reverse _
    rw [List.reverse_append, List.reverse_singleton, List.singleton_append]
    exact hc
  · rw [hl, List.length_append, List.length_singleton]
    show S.step.1.n + 2 * (S.loose.length + 1) ≤ N + 3
    rw [h2]
    omega
  · rw [hl] at hc
    rcases List.mem_append.1 hc with hc | hc
    · exact r.cnm c hc
    · rw [List.mem_singleton] at hc; subst hc; show (0 : Nat) ≤ 160; omega
theorem RA.sync {N : Nat} {S : Dsk} {A : Ad} (r : RA N S A) (hf : S.fuse ≠ 0) : RA N S.step.1.sure { A.spent with sure := A.now, loose := [] } := by
  have r1 := r.stepped hf
  have hbig := r1.big
  refine ⟨r1.room, r.r0, r.r1, r1.fuse, r1.fb, r1.down, r1.used, r1.size, r1.td.same rfl, ?_, ?_, r1.nms, fun c hc => (by cases hc), r1.zsl⟩
  · have e1 : S.step.1.sure.vw = S.step.1.vw := Dsk.vw_of rfl rfl
    rw [e1]
    exact .nil r1.chn.ab r.chn.used
  · show S.step.1.n + 0 ≤ N
    omega
theorem RA.rename {N : Nat} {S : Dsk} {A : Ad} (r : RA N S A) (s t : ByteArray) (hn : isNm t = true) {b : Nat} {f : Fil} (ha : S.at s = some b) (hfl : S.fl b = some f) (hfs : f.nm = s) (hf : S.fuse ≠ 0) (S0 : Dsk) (rp : Option Nat) (m : Nat) (v : Value)
    (h0 : (rp = none ∧ S0 = S.step.1.drop f ∧ (S.drop f).at t = none) ∨ ∃ x g, rp = some x ∧ S0 = (S.step.1.drop f).drop g ∧ (S.drop f).at t = some x ∧ S.fl x = some g ∧ g.nm = t) : RA (N + 3) (S0.named f b t m v rp) (A.did ⟨3, s, t, []⟩) := by
  obtain ⟨_, h2, h3, h4, h5, h6, h7, h8, _, _⟩ := step_facts S hf
  have r1 := r.stepped hf
  have hat : ∀ x, S.step.1.at x = S.at x := fun x => by unfold Dsk.at; rw [h5]
  have ha1 : S.step.1.at f.nm = some b := by rw [hfs, hat]; exact ha
  have hfl1 : S.step.1.fl b = some f := by rw [h3]; exact hfl
  have hu := r.uR
  have j2 : JS (S.step.1.drop f) (withoutF A.now f.nm) := r1.js.drop r1.td hfl1 ha1 hu
  have td2 := r1.td.drop f
  have hzs : S.vw.zs b = f.zs := Dsk.zs_of hfl
  have hud := used_without (n := f.nm) r.chn.ab.srt
  have e1 : (S.step.1.drop f).vw = S.vw.set s none := by rw [Dsk.vw_drop, Dsk.vw_step, hfs]
  have hat2 : ∀ x, (S.step.1.drop f).at x = if x = s then none else S.at x := fun x => by rw [at_drop, hat, hfs]
  have hrp : rp = (S.vw.set s none).ix t := by
    have e : (S.vw.set s none).ix t = (S.drop f).at t := by
      rw [at_drop, hfs]; rfl
    rw [e]
    rcases h0 with ⟨k1, _, k3⟩ | ⟨x, g, k1, _, k3, _⟩
    · rw [k1, k3]
    · rw [k1, k3]
  have hno : ∀ x, (S.step.1.drop f).at x ≠ some b := fun x hx => by
    rw [hat2] at hx
    split at hx
    · cases hx
    · rename_i e
      exact e (r.chn.ab.inj (s := x) (t := s) (b := b) hx ha)
  -- behind the drops
  have hS0 : S0.fl = S.fl ∧ S0.n = S.n ∧ S0.loose = S.loose ∧ S0.room = S.room ∧ S0.fuse = S.step.1.fuse ∧ S0.down = S.step.1.down ∧ Td S0 ∧ (∃ l0, JS S0 l0 ∧ usedF l0 ≤ 67108864) ∧ (∀ x, S0.at x = if x = t then none else if x = s then none else S.at x) ∧ S0.vw.zs = S.vw.zs ∧ S0.vw.nm = S.vw.nm := by
    rcases h0 with ⟨_, k2, k3⟩ | ⟨x, g, _, k2, k3, k4, k5⟩
    · rw [k2]
      refine ⟨h3, h2, h4, h6, rfl, rfl, td2, ⟨_, j2, by omega⟩, fun y => ?_, by rw [e1]; rfl, by rw [e1]; rfl⟩
      rw [hat2]
      by_cases e : y = t
      · rw [if_pos e, e]
        rw [at_drop, hfs] at k3
        exact k3
      · rw [if_neg e]
    · rw [k2]
      have hg1 : (S.step.1.drop f).fl x = some g := by show S.step.1.fl x = _; rw [h3]; exact k4
      have hg2 : (S.step.1.drop f).at g.nm = some x := by
        rw [hat2, k5]
        rw [at_drop, hfs] at k3
        exact k3
      have hud2 := used_without (n := g.nm) (srt_without (n := f.nm) r.chn.ab.srt)
      refine ⟨h3, h2, h4, h6, rfl, rfl, td2.drop g, ⟨_, j2.drop td2 hg1 hg2 (by omega), by omega⟩, fun y => ?_, by rw [Dsk.vw_drop, e1]; rfl, by rw [Dsk.vw_drop, e1]; rfl⟩
      rw [at_drop, hat2, k5]
  obtain ⟨q1, q2, q3, q4, q5, q6, q7, ⟨l0, q8, q8'⟩, q9, q10, q11⟩ := hS0
  have hno0 : ∀ x, S0.at x ≠ some b := fun x hx => by
    rw [q9] at hx
    split at hx
    · cases hx
    · split at hx
      · cases hx
      · rename_i _ e
        exact e (r.chn.ab.inj (s := x) (t := s) (b := b) hx ha)
  have j3 := q8.file hno0 ⟨t, f.row, f.zs⟩
  have td3 : Td (S0.file b ⟨t, f.row, f.zs⟩) := q7.same rfl
  have hzl := r.zsl b f hfl
  have j4 := j3.put td3 (f := ⟨t, f.row, f.zs⟩) (by show (if _ then _ else _) = _; rw [if_pos rfl]) (by show S0.at t = none; rw [q9, if_pos rfl]) m (by exact hno0) (by show usedF l0 + f.zs.length ≤ _; omega)
  have hv : (S0.named f b t m v rp).vw = ((S.vw.set s none).name b t).set t (some b) := by
    have e2 : (S0.named f b t m v rp).vw = ((S0.file b ⟨t, f.row, f.zs⟩).put m b ⟨t, f.row, f.zs⟩).vw := Dsk.vw_of rfl rfl
    rw [e2, Dsk.vw_put td3.tidy.isMap, Dsk.vw_file]
    refine Vw.ext3 ?_ ?_ ?_
    · funext x
      show (if x = t then some b else S0.at x) = (if x = t then some b else if x = s then none else S.at x)
      rw [q9]
      by_cases e : x = t
      · rw [if_pos e, if_pos e]
      · rw [if_neg e, if_neg e, if_neg e]
    · funext c
      show (if c = b then f.zs else S0.vw.zs c) = S.vw.zs c
      rw [q10]
      by_cases e : c = b
      · rw [if_pos e, e, hzs]
      · rw [if_neg e]
    · funext c
      show (if c = b then t else S0.vw.nm c) = (if c = b then t else S.vw.nm c)
      rw [q11]
  have hc := r.chn.rename s t b ha 0
  rw [← hrp] at hc
  have hl : (S0.named f b t m v rp).loose = S.loose ++ [⟨3, b, 0, s, rp⟩] := by
    show S0.loose ++ [⟨3, b, 0, f.nm, rp⟩] = _
    rw [q3, hfs]
  have j5 : JS (S0.named f b t m v rp) (doF A.now ⟨3, s, t, []⟩) := by
    have j5 : JS (S0.named f b t m v rp) (withF l0 (t, f.zs)) := j4.same rfl rfl rfl
    have e := j5.uniq (m := doF A.now ⟨3, s, t, []⟩) (by rw [hv]; exact hc.ab)
    rw [← e]; exact j5
  have hbig := r.big
  have ht : t.size ≤ 160 := by
    unfold isNm at hn
    simp only [Bool.and_eq_true, decide_eq_true_eq] at hn
    exact hn.2
  refine ⟨q4.trans r.room, r.r0, r.r1, by show A.spent.fuse = max S0.fuse (-1); rw [q5]; exact r1.fuse, by show S0.fuse ≤ _; rw [q5]; exact r1.fb, by show S0.down = _; rw [q6]; exact r1.down, j5.used, j5.size, (td3.put m b _).same rfl, ?_, ?_, fun c g hc => ?_, fun c hc => ?_, fun c g hc => ?_⟩
  · rw [hv, hl, List.reverse_append, List.reverse_singleton, List.singleton_append]
    show Chn _ _ _ _ (A.loose ++ [_]).reverse _
    rw [List.reverse_append, List.reverse_singleton, List.singleton_append]
    exact hc
  · rw [hl, List.length_append, List.length_singleton]
    show S0.n + 1 + 2 * (S.loose.length + 1) ≤ N + 3
    rw [q2]
    omega
  · have hc' : (if c = b then some (⟨t, f.row, f.zs⟩ : Fil) else S0.fl c) = some g := hc
    split at hc'
    · cases hc'; exact ht
    · rw [q1] at hc'; exact r.nms c g hc'
  · rw [hl] at hc
    rcases List.mem_append.1 hc with hc | hc
    · exact r.cnm c hc
    · rw [List.mem_singleton] at hc; subst hc; show s.size ≤ 160; rw [← hfs]; exact r.nms b f hfl
  · have hc' : (if c = b then some (⟨t, f.row, f.zs⟩ : Fil) else S0.fl c) = some g := hc
    split at hc'
    · cases hc'; exact hzl
    · rw [q1] at hc'; exact r.zsl c g hc'
end Go.Proofs.Ytmomdfmilelilaa
