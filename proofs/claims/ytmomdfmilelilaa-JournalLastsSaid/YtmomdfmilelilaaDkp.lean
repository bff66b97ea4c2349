/-
  A disk in memory and the document's files: what each kind of write does to them.
-/
import Derived.Test.YtmomdfmilelilaaDko
import Derived.Test.YtmomdfmilelilaaDmb
namespace Go.Proofs.Ytmomdfmilelilaa
open Go.RowKit Go.Maps
set_option linter.unusedVariables false
def Dsk.zsOf (S : Dsk) (b : Nat) : List Nat := match S.fl b with
  | some f => f.zs
  | none => []
def Dsk.nmOf (S : Dsk) (b : Nat) : ByteArray := match S.fl b with
  | some f => f.nm
  | none => ⟨#[]⟩
def Dsk.vw (S : Dsk) : Vw := ⟨S.at, S.zsOf, S.nmOf⟩
theorem Dsk.vw_of {S S' : Dsk} (h1 : S'.D = S.D) (h2 : S'.fl = S.fl) : S'.vw = S.vw := by
  unfold Dsk.vw
  refine Vw.ext3 ?_ ?_ ?_
  · funext s; show S'.at s = S.at s; unfold Dsk.at; rw [h1]
  · funext b; show S'.zsOf b = S.zsOf b; unfold Dsk.zsOf; rw [h2]
  · funext b; show S'.nmOf b = S.nmOf b; unfold Dsk.nmOf; rw [h2]
theorem Dsk.vw_step (S : Dsk) : S.step.1.vw = S.vw := by
  unfold Dsk.step
  split
  · exact Dsk.vw_of rfl rfl
  · split
    · exact Dsk.vw_of rfl rfl
    · rfl
theorem Dsk.vw_drop (S : Dsk) (f : Fil) : (S.drop f).vw = S.vw.set f.nm none :=
  Vw.ext3 (by funext x; exact at_drop f x) rfl rfl
theorem Dsk.vw_put {S : Dsk} (h : IsMap S.D) (m b : Nat) (f : Fil) : (S.put m b f).vw = S.vw.set f.nm (some b) :=
  Vw.ext3 (by funext x; exact at_put h m b f x) rfl rfl
theorem Dsk.vw_file (S : Dsk) (b : Nat) (f : Fil) : (S.file b f).vw = (S.vw.bytes b f.zs).name b f.nm := by
  refine Vw.ext3 rfl ?_ ?_
  · funext c
    show (match (if c = b then some f else S.fl c) with | some f => f.zs | none => []) = if c = b then f.zs else S.zsOf c
    by_cases e : c = b
    · rw [if_pos e, if_pos e]
    · rw [if_neg e, if_neg e]; rfl
  · funext c
    show (match (if c = b then some f else S.fl c) with | some f => f.nm | none => ⟨#[]⟩) = if c = b then f.nm else S.nmOf c
    by_cases e : c = b
    · rw [if_pos e, if_pos e]
    · rw [if_neg e, if_neg e]; rfl
theorem Dsk.zs_of {S : Dsk} {b : Nat} {f : Fil} (h : S.fl b = some f) : S.vw.zs b = f.zs := by show S.zsOf b = _; unfold Dsk.zsOf; rw [h]
theorem Dsk.nm_of {S : Dsk} {b : Nat} {f : Fil} (h : S.fl b = some f) : S.vw.nm b = f.nm := by show S.nmOf b = _; unfold Dsk.nmOf; rw [h]
/-- the map's keys are the names -/
structure Td (S : Dsk) : Prop where
  tidy : Tidy S.D
  has : ∀ s, Maps.has S.D (keyS s) = (S.at s).isSome
theorem DKr.td {B : Nat} {S : Dsk} {w : World} (h : DKr B S w) : Td S := ⟨h.tidy, h.has⟩
theorem Td.same {S S' : Dsk} (h : Td S) (e : S'.D = S.D) : Td S' := ⟨by rw [e]; exact h.tidy, fun s => by unfold Dsk.at; rw [e]; exact h.has s⟩
theorem Td.drop {S : Dsk} (h : Td S) (f : Fil) : Td (S.drop f) := ⟨h.tidy.del _, fun s => by
  rw [at_drop]
  show Maps.has (S.D.del (keyS f.nm)) (keyS s) = _
  by_cases e : s = f.nm
  · rw [if_pos e, e, has_del_same]; rfl
  · rw [if_neg e, has_del_other (fun k => e (keyS_inj k))]; exact h.has s⟩
theorem Td.put {S : Dsk} (h : Td S) (m b : Nat) (f : Fil) : Td (S.put m b f) := ⟨h.tidy.put (by trivial) _, fun s => by
  rw [at_put h.tidy.isMap]
  show Maps.has (S.D.put (keyS f.nm) _) (keyS s) = _
  by_cases e : s = f.nm
  · rw [if_pos e, e, has_put_same h.tidy.isMap (by trivial)]; rfl
  · rw [if_neg e, has_put_other (fun k => e (keyS_inj k))]; exact h.has s⟩
/-- what is told of the files -/
structure JS (S : Dsk) (l : Fls) : Prop where
  ab : Ab S.vw l
  used : S.used = (usedF l : Int)
  size : Maps.size S.D = l.length
theorem JS.uniq {S : Dsk} {l m : Fls} (h : JS S l) (k : Ab S.vw m) : l = m := srt_ext h.ab.srt k.srt fun n => (h.ab.look n).symm.trans (k.look n)
theorem JS.same {S S' : Dsk} {l : Fls} (h : JS S l) (h1 : S'.D = S.D) (h2 : S'.fl = S.fl) (h3 : S'.used = S.used) : JS S' l :=
  ⟨by rw [Dsk.vw_of h1 h2]; exact h.ab, h3.trans h.used, by rw [h1]; exact h.size⟩
theorem JS.drop {S : Dsk} {l : Fls} {b : Nat} {f : Fil} (h : JS S l) (hk : Td S) (hf : S.fl b = some f) (ha : S.at f.nm = some b) (hu : usedF l ≤ 67108864) : JS (S.drop f) (withoutF l f.nm) := by
  have hlk : lookF l f.nm = some f.zs := by rw [h.ab.has (s := f.nm) (b := b) ha, Dsk.zs_of hf]
  have h1 := used_without (n := f.nm) h.ab.srt
  have h2 := length_without (n := f.nm) h.ab.srt
  rw [hlk] at h1 h2
  simp only [Option.getD_some, Option.isSome_some, if_true] at h1 h2
  refine ⟨by rw [Dsk.vw_drop]; exact h.ab.remove f.nm, ?_, ?_⟩
  · show wrap64 (S.used - (f.zs.length : Int)) = _
    rw [h.used, wrap64_id (by omega) (by omega)]
    omega
  · have h3 := size_del (k := keyS f.nm) hk.tidy
    rw [hk.has, ha] at h3
    simp only [Option.isSome_some, if_true] at h3
    have h4 := h.size
    show Maps.size (S.D.del (keyS f.nm)) = _
    omega
theorem JS.put {S : Dsk} {l : Fls} {b : Nat} {f : Fil} (h : JS S l) (hk : Td S) (hf : S.fl b = some f) (ha : S.at f.nm = none) (m : Nat) (hb : ∀ x, S.at x ≠ some b) (hu : usedF l + f.zs.length ≤ 1000000000) : JS (S.put m b f) (withF l (f.nm, f.zs)) := by
  have hn := h.ab.lacks (s := f.nm) ha
  refine ⟨?_, ?_, ?_⟩
  · rw [Dsk.vw_put hk.tidy.isMap]
    refine ⟨fun t => ?_, fun t c hc => ?_, srt_with h.ab.srt (lookF_none hn)⟩
    · rw [look_with t hn]
      show (if t = f.nm then some b else S.at t).map S.vw.zs = _
      by_cases e : t = f.nm
      · rw [if_pos e, if_pos e, Option.map_some, Dsk.zs_of hf]
      · rw [if_neg e, if_neg e]; exact h.ab.look t
    · have hc' : (if t = f.nm then some b else S.at t) = some c := hc
      show S.vw.nm c = t
      split at hc'
      · rename_i e; cases hc'; rw [Dsk.nm_of hf, e]
      · exact h.ab.nm t c hc'
  · show wrap64 (S.used + (f.zs.length : Int)) = _
    rw [h.used, used_with, wrap64_id (by omega) (by omega)]
    show _ = ((usedF l + f.zs.length : Nat) : Int)
    omega
  · show Maps.size (S.D.put (keyS f.nm) _) = _
    rw [size_put hk.tidy, hk.has, ha, length_with, h.size]
    rfl
/-- a file that no name leads to gets another name, other bytes -/
theorem JS.file {S : Dsk} {l : Fls} {b : Nat} (h : JS S l) (hb : ∀ x, S.at x ≠ some b) (f : Fil) : JS (S.file b f) l := by
  refine ⟨?_, h.used, h.size⟩
  rw [Dsk.vw_file]
  refine ⟨fun t => ?_, fun t c hc => ?_, h.ab.srt⟩
  · rw [← h.ab.look]
    show (S.at t).map (fun c => if c = b then f.zs else S.vw.zs c) = (S.at t).map S.vw.zs
    cases e : S.at t with
    | none => rfl
    | some c =>
      have hc : c ≠ b := fun k => hb t (by rw [e, k])
      simp only [Option.map_some]
      rw [if_neg hc]
  · have hcb : c ≠ b := fun k => hb t (by rw [← k]; exact hc)
    show (if c = b then f.nm else S.vw.nm c) = t
    rw [if_neg hcb]
    exact h.ab.nm t c hc
/-- a file's bytes become others -/
theorem JS.bytes {S S' : Dsk} {l : Fls} {s : ByteArray} {b : Nat} {f : Fil} {v : Value} {zs : List Nat} (h : JS S l) (hf : S.fl b = some f) (ha : S.at s = some b) (h1 : S'.D = S.D) (h2 : S'.fl = (S.file b ⟨f.nm, v, zs⟩).fl) (h3 : S'.used = S.used - (f.zs.length : Int) + (zs.length : Int)) :
    JS S' (withF (withoutF l s) (s, zs)) ∧ S'.vw = S.vw.bytes b zs := by
  have hv : S'.vw = S.vw.bytes b zs := by
    have e : S'.vw = (S.file b ⟨f.nm, v, zs⟩).vw := Dsk.vw_of h1 h2
    rw [e, Dsk.vw_file]
    refine Vw.ext3 rfl rfl ?_
    funext c
    show (if c = b then f.nm else S.vw.nm c) = S.vw.nm c
    by_cases e : c = b
    · rw [if_pos e, e, Dsk.nm_of hf]
    · rw [if_neg e]
  have hlk : lookF l s = some f.zs := by rw [h.ab.has (s := s) (b := b) ha, Dsk.zs_of hf]
  have k1 := used_without (n := s) h.ab.srt
  have k2 := length_without (n := s) h.ab.srt
  rw [hlk] at k1 k2
  simp only [Option.getD_some, Option.isSome_some, if_true] at k1 k2
  have hn : lookF (withoutF l s) s = none := by rw [look_without, if_pos rfl]
  refine ⟨⟨?_, ?_, ?_⟩, hv⟩
  · rw [hv]
    refine ⟨fun t => ?_, fun t c hc => h.ab.nm t c hc, srt_with (srt_without h.ab.srt) fun x hx => (mem_withoutF.1 hx).2⟩
    rw [look_with t hn, look_without]
    show (S.at t).map (fun c => if c = b then zs else S.vw.zs c) = _
    by_cases e : t = s
    · rw [if_pos e, e, ha]; simp
    · rw [if_neg e, if_neg e, ← h.ab.look]
      show _ = (S.at t).map S.vw.zs
      cases ev : S.at t with
      | none => rfl
      | some c =>
        have hc : c ≠ b := fun k => e (h.ab.inj (s := t) (t := s) ev (by rw [k]; exact ha))
        simp only [Option.map_some]
        rw [if_neg hc]
  · rw [h3, h.used, used_with]
    show _ = ((usedF (withoutF l s) + zs.length : Nat) : Int)
    omega
  · rw [h1, h.size, length_with]
    omega
end Go.Proofs.Ytmomdfmilelilaa
