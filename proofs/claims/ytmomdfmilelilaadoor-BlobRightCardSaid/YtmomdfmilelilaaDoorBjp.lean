/-
  What the files of a store's disk are, in every state that a loss of power can leave: plain. A store's invariant, plain: while the power is on only changes on the spare file are loose. A store's invariant, plain: Delete, New, the answers of a Put. A store's invariant, plain: the answers of a write and of New. A store's invariant, plain: a Put that found no room; what a List tells; the two lists of a script.
-/
import Derived.Test.YtmomdfmilelilaaDoorBil
namespace Go.Proofs.YtmomdfmilelilaaDoor
set_option linter.unusedVariables false
/-- H: those that must be there; M: those that may be -/
structure Good (H M : List Nat → Prop) (l : Fls) : Prop where
  srt : Srt l
  must : ∀ ds, H ds → ∃ z, lookF l (fileB ds) = some z
  may : ∀ n z, lookF l n = some z → n = spr ∨ ∃ ds, D32 ds ∧ n = fileB ds ∧ Sha.sum z = ds ∧ M ds
theorem Good.mono {H M H' M' : List Nat → Prop} {l : Fls} (g : Good H M l) (h : ∀ ds, H' ds → H ds) (m : ∀ ds, M ds → M' ds) : Good H' M' l :=
  ⟨g.srt, fun ds hd => g.must ds (h ds hd), fun n z hz => (g.may n z hz).imp id fun ⟨ds, a, b, c, d⟩ => ⟨ds, a, b, c, m ds d⟩⟩
theorem fileB_spr (ds : List Nat) (hd : D32 ds) : fileB ds ≠ spr := fileB_ne ds hd (by decide)
/-- another state with the same files beside the spare one -/
theorem Good.like {H M : List Nat → Prop} {l m : Fls} (g : Good H M l) (hs : Srt m) (hH : ∀ ds, H ds → D32 ds) (h : ∀ n, n ≠ spr → lookF m n = lookF l n) : Good H M m :=
  ⟨hs, fun ds hd => by rw [h _ (fileB_spr ds (hH ds hd))]; exact g.must ds hd, fun n z hz => by
    by_cases e : n = spr
    · exact .inl e
    · rw [h n e] at hz
      exact g.may n z hz⟩
theorem Good.spare0 {H M : List Nat → Prop} {l : Fls} (g : Good H M l) (hH : ∀ ds, H ds → D32 ds) (b : ByteArray) (p : List Nat) (hn : lookF l spr = none) : Good H M (doF l ⟨0, spr, b, p⟩) := by
  rw [doF0]
  exact g.like (srt_with g.srt (lookF_none hn)) hH fun n hne => by rw [look_with n hn, if_neg hne]
theorem look_gone (l : Fls) (n : ByteArray) : lookF (withoutF l n) n = none := by rw [look_without, if_pos rfl]
theorem Good.spare1 {H M : List Nat → Prop} {l : Fls} (g : Good H M l) (hH : ∀ ds, H ds → D32 ds) (b : ByteArray) (p : List Nat) : Good H M (doF l ⟨1, spr, b, p⟩) := by
  rw [doF1]
  have h0 := look_gone l spr
  exact g.like (srt_with (srt_without g.srt) (lookF_none h0)) hH fun n hne => by rw [look_with n h0, if_neg hne, look_without, if_neg hne]
theorem Good.spare2 {H M : List Nat → Prop} {l : Fls} (g : Good H M l) (hH : ∀ ds, H ds → D32 ds) (b : ByteArray) (p : List Nat) : Good H M (doF l ⟨2, spr, b, p⟩) := by
  rw [doF2]
  exact g.like (srt_without g.srt) hH fun n hne => by rw [look_without, if_neg hne]
/-- the spare file gets the name of its bytes' sum -/
theorem Good.name {H M : List Nat → Prop} {l : Fls} (g : Good H M l) (hH : ∀ ds, H ds → D32 ds) (p : List Nat) (ds z : List Nat) (hd : D32 ds) (hz : lookF l spr = some z) (hs : Sha.sum z = ds) (hm : M ds) : Good H M (doF l ⟨3, spr, fileB ds, p⟩) ∧ lookF (doF l ⟨3, spr, fileB ds, p⟩) (fileB ds) = some z := by
  rw [doF3, hz]
  have h0 := look_gone (withoutF l spr) (fileB ds)
  have hl : ∀ n, lookF (withF (withoutF (withoutF l spr) (fileB ds)) (fileB ds, (some z).getD [])) n = if n = fileB ds then some z else if n = spr then none else lookF l n := fun n => by
    rw [look_with n h0, look_without, look_without]
    by_cases e : n = fileB ds
    · rw [if_pos e, if_pos e]; rfl
    · rw [if_neg e, if_neg e, if_neg e]
  refine ⟨⟨srt_with (srt_without (srt_without g.srt)) (lookF_none h0), fun es he => ?_, fun n y hy => ?_⟩, by rw [hl, if_pos rfl]⟩
  · rw [hl]
    by_cases e : fileB es = fileB ds
    · rw [if_pos e]; exact ⟨_, rfl⟩
    · rw [if_neg e]
      by_cases e2 : fileB es = spr
      · exact absurd e2 (fileB_spr es (hH es he))
      · rw [if_neg e2]; exact g.must es he
  · rw [hl] at hy
    by_cases e : n = fileB ds
    · rw [if_pos e] at hy
      exact .inr ⟨ds, hd, e, by rw [← Option.some.inj hy]; exact hs, hm⟩
    · rw [if_neg e] at hy
      by_cases e2 : n = spr
      · exact .inl e2
      · rw [if_neg e2] at hy; exact g.may n y hy
/-- one that need not be there goes -/
theorem Good.gone {H M : List Nat → Prop} {l : Fls} (g : Good H M l) (b : ByteArray) (p : List Nat) (n : ByteArray) (hn : ∀ ds, H ds → fileB ds ≠ n) : Good H M (doF l ⟨2, n, b, p⟩) := by
  rw [doF2]
  refine ⟨srt_without g.srt, fun ds hd => ?_, fun m z hz => ?_⟩
  · rw [look_without, if_neg (hn ds hd)]; exact g.must ds hd
  · rw [look_without] at hz
    by_cases e : m = n
    · rw [if_pos e] at hz; cases hz
    · rw [if_neg e] at hz; exact g.may m z hz
/-- every state that a loss of power can leave is good -/
structure Inv (H M : List Nat → Prop) (A : Ad) : Prop where
  dig : ∀ ds, H ds → D32 ds
  now : A.now = A.loose.foldl doF A.sure
  good : ∀ k, Good H M ((A.loose.take k).foldl doF A.sure)
  app : ∀ c ∈ A.loose, c.kind = 1 → c.a = spr
theorem Inv.gnow {H M : List Nat → Prop} {A : Ad} (h : Inv H M A) : Good H M A.now := by
  have := h.good A.loose.length
  rw [List.take_length] at this
  rw [h.now]; exact this
theorem Inv.gsure {H M : List Nat → Prop} {A : Ad} (h : Inv H M A) : Good H M A.sure := by
  have := h.good 0
  rw [List.take_zero] at this
  exact this
theorem Inv.mono {H M H' M' : List Nat → Prop} {A : Ad} (h : Inv H M A) (a : ∀ ds, H' ds → H ds) (b : ∀ ds, M ds → M' ds) : Inv H' M' A := ⟨fun ds hd => h.dig ds (a ds hd), h.now, fun k => (h.good k).mono a b, h.app⟩
theorem Inv.fin {H M : List Nat → Prop} {A : Ad} (h : Inv H M A) (keep part : Int) : Good H M (A.fin keep part) := by
  unfold Ad.fin
  generalize (min (max keep 0) (A.loose.length : Int)).toNat = k
  cases ho : A.loose[k]? with
  | none => exact h.gnow
  | some o =>
    simp only
    by_cases hk : o.kind = 1
    · rw [if_pos hk]
      have ha := h.app o (List.mem_of_getElem? ho) hk
      obtain ⟨kd, a, b, p⟩ := o
      simp only at hk ha
      subst hk
      subst ha
      exact (h.good k).spare1 h.dig b _
    · rw [if_neg hk]; exact h.good k
theorem Inv.calm {H M : List Nat → Prop} {A : Ad} (h : Inv H M A) (B : Ad) (l : Fls) (hl : Good H M l) (h1 : B.now = l) (h2 : B.sure = l) (h3 : B.loose = []) : Inv H M B :=
  ⟨h.dig, by rw [h1, h2, h3]; rfl, fun k => by rw [h2, h3, List.take_nil]; exact hl, fun c hc => by rw [h3] at hc; cases hc⟩
theorem Inv.crash {H M : List Nat → Prop} {A : Ad} (h : Inv H M A) (keep part : Int) : Inv H M (A.crash keep part) := h.calm _ _ (h.fin keep part) rfl rfl rfl
theorem Inv.same {H M : List Nat → Prop} {A B : Ad} (h : Inv H M A) (h1 : B.now = A.now) (h2 : B.sure = A.sure) (h3 : B.loose = A.loose) : Inv H M B :=
  ⟨h.dig, by rw [h1, h2, h3]; exact h.now, fun k => by rw [h2, h3]; exact h.good k, fun c hc => by rw [h3] at hc; exact h.app c hc⟩
theorem Inv.sync {H M : List Nat → Prop} {A : Ad} (h : Inv H M A) : Inv H M A.sync.1 := by
  unfold Ad.sync
  by_cases hd : A.down = true
  · rw [if_pos hd]; exact h
  · rw [if_neg hd]
    by_cases hf : A.fuse = 0
    · rw [if_pos hf]; exact h.same rfl rfl rfl
    · rw [if_neg hf]; exact h.calm _ _ h.gnow rfl rfl rfl
theorem Inv.step {H M : List Nat → Prop} {A : Ad} (h : Inv H M A) (c : DCh) (hg : A.may c = 0 → Good H M (doF A.now c)) (ha : c.kind = 1 → c.a = spr) : Inv H M (A.step c).1 := by
  unfold Ad.step
  by_cases hd : A.down = true
  · rw [if_pos hd]; exact h
  · rw [if_neg hd]
    by_cases hm : A.may c ≠ 0
    · rw [if_pos hm]; exact h
    · rw [if_neg hm]
      by_cases hf : A.fuse = 0
      · rw [if_pos hf]; exact h.same rfl rfl rfl
      · rw [if_neg hf]
        have hg' := hg (by omega)
        have hnow : (A.did c).now = (A.did c).loose.foldl doF (A.did c).sure := by
          show doF A.now c = (A.loose ++ [c]).foldl doF A.sure
          rw [List.foldl_append, ← h.now]
          rfl
        refine ⟨h.dig, hnow, fun k => ?_, fun x hx hk => ?_⟩
        · show Good H M (((A.loose ++ [c]).take k).foldl doF A.sure)
          by_cases hl : k ≤ A.loose.length
          · rw [List.take_append_of_le_length hl]; exact h.good k
          · rw [List.take_of_length_le (by simp; omega), List.foldl_append, ← h.now]
            exact hg'
        · rcases List.mem_append.1 hx with h1 | h1
          · exact h.app x h1 hk
          · rw [List.mem_singleton.1 h1] at hk ⊢; exact ha hk
/-- a step on the spare file -/
theorem Inv.spare {H M : List Nat → Prop} {A : Ad} (h : Inv H M A) (kd : Nat) (b : ByteArray) (p : List Nat) (hk : kd < 3) : Inv H M (A.step ⟨kd, spr, b, p⟩).1 :=
  h.step _ (fun hm => by
    match kd, hk with
    | 0, _ =>
      refine h.gnow.spare0 h.dig b p ?_
      cases hl : lookF A.now spr with
      | none => rfl
      | some z =>
        unfold Ad.may at hm
        rw [hl, spr_isNm] at hm
        simp at hm
    | 1, _ => exact h.gnow.spare1 h.dig b p
    | 2, _ => exact h.gnow.spare2 h.dig b p) fun _ => rfl
theorem Inv.clr {H M : List Nat → Prop} {A : Ad} (h : Inv H M A) : Inv H M A.clr.1 := h.spare 2 _ _ (by omega)
/-- steps up to the first one that has an error -/
theorem runA_inv {I : Ad → Prop} : ∀ {fs : List (Ad → Ad × Int)} {A : Ad}, I A → (∀ f ∈ fs, ∀ A, I A → I (f A).1) → I (runA fs A).1
  | [], A, h, _ => h
  | f :: fs, A, h, hf => by
    show I (if (f A).2 ≠ 0 then f A else runA fs (f A).1).1
    have h1 := hf f List.mem_cons_self A h
    by_cases h0 : (f A).2 ≠ 0
    · rw [if_pos h0]; exact h1
    · rw [if_neg h0]; exact runA_inv h1 fun g hg => hf g (List.mem_cons_of_mem _ hg)
theorem runA_head {f : Ad → Ad × Int} {fs : List (Ad → Ad × Int)} {A : Ad} {P : Ad × Int → Prop} (h1 : (f A).2 ≠ 0 → P (f A)) (h2 : (f A).2 = 0 → P (runA fs (f A).1)) : P (runA (f :: fs) A) := by
  show P (if (f A).2 ≠ 0 then f A else runA fs (f A).1)
  by_cases h : (f A).2 ≠ 0
  · rw [if_pos h]; exact h1 h
  · rw [if_neg h]; exact h2 (by omega)
theorem step_zero {A : Ad} {c : DCh} (h : (A.step c).2 = 0) : A.may c = 0 ∧ (A.step c).1 = A.did c := by
  unfold Ad.step at h ⊢
  by_cases hd : A.down = true
  · rw [if_pos hd] at h; exact absurd h (show ¬ (5 : Int) = 0 by decide)
  · rw [if_neg hd] at h ⊢
    by_cases hm : A.may c ≠ 0
    · rw [if_pos hm] at h; exact absurd h hm
    · rw [if_neg hm] at h ⊢
      by_cases hf : A.fuse = 0
      · rw [if_pos hf] at h; exact absurd h (show ¬ (5 : Int) = 0 by decide)
      · rw [if_neg hf]; exact ⟨by omega, rfl⟩
theorem sync_zero {A : Ad} (h : A.sync.2 = 0) : A.sync.1.now = A.now ∧ A.sync.1.loose = [] ∧ A.sync.1.sure = A.now := by
  unfold Ad.sync at h ⊢
  by_cases hd : A.down = true
  · rw [if_pos hd] at h; exact absurd h (show ¬ (5 : Int) = 0 by decide)
  · rw [if_neg hd] at h ⊢
    by_cases hf : A.fuse = 0
    · rw [if_pos hf] at h; exact absurd h (show ¬ (5 : Int) = 0 by decide)
    · rw [if_neg hf]; exact ⟨rfl, rfl, rfl⟩
theorem may0_none {A : Ad} {b : ByteArray} {p : List Nat} (hm : A.may ⟨0, spr, b, p⟩ = 0) : lookF A.now spr = none := by
  cases hl : lookF A.now spr with
  | none => rfl
  | some z =>
    unfold Ad.may at hm
    rw [hl, spr_isNm] at hm
    simp at hm
/-- what a write leaves -/
def WrI (H M : List Nat → Prop) (ds ps : List Nat) (r : Ad × Int) : Prop := Inv H M r.1 ∧ (r.2 = 0 → r.1.loose = [] ∧ r.1.sure = r.1.now ∧ lookF r.1.now (fileB ds) = some ps)
theorem wr_inv {H M : List Nat → Prop} {A : Ad} {ps ds : List Nat} (h : Inv H M A) (hd : D32 ds) (hs : Sha.sum ps = ds) (hm : M ds) : WrI H M ds ps (A.wr (fileB ds) ps) := by
  have hr : WrI H M ds ps (runA (wrS (fileB ds) ps) A) := by
    unfold wrS
    refine runA_head (fun h0 => ⟨h.clr, fun e => absurd e h0⟩) fun h0 => ?_
    have i1 := h.clr
    generalize A.clr.1 = A1 at i1 ⊢
    refine runA_head (fun h0 => ⟨i1.spare 0 _ _ (by omega), fun e => absurd e h0⟩) fun h0 => ?_
    obtain ⟨m2, s2⟩ := step_zero h0
    have i2 := i1.spare 0 ⟨#[]⟩ [] (by omega)
    have n2 : lookF (A1.step ⟨0, spr, ⟨#[]⟩, []⟩).1.now spr = some [] := by
      rw [s2]
      show lookF (doF A1.now ⟨0, spr, ⟨#[]⟩, []⟩) spr = _
      rw [doF0, look_with spr (may0_none m2), if_pos rfl]
    generalize (A1.step ⟨0, spr, ⟨#[]⟩, []⟩).1 = A2 at i2 n2 ⊢
    refine runA_head (fun h0 => ⟨i2.spare 1 _ _ (by omega), fun e => absurd e h0⟩) fun h0 => ?_
    obtain ⟨m3, s3⟩ := step_zero h0
    have i3 := i2.spare 1 ⟨#[]⟩ ps (by omega)
    have n3 : lookF (A2.step ⟨1, spr, ⟨#[]⟩, ps⟩).1.now spr = some ps := by
      rw [s3]
      show lookF (doF A2.now ⟨1, spr, ⟨#[]⟩, ps⟩) spr = _
      rw [doF1, look_with spr (look_gone A2.now spr), if_pos rfl, n2]
      rfl
    generalize (A2.step ⟨1, spr, ⟨#[]⟩, ps⟩).1 = A3 at i3 n3 ⊢
    refine runA_head (fun h0 => ⟨i3.sync, fun e => absurd e h0⟩) fun h0 => ?_
    have i4 := i3.sync
    have n4 : lookF A3.sync.1.now spr = some ps := by rw [(sync_zero h0).1]; exact n3
    generalize A3.sync.1 = A4 at i4 n4 ⊢
    have i5 : Inv H M (A4.step ⟨3, spr, fileB ds, []⟩).1 := i4.step _ (fun _ => (i4.gnow.name i4.dig [] ds ps hd n4 hs hm).1) (fun hk => by cases hk)
    refine runA_head (fun h0 => ⟨i5, fun e => absurd e h0⟩) fun h0 => ?_
    have n5 : lookF (A4.step ⟨3, spr, fileB ds, []⟩).1.now (fileB ds) = some ps := by
      rw [(step_zero h0).2]
      exact (i4.gnow.name i4.dig [] ds ps hd n4 hs hm).2
    generalize (A4.step ⟨3, spr, fileB ds, []⟩).1 = A5 at i5 n5 ⊢
    refine runA_head (fun h0 => ⟨i5.sync, fun e => absurd e h0⟩) fun h0 => ?_
    obtain ⟨k1, k2, k3⟩ := sync_zero h0
    exact ⟨i5.sync, fun _ => ⟨k2, by show A5.sync.1.sure = A5.sync.1.now; rw [k3, k1], by show lookF A5.sync.1.now _ = _; rw [k1]; exact n5⟩⟩
  unfold Ad.wr wrF
  by_cases h4 : (runA (wrS (fileB ds) ps) A).2 = 4
  · rw [if_pos h4]
    refine ⟨hr.1.clr, fun e => ?_⟩
    have e' : (if (runA (wrS (fileB ds) ps) A).1.clr.2 ≠ 0 then (runA (wrS (fileB ds) ps) A).1.clr.2 else 4) = 0 := e
    by_cases h0 : (runA (wrS (fileB ds) ps) A).1.clr.2 ≠ 0
    · rw [if_pos h0] at e'; exact absurd e' h0
    · rw [if_neg h0] at e'; exact absurd e' (by decide)
  · rw [if_neg h4]; exact hr
/-- behind a write that was done the file must be there -/
theorem WrI.done {H M : List Nat → Prop} {ds ps : List Nat} {r : Ad × Int} (h : WrI H M ds ps r) (h0 : r.2 = 0) (hd : D32 ds) : Inv (fun es => H es ∨ es = ds) M r.1 := by
  obtain ⟨k1, k2, k3⟩ := h.2 h0
  have g := h.1.gnow
  have g' : Good (fun es => H es ∨ es = ds) M r.1.now := ⟨g.srt, fun es he => by
    rcases he with he | rfl
    · exact g.must es he
    · exact ⟨_, k3⟩, g.may⟩
  refine ⟨fun es he => by
    rcases he with he | rfl
    · exact h.1.dig es he
    · exact hd, by rw [k1, k2]; rfl, fun k => by rw [k1, k2, List.take_nil]; exact g', fun c hc => by rw [k1] at hc; cases hc⟩
end Go.Proofs.YtmomdfmilelilaaDoor
namespace Go.Proofs.YtmomdfmilelilaaDoor
set_option linter.unusedVariables false
/-- while the power is on, loose changes are on the spare file -/
def Calm (A : Ad) : Prop := A.down = false → ∀ c ∈ A.loose, c.a = spr ∧ c.kind < 3
theorem Calm.off (A : Ad) : Calm A.off := fun h => by cases h
theorem Calm.nil {A : Ad} (h : A.loose = []) : Calm A := fun _ c hc => by rw [h] at hc; cases hc
theorem Calm.err {A : Ad} (h : Calm A) {c : DCh} (h0 : (A.step c).2 ≠ 0) : Calm (A.step c).1 := by
  unfold Ad.step at h0 ⊢
  by_cases hd : A.down = true
  · rw [if_pos hd]; exact h
  · rw [if_neg hd] at h0 ⊢
    by_cases hm : A.may c ≠ 0
    · rw [if_pos hm]; exact h
    · rw [if_neg hm] at h0 ⊢
      by_cases hf : A.fuse = 0
      · rw [if_pos hf]; exact Calm.off A
      · rw [if_neg hf] at h0; exact absurd rfl h0
theorem Calm.spare {A : Ad} (h : Calm A) (kd : Nat) (b : ByteArray) (p : List Nat) (hk : kd < 3) : Calm (A.step ⟨kd, spr, b, p⟩).1 := by
  by_cases h0 : (A.step ⟨kd, spr, b, p⟩).2 = 0
  · rw [(step_zero h0).2]
    intro hd c hc
    rcases List.mem_append.1 hc with h1 | h1
    · exact h hd c h1
    · rw [List.mem_singleton.1 h1]; exact ⟨rfl, hk⟩
  · exact h.err h0
theorem Calm.clr {A : Ad} (h : Calm A) : Calm A.clr.1 := h.spare 2 _ _ (by omega)
theorem Calm.sync (A : Ad) : Calm A.sync.1 := by
  unfold Ad.sync
  by_cases hd : A.down = true
  · rw [if_pos hd]; exact fun h => by rw [hd] at h; cases h
  · rw [if_neg hd]
    by_cases hf : A.fuse = 0
    · rw [if_pos hf]; exact Calm.off A
    · rw [if_neg hf]; exact Calm.nil rfl
theorem Calm.wr {A : Ad} (h : Calm A) (nm : ByteArray) (ps : List Nat) : Calm (A.wr nm ps).1 := by
  have hr : Calm (runA (wrS nm ps) A).1 := by
    unfold wrS
    refine runA_head (P := fun r => Calm r.1) (fun _ => h.clr) fun _ => ?_
    have i1 := h.clr
    generalize A.clr.1 = A1 at i1 ⊢
    refine runA_head (P := fun r => Calm r.1) (fun _ => i1.spare 0 _ _ (by omega)) fun _ => ?_
    have i2 := i1.spare 0 ⟨#[]⟩ [] (by omega)
    generalize (A1.step ⟨0, spr, ⟨#[]⟩, []⟩).1 = A2 at i2 ⊢
    refine runA_head (P := fun r => Calm r.1) (fun _ => i2.spare 1 _ _ (by omega)) fun _ => ?_
    generalize (A2.step ⟨1, spr, ⟨#[]⟩, ps⟩).1 = A3
    refine runA_head (P := fun r => Calm r.1) (fun _ => Calm.sync A3) fun _ => ?_
    have i4 := Calm.sync A3
    generalize A3.sync.1 = A4 at i4 ⊢
    refine runA_head (P := fun r => Calm r.1) (fun h0 => i4.err h0) fun _ => ?_
    exact runA_head (P := fun r => Calm r.1) (fun _ => Calm.sync _) fun _ => Calm.sync _
  unfold Ad.wr wrF
  by_cases h4 : (runA (wrS nm ps) A).2 = 4
  · rw [if_pos h4]; exact hr.clr
  · rw [if_neg h4]; exact hr
theorem look_with_ne {f : ByteArray × List Nat} {n : ByteArray} (h : n ≠ f.1) : ∀ l : Fls, lookF (withF l f) n = lookF l n
  | [] => by
    show (if f.1 = n then some f.2 else none) = none
    rw [if_neg fun e => h e.symm]
  | x :: l => by
    unfold withF
    split
    · show (if f.1 = n then some f.2 else lookF (x :: l) n) = _
      rw [if_neg fun e => h e.symm]
    · show (if x.1 = n then some x.2 else lookF (withF l f) n) = if x.1 = n then some x.2 else lookF l n
      rw [look_with_ne h l]
theorem doF_spare (l : Fls) (c : DCh) (ha : c.a = spr) (hk : c.kind < 3) {n : ByteArray} (hn : n ≠ spr) : lookF (doF l c) n = lookF l n := by
  obtain ⟨kd, a, b, p⟩ := c
  simp only at ha hk
  subst ha
  match kd, hk with
  | 0, _ => rw [doF0]; exact look_with_ne hn l
  | 1, _ => rw [doF1, look_with_ne hn, look_without, if_neg hn]
  | 2, _ => rw [doF2, look_without, if_neg hn]
theorem fold_spare {n : ByteArray} (hn : n ≠ spr) : ∀ (cs : List DCh) (l : Fls), (∀ c ∈ cs, c.a = spr ∧ c.kind < 3) → lookF (cs.foldl doF l) n = lookF l n
  | [], l, _ => rfl
  | c :: cs, l, h => by
    have hc := h c List.mem_cons_self
    rw [List.foldl_cons, fold_spare hn cs _ fun x hx => h x (List.mem_cons_of_mem _ hx), doF_spare l c hc.1 hc.2 hn]
/-- what is there may be relied upon -/
theorem Inv.add {H M : List Nat → Prop} {A : Ad} (h : Inv H M A) (hc : Calm A) (hd : A.down = false) {ds z : List Nat} (hD : D32 ds) (hz : lookF A.now (fileB ds) = some z) : Inv (fun es => H es ∨ es = ds) M A := by
  have hall := hc hd
  have hne := fileB_spr ds hD
  have hs : lookF A.sure (fileB ds) = some z := by rw [← hz, h.now, fold_spare hne _ _ hall]
  refine ⟨fun es he => by
    rcases he with he | rfl
    · exact h.dig es he
    · exact hD, h.now, fun k => ⟨(h.good k).srt, fun es he => ?_, (h.good k).may⟩, h.app⟩
  rcases he with he | rfl
  · exact (h.good k).must es he
  · exact ⟨z, by rw [fold_spare hne _ _ fun c hx => hall c (List.mem_of_mem_take hx)]; exact hs⟩
/-- a Put -/
theorem put_inv {H M : List Nat → Prop} {A : Ad} (h : Inv H M A) (hc : Calm A) (ps : List Nat) (hm : M (Sha.sum ps)) : Inv H M (A.put ps).1 ∧ Calm (A.put ps).1 ∧ ((A.put ps).2 = 0 → Inv (fun es => H es ∨ es = Sha.sum ps) M (A.put ps).1) := by
  have hD : D32 (Sha.sum ps) := ⟨sum_len _, sum_byte _⟩
  unfold Ad.put
  by_cases h6 : (szA A (fileB (Sha.sum ps))).2 = 6
  · rw [if_pos h6]
    have hw := wr_inv h hD rfl hm (ps := ps)
    exact ⟨hw.1, hc.wr _ _, fun h0 => hw.done h0 hD⟩
  · rw [if_neg h6]
    refine ⟨h, hc, fun h0 => ?_⟩
    have h0' : (szA A (fileB (Sha.sum ps))).2 = 0 := h0
    unfold szA at h0'
    cases hd : A.down with
    | true => rw [hd] at h0'; exact absurd h0' (show ¬ (5 : Int) = 0 by decide)
    | false =>
      rw [hd] at h0'
      cases hl : lookF A.now (fileB (Sha.sum ps)) with
      | none => rw [hl] at h0'; exact absurd h0' (show ¬ (6 : Int) = 0 by decide)
      | some z => exact h.add hc hd hD hl
theorem Calm.crash (A : Ad) (keep part : Int) : Calm (A.crash keep part) := Calm.nil rfl
theorem Calm.fused {A : Ad} (h : Calm A) (n : Int) : Calm (A.fused n).1 := by
  unfold Ad.fused
  by_cases hd : A.down = true
  · rw [if_pos hd]; exact h
  · rw [if_neg hd]; exact h
theorem Inv.fused {H M : List Nat → Prop} {A : Ad} (h : Inv H M A) (n : Int) : Inv H M (A.fused n).1 := by
  unfold Ad.fused
  by_cases hd : A.down = true
  · rw [if_pos hd]; exact h
  · rw [if_neg hd]; exact h.same rfl rfl rfl
end Go.Proofs.YtmomdfmilelilaaDoor
namespace Go.Proofs.YtmomdfmilelilaaDoor
set_option linter.unusedVariables false
theorem hex_small (ds : List Nat) (hd : ∀ z ∈ ds, z < 256) : ∀ z ∈ hex ds, z < 256 := by
  intro z hz
  unfold hex at hz
  obtain ⟨y, hy, hz⟩ := List.mem_flatMap.1 hz
  have h1 := hd y hy
  have h2 : ∀ n, n < 16 → hexd n < 256 := by decide
  simp only [List.mem_cons, List.not_mem_nil, or_false] at hz
  rcases hz with rfl | rfl
  · exact h2 _ (by omega)
  · exact h2 _ (by omega)
theorem str_inj {a b : List Nat} (ha : ∀ z ∈ a, z < 256) (hb : ∀ z ∈ b, z < 256) (h : str a = str b) : a = b := by
  unfold str at h
  have h1 : a.map UInt8.ofNat = b.map UInt8.ofNat := by
    have h2 := congrArg (fun s : ByteArray => s.data.toList) h
    simpa using h2
  have h3 := congrArg (List.map UInt8.toNat) h1
  rw [List.map_map, List.map_map] at h3
  have e : ∀ l : List Nat, (∀ z ∈ l, z < 256) → l.map (UInt8.toNat ∘ UInt8.ofNat) = l := fun l hl => by
    conv => rhs; rw [← List.map_id l]
    exact List.map_congr_left fun z hz => by
      have := hl z hz
      simp [UInt8.toNat_ofNat, Nat.mod_eq_of_lt this]
  rwa [e a ha, e b hb] at h3
theorem hexd_inj : ∀ a, a < 16 → ∀ b, b < 16 → hexd a = hexd b → a = b := by decide
theorem hex_inj : ∀ {a b : List Nat}, (∀ z ∈ a, z < 256) → (∀ z ∈ b, z < 256) → hex a = hex b → a = b
  | [], [], _, _, _ => rfl
  | [], y :: b, _, _, h => by
    unfold hex at h
    simp only [List.flatMap_cons, List.flatMap_nil, List.cons_append] at h
    cases h
  | x :: a, [], _, _, h => by
    unfold hex at h
    simp only [List.flatMap_cons, List.flatMap_nil, List.cons_append] at h
    cases h
  | x :: a, y :: b, ha, hb, h => by
    unfold hex at h
    simp only [List.flatMap_cons, List.cons_append, List.nil_append, List.cons.injEq] at h
    obtain ⟨h1, h2, h3⟩ := h
    have hx := ha x List.mem_cons_self
    have hy := hb y List.mem_cons_self
    have e1 := hexd_inj _ (by omega) _ (by omega) h1
    have e2 := hexd_inj _ (by omega) _ (by omega) h2
    have e3 := hex_inj (fun z hz => ha z (List.mem_cons_of_mem _ hz)) (fun z hz => hb z (List.mem_cons_of_mem _ hz)) h3
    rw [e3, show x = y by omega]
theorem fileB_inj {ds es : List Nat} (hd : D32 ds) (he : D32 es) (h : fileB ds = fileB es) : ds = es := by
  have h1 : str (hex ds) = str (hex es) := by
    unfold fileB at h
    have h2 := congrArg (fun b : ByteArray => b.data.toList.drop 2) h
    simp only [ByteArray.data_append, Array.toList_append] at h2
    apply ByteArray.ext
    apply Array.ext'
    simpa using h2
  have h2 := str_inj (hex_small ds hd.2) (hex_small es he.2) h1
  exact hex_inj hd.2 he.2 h2
def Ad.del (A : Ad) (ds : List Nat) : Ad × Int := runA [fun A => A.step ⟨2, fileB ds, ⟨#[]⟩, []⟩, Ad.sync] A
theorem step_err {A : Ad} {c : DCh} (h : (A.step c).2 ≠ 0) : (A.step c).1 = A ∨ (A.step c).2 = 5 := by
  unfold Ad.step at h ⊢
  by_cases hd : A.down = true
  · rw [if_pos hd]; exact .inl rfl
  · rw [if_neg hd] at h ⊢
    by_cases hm : A.may c ≠ 0
    · rw [if_pos hm]; exact .inl rfl
    · rw [if_neg hm] at h ⊢
      by_cases hf : A.fuse = 0
      · rw [if_pos hf]; exact .inr rfl
      · rw [if_neg hf] at h; exact absurd rfl h
theorem sync_err {A : Ad} (h : A.sync.2 ≠ 0) : A.sync.2 = 5 := by
  unfold Ad.sync at h ⊢
  by_cases hd : A.down = true
  · rw [if_pos hd]
  · rw [if_neg hd] at h ⊢
    by_cases hf : A.fuse = 0
    · rw [if_pos hf]
    · rw [if_neg hf] at h; exact absurd rfl h
/-- a Delete -/
theorem del_inv {H M : List Nat → Prop} {A : Ad} (h : Inv H M A) (hc : Calm A) (ds : List Nat) (hD : D32 ds) : Inv (fun es => H es ∧ es ≠ ds) M (A.del ds).1 ∧ Calm (A.del ds).1 ∧ ((A.del ds).2 = 0 → Inv (fun es => H es ∧ es ≠ ds) (fun es => M es ∧ es ≠ ds) (A.del ds).1) ∧ ((A.del ds).2 ≠ 0 → (A.del ds).2 = 5 ∨ (A.del ds).1 = A) := by
  have h' : Inv (fun es => H es ∧ es ≠ ds) M A := h.mono (fun es he => he.1) fun _ he => he
  have hg : Good (fun es => H es ∧ es ≠ ds) M (doF A.now ⟨2, fileB ds, ⟨#[]⟩, []⟩) := h'.gnow.gone _ _ _ fun es he e => he.2 (fileB_inj (h.dig es he.1) hD e)
  have i1 : Inv (fun es => H es ∧ es ≠ ds) M (A.step ⟨2, fileB ds, ⟨#[]⟩, []⟩).1 := h'.step _ (fun _ => hg) fun hk => by cases hk
  unfold Ad.del
  refine runA_head (P := fun r => Inv (fun es => H es ∧ es ≠ ds) M r.1 ∧ Calm r.1 ∧ (r.2 = 0 → Inv (fun es => H es ∧ es ≠ ds) (fun es => M es ∧ es ≠ ds) r.1) ∧ (r.2 ≠ 0 → r.2 = 5 ∨ r.1 = A)) (fun h0 => ⟨i1, hc.err h0, fun e => absurd e h0, fun _ => (step_err h0).symm⟩) fun h0 => ?_
  have n1 : lookF (A.step ⟨2, fileB ds, ⟨#[]⟩, []⟩).1.now (fileB ds) = none := by
    rw [(step_zero h0).2]
    show lookF (doF A.now ⟨2, fileB ds, ⟨#[]⟩, []⟩) (fileB ds) = none
    rw [doF2]; exact look_gone _ _
  generalize (A.step ⟨2, fileB ds, ⟨#[]⟩, []⟩).1 = A1 at i1 n1 ⊢
  refine runA_head (P := fun r => Inv (fun es => H es ∧ es ≠ ds) M r.1 ∧ Calm r.1 ∧ (r.2 = 0 → Inv (fun es => H es ∧ es ≠ ds) (fun es => M es ∧ es ≠ ds) r.1) ∧ (r.2 ≠ 0 → r.2 = 5 ∨ r.1 = A)) (fun h1 => ⟨i1.sync, Calm.sync A1, fun e => absurd e h1, fun _ => .inl (sync_err h1)⟩) fun h1 => ?_
  obtain ⟨k1, k2, k3⟩ := sync_zero h1
  refine ⟨i1.sync, Calm.sync A1, fun _ => ?_, fun e => absurd rfl e⟩
  have g := i1.gnow
  have g' : Good (fun es => H es ∧ es ≠ ds) (fun es => M es ∧ es ≠ ds) A1.now := ⟨g.srt, g.must, fun n z hz => by
    rcases g.may n z hz with e | ⟨es, a, b, c, e⟩
    · exact .inl e
    · refine .inr ⟨es, a, b, c, e, fun e2 => ?_⟩
      rw [b, e2, n1] at hz
      cases hz⟩
  show Inv _ _ A1.sync.1
  exact ⟨i1.dig, by rw [k1, k2, k3]; rfl, fun k => by rw [k2, k3, List.take_nil]; exact g', fun c hc => by rw [k2] at hc; cases hc⟩
/-- New -/
theorem nw_inv {H M : List Nat → Prop} {A : Ad} (h : Inv H M A) (hc : Calm A) : Inv H M (runA nwS A).1 ∧ Calm (runA nwS A).1 := by
  unfold nwS
  refine runA_head (P := fun r => Inv H M r.1 ∧ Calm r.1) (fun _ => ⟨h.spare 2 _ _ (by omega), hc.spare 2 _ _ (by omega)⟩) fun _ => ?_
  have i1 := h.spare 2 ⟨#[]⟩ [] (by omega)
  exact runA_head (P := fun r => Inv H M r.1 ∧ Calm r.1) (fun _ => ⟨i1.sync, Calm.sync _⟩) fun _ => ⟨i1.sync, Calm.sync _⟩
end Go.Proofs.YtmomdfmilelilaaDoor
namespace Go.Proofs.YtmomdfmilelilaaDoor
set_option linter.unusedVariables false
theorem step_code (A : Ad) (c : DCh) : (A.step c).2 = 5 ∨ (A.step c).2 = A.may c := by
  unfold Ad.step
  by_cases hd : A.down = true
  · rw [if_pos hd]; exact .inl rfl
  · rw [if_neg hd]
    by_cases hm : A.may c ≠ 0
    · rw [if_pos hm]; exact .inr rfl
    · rw [if_neg hm]
      by_cases hf : A.fuse = 0
      · rw [if_pos hf]; exact .inl rfl
      · rw [if_neg hf]; exact .inr (by show (0 : Int) = _; omega)
theorem may2 (A : Ad) (s b : ByteArray) (p : List Nat) : A.may ⟨2, s, b, p⟩ = if (lookF A.now s).isNone then 6 else 0 := by
  unfold Ad.may
  simp
theorem clr_code (A : Ad) : (A.clr.2 = 0 ∨ A.clr.2 = 5) ∧ (A.clr.2 = 0 → lookF A.clr.1.now spr = none) := by
  have h := step_code A ⟨2, spr, ⟨#[]⟩, []⟩
  rw [may2] at h
  unfold Ad.clr
  simp only
  generalize hs : A.step ⟨2, spr, ⟨#[]⟩, []⟩ = r at h
  cases hl : lookF A.now spr with
  | none =>
    rw [hl] at h
    simp only [Option.isNone_none, if_true] at h
    rcases h with h | h
    · rw [h]; exact ⟨.inr rfl, fun e => by cases e⟩
    · rw [h]
      refine ⟨.inl rfl, fun _ => ?_⟩
      have h6 : (A.step ⟨2, spr, ⟨#[]⟩, []⟩).2 ≠ 0 := by rw [hs, h]; decide
      rcases step_err h6 with e | e
      · rw [hs] at e; rw [e]; exact hl
      · rw [hs, h] at e; exact absurd e (by decide)
  | some z =>
    rw [hl] at h
    simp only [Option.isNone_some, Bool.false_eq_true, if_false] at h
    rcases h with h | h
    · rw [h]; exact ⟨.inr rfl, fun e => by cases e⟩
    · rw [h]
      refine ⟨.inl rfl, fun _ => ?_⟩
      have h0 : (A.step ⟨2, spr, ⟨#[]⟩, []⟩).2 = 0 := by rw [hs]; exact h
      have := (step_zero h0).2
      rw [hs] at this
      rw [this]
      show lookF (doF A.now ⟨2, spr, ⟨#[]⟩, []⟩) spr = none
      rw [doF2]; exact look_gone _ _
theorem sync_code (A : Ad) : A.sync.2 = 0 ∨ A.sync.2 = 5 := by
  by_cases h : A.sync.2 = 0
  · exact .inl h
  · exact .inr (sync_err h)
/-- the answers of a write -/
theorem wr_code (A : Ad) (ps ds : List Nat) (hD : D32 ds) (hp : ps.length ≤ 1048576) : (A.wr (fileB ds) ps).2 = 0 ∨ (A.wr (fileB ds) ps).2 = 4 ∨ (A.wr (fileB ds) ps).2 = 5 := by
  have hr : (runA (wrS (fileB ds) ps) A).2 = 0 ∨ (runA (wrS (fileB ds) ps) A).2 = 4 ∨ (runA (wrS (fileB ds) ps) A).2 = 5 := by
    unfold wrS
    refine runA_head (P := fun r => r.2 = 0 ∨ r.2 = 4 ∨ r.2 = 5) (fun _ => (clr_code A).1.imp id .inr) fun h0 => ?_
    have n1 := (clr_code A).2 h0
    generalize A.clr.1 = A1 at n1 ⊢
    have c2 : (A1.step ⟨0, spr, ⟨#[]⟩, []⟩).2 = 0 ∨ (A1.step ⟨0, spr, ⟨#[]⟩, []⟩).2 = 4 ∨ (A1.step ⟨0, spr, ⟨#[]⟩, []⟩).2 = 5 := by
      rcases step_code A1 ⟨0, spr, ⟨#[]⟩, []⟩ with h | h
      · exact .inr (.inr h)
      · rw [h]
        unfold Ad.may
        rw [n1, spr_isNm]
        simp only [if_true, Bool.true_eq_false, if_false, Option.isSome_none, Bool.false_eq_true]
        split
        · exact .inr (.inl rfl)
        · exact .inl rfl
    refine runA_head (P := fun r => r.2 = 0 ∨ r.2 = 4 ∨ r.2 = 5) (fun _ => c2) fun h0 => ?_
    have n2 : lookF (A1.step ⟨0, spr, ⟨#[]⟩, []⟩).1.now spr = some [] := by
      rw [(step_zero h0).2]
      show lookF (doF A1.now ⟨0, spr, ⟨#[]⟩, []⟩) spr = _
      rw [doF0, look_with spr n1, if_pos rfl]
    generalize (A1.step ⟨0, spr, ⟨#[]⟩, []⟩).1 = A2 at n2 ⊢
    have c3 : (A2.step ⟨1, spr, ⟨#[]⟩, ps⟩).2 = 0 ∨ (A2.step ⟨1, spr, ⟨#[]⟩, ps⟩).2 = 4 ∨ (A2.step ⟨1, spr, ⟨#[]⟩, ps⟩).2 = 5 := by
      rcases step_code A2 ⟨1, spr, ⟨#[]⟩, ps⟩ with h | h
      · exact .inr (.inr h)
      · rw [h]
        unfold Ad.may
        simp only [n2, Option.isNone_some]
        rw [if_neg (by decide), if_neg (by decide), if_pos trivial, if_neg (by omega)]
        split
        · exact .inr (.inl rfl)
        · exact .inl rfl
    refine runA_head (P := fun r => r.2 = 0 ∨ r.2 = 4 ∨ r.2 = 5) (fun _ => c3) fun h0 => ?_
    have n3 : lookF (A2.step ⟨1, spr, ⟨#[]⟩, ps⟩).1.now spr = some ps := by
      rw [(step_zero h0).2]
      show lookF (doF A2.now ⟨1, spr, ⟨#[]⟩, ps⟩) spr = _
      rw [doF1, look_with spr (look_gone A2.now spr), if_pos rfl, n2]
      rfl
    generalize (A2.step ⟨1, spr, ⟨#[]⟩, ps⟩).1 = A3 at n3 ⊢
    refine runA_head (P := fun r => r.2 = 0 ∨ r.2 = 4 ∨ r.2 = 5) (fun _ => (sync_code A3).imp id .inr) fun h0 => ?_
    have n4 : lookF A3.sync.1.now spr = some ps := by rw [(sync_zero h0).1]; exact n3
    generalize A3.sync.1 = A4 at n4 ⊢
    have c5 : (A4.step ⟨3, spr, fileB ds, []⟩).2 = 0 ∨ (A4.step ⟨3, spr, fileB ds, []⟩).2 = 4 ∨ (A4.step ⟨3, spr, fileB ds, []⟩).2 = 5 := by
      rcases step_code A4 ⟨3, spr, fileB ds, []⟩ with h | h
      · exact .inr (.inr h)
      · rw [h]
        unfold Ad.may
        simp only [n4, Option.isNone_some]
        rw [if_neg (by decide), if_neg (by decide), if_neg (by decide), if_neg (by rw [fileB_isNm ds hD]; simp)]
        exact .inl rfl
    refine runA_head (P := fun r => r.2 = 0 ∨ r.2 = 4 ∨ r.2 = 5) (fun _ => c5) fun h0 => ?_
    exact runA_head (P := fun r => r.2 = 0 ∨ r.2 = 4 ∨ r.2 = 5) (fun _ => (sync_code _).imp id .inr) fun _ => .inl rfl
  unfold Ad.wr wrF
  by_cases h4 : (runA (wrS (fileB ds) ps) A).2 = 4
  · rw [if_pos h4]
    generalize (runA (wrS (fileB ds) ps) A).1 = A1
    show (if A1.clr.2 ≠ 0 then A1.clr.2 else 4) = 0 ∨ (if A1.clr.2 ≠ 0 then A1.clr.2 else 4) = 4 ∨ (if A1.clr.2 ≠ 0 then A1.clr.2 else 4) = 5
    rcases (clr_code A1).1 with e | e
    · rw [e]; exact .inr (.inl rfl)
    · rw [e]; exact .inr (.inr rfl)
  · rw [if_neg h4]; exact hr
/-- the answers of a Put -/
theorem put_code (A : Ad) (ps : List Nat) (hp : ps.length ≤ 1048576) : (A.put ps).2 = 0 ∨ (A.put ps).2 = 4 ∨ (A.put ps).2 = 5 := by
  have hD : D32 (Sha.sum ps) := ⟨sum_len _, sum_byte _⟩
  unfold Ad.put
  by_cases h6 : (szA A (fileB (Sha.sum ps))).2 = 6
  · rw [if_pos h6]; exact wr_code A ps _ hD hp
  · rw [if_neg h6]
    show (szA A (fileB (Sha.sum ps))).2 = 0 ∨ (szA A (fileB (Sha.sum ps))).2 = 4 ∨ (szA A (fileB (Sha.sum ps))).2 = 5
    unfold szA at h6 ⊢
    cases hd : A.down with
    | true => exact .inr (.inr rfl)
    | false =>
      rw [hd] at h6
      cases hl : lookF A.now (fileB (Sha.sum ps)) with
      | none => rw [hl] at h6; exact absurd rfl h6
      | some z => exact .inl rfl
/-- New with the power on and no fuse -/
theorem nw_code {A : Ad} (hd : A.down = false) (hf : A.fuse < 0) : (runA nwS A).2 = 0 ∨ (runA nwS A).2 = 6 := by
  unfold nwS
  have hs : ∀ c, (A.step c).2 = A.may c := fun c => by
    unfold Ad.step
    rw [hd]
    simp only [Bool.false_eq_true, if_false]
    by_cases hm : A.may c ≠ 0
    · rw [if_pos hm]
    · rw [if_neg hm, if_neg (by omega)]; show (0 : Int) = _; omega
  refine runA_head (P := fun r => r.2 = 0 ∨ r.2 = 6) (fun h0 => ?_) fun h0 => ?_
  · rw [hs, may2] at h0 ⊢
    by_cases e : (lookF A.now spr).isNone = true
    · rw [if_pos e]; exact .inr rfl
    · rw [if_neg e] at h0; exact absurd rfl h0
  · have e := (step_zero h0).2
    have k1 : (A.step ⟨2, spr, ⟨#[]⟩, []⟩).1.down = false := by rw [e]; exact hd
    have k2 : (A.step ⟨2, spr, ⟨#[]⟩, []⟩).1.fuse ≠ 0 := by
      rw [e]
      show (if 0 < A.fuse then A.fuse - 1 else A.fuse) ≠ 0
      rw [if_neg (by omega)]; omega
    generalize (A.step ⟨2, spr, ⟨#[]⟩, []⟩).1 = A1 at k1 k2 ⊢
    have k3 : A1.sync.2 = 0 := by
      unfold Ad.sync
      rw [k1]
      simp only [Bool.false_eq_true, if_false]
      rw [if_neg k2]
    exact runA_head (P := fun r => r.2 = 0 ∨ r.2 = 6) (fun h => absurd k3 h) fun _ => .inl rfl
end Go.Proofs.YtmomdfmilelilaaDoor
namespace Go.Proofs.YtmomdfmilelilaaDoor
set_option linter.unusedVariables false
theorem wr4_inv {H M : List Nat → Prop} {A : Ad} {ps ds : List Nat} (h : Inv H M A) (hD : D32 ds) (h4 : (A.wr (fileB ds) ps).2 = 4) : Inv H M (A.wr (fileB ds) ps).1 := by
  have hr : (runA (wrS (fileB ds) ps) A).2 = 4 → Inv H M (runA (wrS (fileB ds) ps) A).1 := by
    unfold wrS
    refine runA_head (P := fun r => r.2 = 4 → Inv H M r.1) (fun _ _ => h.clr) fun h0 => ?_
    have i1 := h.clr
    generalize A.clr.1 = A1 at i1 ⊢
    refine runA_head (P := fun r => r.2 = 4 → Inv H M r.1) (fun _ _ => i1.spare 0 _ _ (by omega)) fun h0 => ?_
    obtain ⟨m2, s2⟩ := step_zero h0
    have i2 := i1.spare 0 ⟨#[]⟩ [] (by omega)
    have n2 : lookF (A1.step ⟨0, spr, ⟨#[]⟩, []⟩).1.now spr = some [] := by
      rw [s2]
      show lookF (doF A1.now ⟨0, spr, ⟨#[]⟩, []⟩) spr = _
      rw [doF0, look_with spr (may0_none m2), if_pos rfl]
    generalize (A1.step ⟨0, spr, ⟨#[]⟩, []⟩).1 = A2 at i2 n2 ⊢
    refine runA_head (P := fun r => r.2 = 4 → Inv H M r.1) (fun _ _ => i2.spare 1 _ _ (by omega)) fun h0 => ?_
    obtain ⟨m3, s3⟩ := step_zero h0
    have i3 := i2.spare 1 ⟨#[]⟩ ps (by omega)
    have n3 : lookF (A2.step ⟨1, spr, ⟨#[]⟩, ps⟩).1.now spr = some ps := by
      rw [s3]
      show lookF (doF A2.now ⟨1, spr, ⟨#[]⟩, ps⟩) spr = _
      rw [doF1, look_with spr (look_gone A2.now spr), if_pos rfl, n2]
      rfl
    generalize (A2.step ⟨1, spr, ⟨#[]⟩, ps⟩).1 = A3 at i3 n3 ⊢
    have sy : ∀ A : Ad, A.sync.2 = 4 → False := fun A e => by
      rcases sync_code A with k | k
      · rw [k] at e; exact absurd e (by decide)
      · rw [k] at e; exact absurd e (by decide)
    refine runA_head (P := fun r => r.2 = 4 → Inv H M r.1) (fun _ e => (sy _ e).elim) fun h0 => ?_
    have i4 := i3.sync
    have n4 : lookF A3.sync.1.now spr = some ps := by rw [(sync_zero h0).1]; exact n3
    generalize A3.sync.1 = A4 at i4 n4 ⊢
    refine runA_head (P := fun r => r.2 = 4 → Inv H M r.1) (fun _ e => ?_) fun h0 => ?_
    · exfalso
      have e' : (A4.step ⟨3, spr, fileB ds, []⟩).2 = 4 := e
      rcases step_code A4 ⟨3, spr, fileB ds, []⟩ with k | k
      · rw [k] at e'; exact absurd e' (by decide)
      · rw [k] at e'
        unfold Ad.may at e'
        simp only [n4, Option.isNone_some] at e'
        rw [if_neg (by decide), if_neg (by decide), if_neg (by decide), if_neg (by rw [fileB_isNm ds hD]; simp)] at e'
        exact absurd e' (by decide)
    · exact runA_head (P := fun r => r.2 = 4 → Inv H M r.1) (fun _ e => (sy _ e).elim) fun _ e => absurd (show (0 : Int) = 4 from e) (by decide)
  unfold Ad.wr wrF at h4 ⊢
  by_cases h : (runA (wrS (fileB ds) ps) A).2 = 4
  · rw [if_pos h]; exact (hr h).clr
  · rw [if_neg h] at h4; exact absurd h4 h
theorem put4_inv {H M : List Nat → Prop} {A : Ad} {ps : List Nat} (h : Inv H M A) (h4 : (A.put ps).2 = 4) : Inv H M (A.put ps).1 := by
  unfold Ad.put at h4 ⊢
  by_cases h6 : (szA A (fileB (Sha.sum ps))).2 = 6
  · rw [if_pos h6] at h4 ⊢; exact wr4_inv h ⟨sum_len _, sum_byte _⟩ h4
  · rw [if_neg h6]; exact h
theorem hasP_fileB (ds : List Nat) : hasP ⟨#[98, 47]⟩ (fileB ds) = true := by
  unfold hasP Lib.hasPrefix fileB
  rw [ByteArray.data_append, Array.toList_append]
  rfl
theorem all_map {l : List ByteArray} : (∀ n ∈ l, ∃ ds, D32 ds ∧ n = fileB ds) → ∃ ls : List (List Nat), l = ls.map fileB ∧ ∀ d ∈ ls, D32 d := by
  induction l with
  | nil => exact fun _ => ⟨[], rfl, fun d hd => by cases hd⟩
  | cons n l ih =>
    intro h
    obtain ⟨ds, h1, h2⟩ := h n List.mem_cons_self
    obtain ⟨ls, h3, h4⟩ := ih fun m hm => h m (List.mem_cons_of_mem _ hm)
    refine ⟨ds :: ls, by rw [h2, h3]; rfl, fun d hd => ?_⟩
    rcases List.mem_cons.1 hd with rfl | hd
    · exact h1
    · exact h4 d hd
/-- what a List tells -/
theorem Good.names {H M : List Nat → Prop} {l : Fls} (g : Good H M l) : ∃ ls : List (List Nat), namesF l ⟨#[98, 47]⟩ = ls.map fileB ∧ (∀ d ∈ ls, D32 d) ∧ ∀ d, D32 d → (d ∈ ls ↔ (lookF l (fileB d)).isSome = true) := by
  obtain ⟨ls, h1, h2⟩ := all_map (l := namesF l ⟨#[98, 47]⟩) fun n hn => by
    obtain ⟨k1, k2⟩ := mem_namesF.1 hn
    obtain ⟨z, hz⟩ := Option.isSome_iff_exists.1 k1
    rcases g.may n z hz with rfl | ⟨ds, a, b, _⟩
    · exact absurd k2 (by decide)
    · exact ⟨ds, a, b⟩
  refine ⟨ls, h1, h2, fun d hd => ?_⟩
  have h3 : d ∈ ls ↔ fileB d ∈ namesF l ⟨#[98, 47]⟩ := by
    rw [h1, List.mem_map]
    refine ⟨fun h => ⟨d, h, rfl⟩, ?_⟩
    rintro ⟨e, he, hf⟩
    rw [← fileB_inj (h2 e he) hd hf]; exact he
  rw [h3, mem_namesF]
  exact ⟨fun h => h.1, fun h => ⟨h, hasP_fileB d⟩⟩
/-- the list without one -/
def wo (l : List (List Nat)) (d : List Nat) : List (List Nat) := l.filter fun x => decide (x ≠ d)
theorem mem_wo {l : List (List Nat)} {d x : List Nat} : x ∈ wo l d ↔ x ∈ l ∧ x ≠ d := by
  unfold wo; rw [List.mem_filter]; simp
/-- a script's two lists, and the disk -/
structure PSt (A : Ad) (Hl Sl : List (List Nat)) : Prop where
  inv : Inv (fun es => es ∈ Hl) (fun es => es ∈ Hl ∨ es ∈ Sl) A
  calm : Calm A
  dh : ∀ d ∈ Hl, D32 d
  ds : ∀ d ∈ Sl, D32 d
theorem wo_d {l : List (List Nat)} (h : ∀ d ∈ l, D32 d) (x : List Nat) : ∀ d ∈ wo l x, D32 d := fun d hd => h d (mem_wo.1 hd).1
theorem app_d {l : List (List Nat)} (h : ∀ d ∈ l, D32 d) {x : List Nat} (hx : D32 x) : ∀ d ∈ l ++ [x], D32 d := fun d hd => by
  rcases List.mem_append.1 hd with h1 | h1
  · exact h d h1
  · rw [List.mem_singleton.1 h1]; exact hx
theorem sum_d (ps : List Nat) : D32 (Sha.sum ps) := ⟨sum_len _, sum_byte _⟩
theorem PSt.init (room : Int) : PSt ⟨room, -1, false, [], [], []⟩ [] [] := by
  refine ⟨⟨(fun d h => by cases h), rfl, fun k => ?_, (fun c hc => by cases hc)⟩, Calm.nil rfl, (fun d h => by cases h), (fun d h => by cases h)⟩
  have e : ((⟨room, -1, false, [], [], []⟩ : Ad).loose.take k).foldl doF (⟨room, -1, false, [], [], []⟩ : Ad).sure = [] := by
    show (([] : List DCh).take k).foldl doF [] = []
    rw [List.take_nil]; rfl
  rw [e]
  exact ⟨List.Pairwise.nil, (fun d h => by cases h), (fun n z hz => by cases hz)⟩
theorem PSt.put0 {A : Ad} {Hl Sl : List (List Nat)} (h : PSt A Hl Sl) (ps : List Nat) (h0 : (A.put ps).2 = 0) : PSt (A.put ps).1 (wo Hl (Sha.sum ps) ++ [Sha.sum ps]) Sl := by
  have i := put_inv (M := fun es => (es ∈ Hl ∨ es ∈ Sl) ∨ es = Sha.sum ps) (h.inv.mono (fun _ a => a) fun _ a => .inl a) h.calm ps (.inr rfl)
  refine ⟨(i.2.2 h0).mono (fun es he => ?_) (fun es he => ?_), i.2.1, app_d (wo_d h.dh _) (sum_d ps), h.ds⟩
  · rcases List.mem_append.1 he with h1 | h1
    · exact .inl (mem_wo.1 h1).1
    · exact .inr (List.mem_singleton.1 h1)
  · by_cases e : es = Sha.sum ps
    · exact .inl (List.mem_append_right _ (by rw [e]; exact List.mem_cons_self))
    · rcases he with (he | he) | he
      · exact .inl (List.mem_append_left _ (mem_wo.2 ⟨he, e⟩))
      · exact .inr he
      · exact absurd he e
theorem PSt.put5 {A : Ad} {Hl Sl : List (List Nat)} (h : PSt A Hl Sl) (ps : List Nat) : PSt (A.put ps).1 Hl (Sl ++ [Sha.sum ps]) := by
  have i := put_inv (M := fun es => (es ∈ Hl ∨ es ∈ Sl) ∨ es = Sha.sum ps) (h.inv.mono (fun _ a => a) fun _ a => .inl a) h.calm ps (.inr rfl)
  refine ⟨i.1.mono (fun es he => he) (fun es he => ?_), i.2.1, h.dh, app_d h.ds (sum_d ps)⟩
  rcases he with (he | he) | he
  · exact .inl he
  · exact .inr (List.mem_append_left _ he)
  · exact .inr (List.mem_append_right _ (by rw [he]; exact List.mem_cons_self))
theorem PSt.put4 {A : Ad} {Hl Sl : List (List Nat)} (h : PSt A Hl Sl) (ps : List Nat) (h4 : (A.put ps).2 = 4) : PSt (A.put ps).1 Hl Sl :=
  ⟨put4_inv h.inv h4, (put_inv (M := fun es => (es ∈ Hl ∨ es ∈ Sl) ∨ es = Sha.sum ps) (h.inv.mono (fun _ a => a) fun _ a => .inl a) h.calm ps (.inr rfl)).2.1, h.dh, h.ds⟩
theorem PSt.del0 {A : Ad} {Hl Sl : List (List Nat)} (h : PSt A Hl Sl) (ds : List Nat) (hD : D32 ds) (h0 : (A.del ds).2 = 0) : PSt (A.del ds).1 (wo Hl ds) (wo Sl ds) := by
  obtain ⟨i1, i2, i3, i4⟩ := del_inv h.inv h.calm ds hD
  refine ⟨(i3 h0).mono (fun es he => mem_wo.1 he) (fun es he => ?_), i2, wo_d h.dh _, wo_d h.ds _⟩
  rcases he.1 with h1 | h1
  · exact .inl (mem_wo.2 ⟨h1, he.2⟩)
  · exact .inr (mem_wo.2 ⟨h1, he.2⟩)
theorem PSt.del5 {A : Ad} {Hl Sl : List (List Nat)} (h : PSt A Hl Sl) (ds : List Nat) (hD : D32 ds) : PSt (A.del ds).1 (wo Hl ds) (Sl ++ [ds]) := by
  obtain ⟨i1, i2, i3, i4⟩ := del_inv h.inv h.calm ds hD
  refine ⟨i1.mono (fun es he => mem_wo.1 he) (fun es he => ?_), i2, wo_d h.dh _, app_d h.ds hD⟩
  by_cases e : es = ds
  · exact .inr (List.mem_append_right _ (by rw [e]; exact List.mem_cons_self))
  · rcases he with h1 | h1
    · exact .inl (mem_wo.2 ⟨h1, e⟩)
    · exact .inr (List.mem_append_left _ h1)
theorem PSt.delx {A : Ad} {Hl Sl : List (List Nat)} (h : PSt A Hl Sl) (ds : List Nat) (hD : D32 ds) (h0 : (A.del ds).2 ≠ 0) (h5 : (A.del ds).2 = 5 → ds ∉ Hl) : PSt (A.del ds).1 Hl Sl := by
  obtain ⟨i1, i2, i3, i4⟩ := del_inv h.inv h.calm ds hD
  rcases i4 h0 with e | e
  · refine ⟨i1.mono (fun es he => ⟨he, fun k => h5 e (by rw [← k]; exact he)⟩) (fun es he => he), i2, h.dh, h.ds⟩
  · exact ⟨by rw [e]; exact h.inv, i2, h.dh, h.ds⟩
theorem PSt.fused {A : Ad} {Hl Sl : List (List Nat)} (h : PSt A Hl Sl) (n : Int) : PSt (A.fused n).1 Hl Sl := ⟨h.inv.fused n, h.calm.fused n, h.dh, h.ds⟩
theorem PSt.crash {A : Ad} {Hl Sl : List (List Nat)} (h : PSt A Hl Sl) (k p : Int) : PSt (A.crash k p) Hl Sl := ⟨h.inv.crash k p, Calm.crash _ _ _, h.dh, h.ds⟩
theorem PSt.nw {A : Ad} {Hl Sl : List (List Nat)} (h : PSt A Hl Sl) : PSt (runA nwS A).1 Hl Sl := ⟨(nw_inv h.inv h.calm).1, (nw_inv h.inv h.calm).2, h.dh, h.ds⟩
/-- what the look at all of it finds -/
theorem PSt.told {A : Ad} {Hl Sl : List (List Nat)} (h : PSt A Hl Sl) (hd : A.down = false) : ∃ ls : List (List Nat), namesF A.now ⟨#[98, 47]⟩ = ls.map fileB ∧ (∀ d ∈ ls, D32 d) ∧ (∀ d ∈ ls, ckA A (fileB d) d = 0 ∧ (d ∈ Hl ∨ d ∈ Sl)) ∧ ∀ d ∈ Hl, d ∈ ls := by
  have g := h.inv.gnow
  obtain ⟨ls, h1, h2, h3⟩ := g.names
  refine ⟨ls, h1, h2, fun d hm => ?_, fun d hm => ?_⟩
  · have h4 := (h3 d (h2 d hm)).1 hm
    obtain ⟨z, hz⟩ := Option.isSome_iff_exists.1 h4
    rcases g.may _ z hz with e | ⟨es, a, b, c, e⟩
    · exact absurd e (fileB_spr d (h2 d hm))
    · have e2 := fileB_inj (h2 d hm) a b
      refine ⟨?_, by rw [e2]; exact e⟩
      unfold ckA
      rw [hd, hz]
      simp only [Bool.false_eq_true, if_false]
      rw [if_pos (by rw [c, e2])]
  · obtain ⟨z, hz⟩ := g.must d hm
    exact (h3 d (h.dh d hm)).2 (by rw [hz]; rfl)
end Go.Proofs.YtmomdfmilelilaaDoor
