/-
  What a journal's file is, in every state that a loss of power can leave: plain.
-/
import Derived.Test.YtmomdfmilelilaaJof
namespace Go.Proofs.Ytmomdfmilelilaa
set_option linter.unusedVariables false
theorem runA_headJ {f : Ad → Ad × Int} {fs : List (Ad → Ad × Int)} {A : Ad} {P : Ad × Int → Prop} (h1 : (f A).2 ≠ 0 → P (f A)) (h2 : (f A).2 = 0 → P (runA fs (f A).1)) : P (runA (f :: fs) A) := by
  show P (if (f A).2 ≠ 0 then f A else runA fs (f A).1)
  by_cases h : (f A).2 ≠ 0
  · rw [if_pos h]; exact h1 h
  · rw [if_neg h]; exact h2 (by omega)
theorem step_zeroJ {A : Ad} {c : DCh} (h : (A.step c).2 = 0) : A.may c = 0 ∧ (A.step c).1 = A.did c := by
  unfold Ad.step at h ⊢
  by_cases hd : A.down = true
  · rw [if_pos hd] at h; exact absurd h (show ¬ (5 : Int) = 0 by decide)
  · rw [if_neg hd] at h ⊢
    by_cases hm : A.may c ≠ 0
    · rw [if_pos hm] at h; exact absurd h hm
    · rw [if_neg hm] at h ⊢
      by_cases hf : A.fuse = 0
      · rw [if_pos hf] at h; exact absurd h (show ¬ (5 : Int) = 0 by decide)
      · rw [if_neg hf]; exact ⟨by omega, rfl⟩
/-- a step's answer: and where it is not done the disk is as it was, or its power is off -/
theorem step_errJ {A : Ad} {c : DCh} (h : (A.step c).2 ≠ 0) : ((A.step c).1 = A ∧ ((A.step c).2 = 5 ∧ A.down = true ∨ A.down = false ∧ (A.step c).2 = A.may c)) ∨ ((A.step c).1 = A.off ∧ (A.step c).2 = 5) := by
  unfold Ad.step at h ⊢
  by_cases hd : A.down = true
  · rw [if_pos hd]; exact .inl ⟨rfl, .inl ⟨rfl, hd⟩⟩
  · rw [if_neg hd] at h ⊢
    by_cases hm : A.may c ≠ 0
    · rw [if_pos hm]; exact .inl ⟨rfl, .inr ⟨by cases h2 : A.down; rfl; exact absurd h2 hd, rfl⟩⟩
    · rw [if_neg hm] at h ⊢
      by_cases hf : A.fuse = 0
      · rw [if_pos hf]; exact .inr ⟨rfl, rfl⟩
      · rw [if_neg hf] at h; exact absurd rfl h
theorem sync_zeroJ {A : Ad} (h : A.sync.2 = 0) : A.sync.1.now = A.now ∧ A.sync.1.loose = [] ∧ A.sync.1.sure = A.now ∧ A.sync.1.down = false ∧ A.sync.1.room = A.room := by
  unfold Ad.sync at h ⊢
  by_cases hd : A.down = true
  · rw [if_pos hd] at h; exact absurd h (show ¬ (5 : Int) = 0 by decide)
  · rw [if_neg hd] at h ⊢
    by_cases hf : A.fuse = 0
    · rw [if_pos hf] at h; exact absurd h (show ¬ (5 : Int) = 0 by decide)
    · rw [if_neg hf]; exact ⟨rfl, rfl, rfl, by show A.down = false; cases h2 : A.down; rfl; exact absurd h2 hd, rfl⟩
theorem sync_errJ {A : Ad} (h : A.sync.2 ≠ 0) : A.sync.2 = 5 ∧ (A.sync.1 = A ∨ A.sync.1 = A.off) ∧ A.sync.1.down = true := by
  unfold Ad.sync at h ⊢
  by_cases hd : A.down = true
  · rw [if_pos hd]; exact ⟨rfl, .inl rfl, hd⟩
  · rw [if_neg hd] at h ⊢
    by_cases hf : A.fuse = 0
    · rw [if_pos hf]; exact ⟨rfl, .inr rfl, rfl⟩
    · rw [if_neg hf] at h; exact absurd rfl h
theorem look_memJ : ∀ {l : Fls} {x : ByteArray × List Nat}, Srt l → x ∈ l → lookF l x.1 = some x.2
  | [], x, _, h => by cases h
  | y :: l, x, hs, h => by
    show (if y.1 = x.1 then some y.2 else lookF l x.1) = some x.2
    rcases List.mem_cons.1 h with rfl | h
    · rw [if_pos rfl]
    · have hs' : Srt l := (List.pairwise_cons.1 hs).2
      have hlt := (List.pairwise_cons.1 hs).1 x h
      rw [if_neg fun e => by rw [e] at hlt; exact List.lt_irrefl _ hlt]
      exact look_memJ hs' h
/-- a disk that has a journal, and perhaps what is to replace it -/
structure GJ (P : List Nat → Prop) (U : Nat) (nm sp : ByteArray) (l : Fls) : Prop where
  srt : Srt l
  has : ∃ z, lookF l nm = some z
  all : ∀ n z, lookF l n = some z → (n = nm ∧ P z) ∨ (n = sp ∧ z.length ≤ U)
theorem GJ.two {P : List Nat → Prop} {U : Nat} {nm sp : ByteArray} {l : Fls} (h : GJ P U nm sp l) : usedF l ≤ ((lookF l nm).getD []).length + ((lookF l sp).getD []).length ∧ l.length ≤ 2 := by
  have hm : ∀ x ∈ l, x.1 = nm ∨ x.1 = sp := fun x hx => (h.all x.1 x.2 (look_memJ h.srt hx)).imp (fun e => e.1) fun e => e.1
  have hne : ∀ (x y : ByteArray × List Nat) (t : Fls), l = x :: y :: t → x.1 ≠ y.1 := fun x y t e e2 => by
    have hs := h.srt
    rw [e] at hs
    have := (List.pairwise_cons.1 hs).1 y List.mem_cons_self
    rw [e2] at this
    exact List.lt_irrefl _ this
  match l, h, hm, hne with
  | [], h, _, _ => exact ⟨Nat.zero_le _, Nat.zero_le _⟩
  | [x], h, hm, _ =>
    refine ⟨?_, by simp⟩
    have hl := look_memJ h.srt (List.mem_cons_self (a := x) (l := []))
    have hu : usedF [x] = x.2.length := by simp [usedF]
    rw [hu]
    rcases hm x List.mem_cons_self with e | e
    · rw [e] at hl; rw [hl]; simp
    · rw [e] at hl; rw [hl]; simp
  | [x, y], h, hm, hne =>
    refine ⟨?_, by simp⟩
    have hx := look_memJ h.srt (List.mem_cons_self (a := x) (l := [y]))
    have hy := look_memJ h.srt (List.mem_cons_of_mem x (List.mem_cons_self (a := y) (l := [])))
    have hu : usedF [x, y] = x.2.length + y.2.length := by simp [usedF]
    have hn := hne x y [] rfl
    rw [hu]
    rcases hm x List.mem_cons_self with e | e
    · rcases hm y (List.mem_cons_of_mem _ List.mem_cons_self) with f | f
      · exact absurd (e.trans f.symm) hn
      · rw [e] at hx; rw [f] at hy; rw [hx, hy]; simp
    · rcases hm y (List.mem_cons_of_mem _ List.mem_cons_self) with f | f
      · rw [e] at hx; rw [f] at hy; rw [hx, hy]; simp; omega
      · exact absurd (e.trans f.symm) hn
  | x :: y :: v :: t, h, hm, hne =>
    exfalso
    have hs := h.srt
    have h1 := (List.pairwise_cons.1 hs).1
    have h2 := (List.pairwise_cons.1 (List.pairwise_cons.1 hs).2).1
    have a1 := h1 y List.mem_cons_self
    have a2 := h1 v (List.mem_cons_of_mem _ List.mem_cons_self)
    have a3 := h2 v List.mem_cons_self
    have n1 : x.1 ≠ y.1 := fun e => by rw [e] at a1; exact List.lt_irrefl _ a1
    have n2 : x.1 ≠ v.1 := fun e => by rw [e] at a2; exact List.lt_irrefl _ a2
    have n3 : y.1 ≠ v.1 := fun e => by rw [e] at a3; exact List.lt_irrefl _ a3
    have m1 := hm x List.mem_cons_self
    have m2 := hm y (List.mem_cons_of_mem _ List.mem_cons_self)
    have m3 := hm v (List.mem_cons_of_mem _ (List.mem_cons_of_mem _ List.mem_cons_self))
    rcases m1 with e | e <;> rcases m2 with f | f <;> rcases m3 with g | g <;>
      first | exact n1 (e.trans f.symm) | exact n2 (e.trans g.symm) | exact n3 (f.trans g.symm)
theorem GJ.mono {P Q : List Nat → Prop} {U V : Nat} {nm sp : ByteArray} {l : Fls} (h : GJ P U nm sp l) (hp : ∀ z, P z → Q z) (hU : U ≤ V) : GJ Q V nm sp l :=
  ⟨h.srt, h.has, fun n z hz => (h.all n z hz).imp (fun e => ⟨e.1, hp z e.2⟩) fun e => ⟨e.1, Nat.le_trans e.2 hU⟩⟩
theorem GJ.re {P Q : List Nat → Prop} {U : Nat} {nm sp : ByteArray} {l : Fls} (h : GJ P U nm sp l) {z : List Nat} (hz : lookF l nm = some z) (hq : Q z) : GJ Q U nm sp l :=
  ⟨h.srt, h.has, fun n y hy => (h.all n y hy).imp (fun e => ⟨e.1, by rw [e.1, hz] at hy; rw [← Option.some.inj hy]; exact hq⟩) id⟩
theorem look_goneJ (l : Fls) (n : ByteArray) : lookF (withoutF l n) n = none := by rw [look_without, if_pos rfl]
/-- the steps keep it -/
theorem GJ.rm {P : List Nat → Prop} {U : Nat} {nm sp : ByteArray} {l : Fls} (h : GJ P U nm sp l) (hne : nm ≠ sp) (b : ByteArray) (p : List Nat) : GJ P U nm sp (doF l ⟨2, sp, b, p⟩) := by
  rw [doF2]
  refine ⟨srt_without h.srt, ?_, fun n z hz => ?_⟩
  · obtain ⟨z, hz⟩ := h.has
    exact ⟨z, by rw [look_without, if_neg hne]; exact hz⟩
  · rw [look_without] at hz
    by_cases e : n = sp
    · rw [if_pos e] at hz; cases hz
    · rw [if_neg e] at hz; exact h.all n z hz
theorem GJ.mk' {P : List Nat → Prop} {U : Nat} {nm sp : ByteArray} {l : Fls} (h : GJ P U nm sp l) (hne : nm ≠ sp) (hn : lookF l sp = none) (b : ByteArray) (p : List Nat) : GJ P U nm sp (doF l ⟨0, sp, b, p⟩) ∧ lookF (doF l ⟨0, sp, b, p⟩) sp = some [] := by
  rw [doF0]
  refine ⟨⟨srt_with h.srt (lookF_none hn), ?_, fun n z hz => ?_⟩, by rw [look_with sp hn, if_pos rfl]⟩
  · obtain ⟨z, hz⟩ := h.has
    exact ⟨z, by rw [look_with nm hn, if_neg hne]; exact hz⟩
  · rw [look_with n hn] at hz
    by_cases e : n = sp
    · rw [if_pos e] at hz
      exact .inr ⟨e, by rw [← Option.some.inj hz]; exact Nat.zero_le _⟩
    · rw [if_neg e] at hz; exact h.all n z hz
theorem look_appJ (l : Fls) (s b : ByteArray) (p : List Nat) (n : ByteArray) : lookF (doF l ⟨1, s, b, p⟩) n = if n = s then some ((lookF l s).getD [] ++ p) else lookF l n := by
  rw [doF1, look_with n (look_goneJ l s)]
  by_cases e : n = s
  · rw [if_pos e, if_pos e]
  · rw [if_neg e, if_neg e, look_without, if_neg e]
theorem GJ.aps {P : List Nat → Prop} {U : Nat} {nm sp : ByteArray} {l : Fls} (h : GJ P U nm sp l) (hne : nm ≠ sp) (b : ByteArray) (p : List Nat) (hl : ((lookF l sp).getD [] ++ p).length ≤ U) : GJ P U nm sp (doF l ⟨1, sp, b, p⟩) := by
  refine ⟨by rw [doF1]; exact srt_with (srt_without h.srt) (lookF_none (look_goneJ l sp)), ?_, fun n z hz => ?_⟩
  · obtain ⟨z, hz⟩ := h.has
    exact ⟨z, by rw [look_appJ, if_neg hne]; exact hz⟩
  · rw [look_appJ] at hz
    by_cases e : n = sp
    · rw [if_pos e] at hz
      exact .inr ⟨e, by rw [← Option.some.inj hz]; exact hl⟩
    · rw [if_neg e] at hz; exact h.all n z hz
theorem GJ.apn {P : List Nat → Prop} {U : Nat} {nm sp : ByteArray} {l : Fls} (h : GJ P U nm sp l) (b : ByteArray) (p : List Nat) (hl : P ((lookF l nm).getD [] ++ p)) : GJ P U nm sp (doF l ⟨1, nm, b, p⟩) := by
  refine ⟨by rw [doF1]; exact srt_with (srt_without h.srt) (lookF_none (look_goneJ l nm)), ⟨_, by rw [look_appJ, if_pos rfl]⟩, fun n z hz => ?_⟩
  rw [look_appJ] at hz
  by_cases e : n = nm
  · rw [if_pos e] at hz
    exact .inl ⟨e, by rw [← Option.some.inj hz]; exact hl⟩
  · rw [if_neg e] at hz; exact h.all n z hz
theorem GJ.mv {P : List Nat → Prop} {U : Nat} {nm sp : ByteArray} {l : Fls} (h : GJ P U nm sp l) (hne : nm ≠ sp) {z : List Nat} (hz : lookF l sp = some z) (hp : P z) (p : List Nat) : GJ P U nm sp (doF l ⟨3, sp, nm, p⟩) ∧ lookF (doF l ⟨3, sp, nm, p⟩) nm = some z := by
  rw [doF3, hz]
  have h0 := look_goneJ (withoutF l sp) nm
  have hl : ∀ n, lookF (withF (withoutF (withoutF l sp) nm) (nm, (some z).getD [])) n = if n = nm then some z else if n = sp then none else lookF l n := fun n => by
    rw [look_with n h0, look_without, look_without]
    by_cases e : n = nm
    · rw [if_pos e, if_pos e]; rfl
    · rw [if_neg e, if_neg e, if_neg e]
  refine ⟨⟨srt_with (srt_without (srt_without h.srt)) (lookF_none h0), ⟨z, by rw [hl, if_pos rfl]⟩, fun n y hy => ?_⟩, by rw [hl, if_pos rfl]⟩
  rw [hl] at hy
  by_cases e : n = nm
  · rw [if_pos e] at hy
    exact .inl ⟨e, by rw [← Option.some.inj hy]; exact hp⟩
  · rw [if_neg e] at hy
    by_cases e2 : n = sp
    · rw [if_pos e2] at hy; cases hy
    · rw [if_neg e2] at hy; exact h.all n y hy
/-- every state that a loss of power can leave -/
structure JI (P : List Nat → Prop) (U : Nat) (nm sp : ByteArray) (A : Ad) : Prop where
  now : A.now = A.loose.foldl doF A.sure
  good : ∀ k, GJ P U nm sp ((A.loose.take k).foldl doF A.sure)
  app : ∀ (k : Nat) (c : DCh), A.loose[k]? = some c → c.kind = 1 → c.a = sp ∨ (c.a = nm ∧ ∀ z t, lookF ((A.loose.take k).foldl doF A.sure) nm = some z → P (z ++ c.p.take t))
theorem JI.gnow {P : List Nat → Prop} {U : Nat} {nm sp : ByteArray} {A : Ad} (h : JI P U nm sp A) : GJ P U nm sp A.now := by
  have := h.good A.loose.length
  rw [List.take_length] at this
  rw [h.now]; exact this
theorem JI.mono {P Q : List Nat → Prop} {U V : Nat} {nm sp : ByteArray} {A : Ad} (h : JI P U nm sp A) (hp : ∀ z, P z → Q z) (hU : U ≤ V) : JI Q V nm sp A :=
  ⟨h.now, fun k => (h.good k).mono hp hU, fun k c hc hk => (h.app k c hc hk).imp id fun e => ⟨e.1, fun z t hz => hp _ (e.2 z t hz)⟩⟩
theorem JI.calm {P : List Nat → Prop} {U : Nat} {nm sp : ByteArray} {B : Ad} {l : Fls} (hl : GJ P U nm sp l) (h1 : B.now = l) (h2 : B.sure = l) (h3 : B.loose = []) : JI P U nm sp B :=
  ⟨by rw [h1, h2, h3]; rfl, fun k => by rw [h2, h3, List.take_nil]; exact hl, fun k c hc => by rw [h3] at hc; cases hc⟩
theorem JI.same {P : List Nat → Prop} {U : Nat} {nm sp : ByteArray} {A B : Ad} (h : JI P U nm sp A) (h1 : B.now = A.now) (h2 : B.sure = A.sure) (h3 : B.loose = A.loose) : JI P U nm sp B :=
  ⟨by rw [h1, h2, h3]; exact h.now, fun k => by rw [h2, h3]; exact h.good k, fun k c hc hk => by rw [h3] at hc; rw [h2, h3]; exact h.app k c hc hk⟩
theorem JI.fin {P : List Nat → Prop} {U : Nat} {nm sp : ByteArray} {A : Ad} (h : JI P U nm sp A) (hne : nm ≠ sp) (keep part : Int) : GJ P U nm sp (A.fin keep part) := by
  unfold Ad.fin
  generalize (min (max keep 0) (A.loose.length : Int)).toNat = k
  generalize (min (max part 0) 1048576).toNat = t
  cases ho : A.loose[k]? with
  | none => exact h.gnow
  | some o =>
    simp only
    by_cases hk : o.kind = 1
    · rw [if_pos hk]
      have hx : (A.loose.take (k + 1)).foldl doF A.sure = doF ((A.loose.take k).foldl doF A.sure) o := by
        rw [List.take_add_one, ho, List.foldl_append]; rfl
      have hg := h.good (k + 1)
      rw [hx] at hg
      have hap := h.app k o ho hk
      obtain ⟨kd, a, b, p⟩ := o
      simp only at hk hap hg ⊢
      subst hk
      rcases hap with e | ⟨e, e2⟩
      · subst e
        refine (h.good k).aps hne b _ ?_
        rcases hg.all a _ (by rw [look_appJ, if_pos rfl]) with e | e
        · exact absurd e.1.symm hne
        · refine Nat.le_trans ?_ e.2
          rw [List.length_append, List.length_append, List.length_take]
          omega
      · subst e
        obtain ⟨z, hz⟩ := (h.good k).has
        refine (h.good k).apn b _ ?_
        rw [hz]
        exact e2 z t hz
    · rw [if_neg hk]; exact h.good k
theorem JI.crash {P : List Nat → Prop} {U : Nat} {nm sp : ByteArray} {A : Ad} (h : JI P U nm sp A) (hne : nm ≠ sp) (keep part : Int) : JI P U nm sp (A.crash keep part) := JI.calm (h.fin hne keep part) rfl rfl rfl
theorem JI.fused {P : List Nat → Prop} {U : Nat} {nm sp : ByteArray} {A : Ad} (h : JI P U nm sp A) (n : Int) : JI P U nm sp (A.fused n).1 := by
  unfold Ad.fused
  by_cases hd : A.down = true
  · rw [if_pos hd]; exact h
  · rw [if_neg hd]; exact h.same rfl rfl rfl
theorem JI.sync {P : List Nat → Prop} {U : Nat} {nm sp : ByteArray} {A : Ad} (h : JI P U nm sp A) : JI P U nm sp A.sync.1 := by
  by_cases h0 : A.sync.2 = 0
  · obtain ⟨k1, k2, k3, _⟩ := sync_zeroJ h0
    exact JI.calm h.gnow k1 k3 k2
  · rcases (sync_errJ h0).2.1 with e | e
    · rw [e]; exact h
    · rw [e]; exact h.same rfl rfl rfl
theorem JI.did {P : List Nat → Prop} {U : Nat} {nm sp : ByteArray} {A : Ad} (h : JI P U nm sp A) (c : DCh) (hg : GJ P U nm sp (doF A.now c)) (ha : c.kind = 1 → c.a = sp ∨ (c.a = nm ∧ ∀ z t, lookF A.now nm = some z → P (z ++ c.p.take t))) : JI P U nm sp (A.did c) := by
  have hnow : (A.did c).now = (A.did c).loose.foldl doF (A.did c).sure := by
    show doF A.now c = (A.loose ++ [c]).foldl doF A.sure
    rw [List.foldl_append, ← h.now]
    rfl
  refine ⟨hnow, fun k => ?_, fun k x hx hk => ?_⟩
  · show GJ P U nm sp (((A.loose ++ [c]).take k).foldl doF A.sure)
    by_cases hl : k ≤ A.loose.length
    · rw [List.take_append_of_le_length hl]; exact h.good k
    · rw [List.take_of_length_le (by simp; omega), List.foldl_append, ← h.now]
      exact hg
  · have hx' : (A.loose ++ [c])[k]? = some x := hx
    show x.a = sp ∨ (x.a = nm ∧ ∀ z t, lookF (((A.loose ++ [c]).take k).foldl doF A.sure) nm = some z → P (z ++ x.p.take t))
    by_cases hl : k < A.loose.length
    · rw [List.getElem?_append_left hl] at hx'
      rw [List.take_append_of_le_length (Nat.le_of_lt hl)]
      exact h.app k x hx' hk
    · have hk2 : k = A.loose.length := by
        have := (List.getElem?_eq_some_iff.1 hx').1
        simp at this
        omega
      subst hk2
      rw [List.getElem?_append_right (Nat.le_refl _), Nat.sub_self] at hx'
      obtain rfl : c = x := by simpa using hx'
      rw [List.take_append_of_le_length (Nat.le_refl _), List.take_length, ← h.now]
      exact ha hk
theorem JI.step {P : List Nat → Prop} {U : Nat} {nm sp : ByteArray} {A : Ad} (h : JI P U nm sp A) (c : DCh) (hg : A.may c = 0 → GJ P U nm sp (doF A.now c)) (ha : A.may c = 0 → c.kind = 1 → c.a = sp ∨ (c.a = nm ∧ ∀ z t, lookF A.now nm = some z → P (z ++ c.p.take t))) : JI P U nm sp (A.step c).1 := by
  by_cases h0 : (A.step c).2 = 0
  · obtain ⟨hm, hs⟩ := step_zeroJ h0
    rw [hs]
    exact h.did c (hg hm) (ha hm)
  · rcases step_errJ h0 with ⟨e, _⟩ | ⟨e, _⟩
    · rw [e]; exact h
    · rw [e]; exact h.same rfl rfl rfl
end Go.Proofs.Ytmomdfmilelilaa
