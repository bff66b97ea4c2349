/-
  A journal's file, plain: a rewrite, a load; the records of a script.
-/
import Derived.Test.YtmomdfmilelilaaJog
namespace Go.Proofs.Ytmomdfmilelilaa
set_option linter.unusedVariables false
theorem spent_neg {A : Ad} (h : A.fuse < 0) : A.spent.fuse < 0 := by
  show (if 0 < A.fuse then A.fuse - 1 else A.fuse) < 0
  rw [if_neg (by omega)]; exact h
theorem step_room (A : Ad) (c : DCh) : (A.step c).1.room = A.room := by
  unfold Ad.step
  split
  · rfl
  · split
    · rfl
    · split <;> rfl
theorem sync_room (A : Ad) : A.sync.1.room = A.room := by
  unfold Ad.sync
  split
  · rfl
  · split <;> rfl
/-- where a step is not done although it may be, the power is off; with the power on and no fuse it is done -/
structure Done (A : Ad) (r : Ad × Int) : Prop where
  code : r.2 = 0 ∨ r.2 = 5
  off : r.2 = 5 → r.1.down = true
  was : A.down = true → r.1 = A ∧ r.2 = 5
  on : A.down = false → A.fuse < 0 → r.2 = 0 ∧ r.1.down = false ∧ r.1.fuse < 0
  up : r.2 = 0 → r.1.down = false
  room : r.1.room = A.room
theorem n50 : ¬ (5 : Int) = 0 := by decide
theorem n05 : ¬ (0 : Int) = 5 := by decide
theorem Done.dead {A : Ad} (hd : A.down = true) : Done A (A, 5) := ⟨.inr rfl, fun _ => hd, fun _ => ⟨rfl, rfl⟩, (fun e => by rw [hd] at e; cases e), fun e => absurd e n50, rfl⟩
theorem Done.cut {A : Ad} (hd : ¬ A.down = true) (hf : A.fuse = 0) : Done A (A.off, 5) := ⟨.inr rfl, fun _ => rfl, fun e => absurd e hd, (fun _ e => by omega), fun e => absurd e n50, rfl⟩
theorem Done.ok {A B : Ad} (hd : ¬ A.down = true) (h1 : B.down = A.down) (h2 : A.fuse < 0 → B.fuse < 0) (h3 : B.room = A.room) : Done A (B, 0) := by
  have hf : A.down = false := by cases h : A.down; rfl; exact absurd h hd
  exact ⟨.inl rfl, fun e => absurd e n05, fun e => absurd e hd, fun _ e => ⟨rfl, h1.trans hf, h2 e⟩, fun _ => h1.trans hf, h3⟩
theorem done_step {A : Ad} {c : DCh} (h : A.may c = 0) : Done A (A.step c) := by
  unfold Ad.step
  by_cases hd : A.down = true
  · rw [if_pos hd]; exact Done.dead hd
  · rw [if_neg hd, if_neg (by omega)]
    by_cases hf : A.fuse = 0
    · rw [if_pos hf]; exact Done.cut hd hf
    · rw [if_neg hf]; exact Done.ok hd rfl (fun e => spent_neg e) rfl
theorem done_sync (A : Ad) : Done A A.sync := by
  unfold Ad.sync
  by_cases hd : A.down = true
  · rw [if_pos hd]; exact Done.dead hd
  · rw [if_neg hd]
    by_cases hf : A.fuse = 0
    · rw [if_pos hf]; exact Done.cut hd hf
    · rw [if_neg hf]; exact Done.ok hd rfl (fun e => spent_neg e) rfl
theorem Done.same {A : Ad} (hd : A.down = false) : Done A (A, 0) := Done.ok (by rw [hd]; decide) rfl id rfl
theorem may2J (A : Ad) (s b : ByteArray) (p : List Nat) : A.may ⟨2, s, b, p⟩ = if (lookF A.now s).isNone then 6 else 0 := by
  unfold Ad.may
  simp
theorem done_rm (A : Ad) (s : ByteArray) : Done A (rmA s A) := by
  unfold rmA
  have hm := may2J A s ⟨#[]⟩ []
  by_cases hl : (lookF A.now s).isNone = true
  · rw [if_pos hl] at hm
    unfold Ad.step
    rw [hm]
    by_cases hd : A.down = true
    · rw [if_pos hd]; exact Done.dead hd
    · rw [if_neg hd]; exact Done.ok hd rfl id rfl
  · rw [if_neg hl] at hm
    have h := done_step hm
    generalize A.step ⟨2, s, ⟨#[]⟩, []⟩ = r at h
    have h6 : ¬ r.2 = 6 := by rcases h.code with e | e <;> rw [e] <;> decide
    rw [if_neg h6]
    exact h
/-- one behind the other -/
theorem Done.then {A : Ad} {f : Ad → Ad × Int} {fs : List (Ad → Ad × Int)} (h : Done A (f A)) (g : (f A).2 = 0 → Done (f A).1 (runA fs (f A).1)) : Done A (runA (f :: fs) A) := by
  by_cases h0 : (f A).2 ≠ 0
  · have e : runA (f :: fs) A = f A := by show (if (f A).2 ≠ 0 then f A else runA fs (f A).1) = _; rw [if_pos h0]
    rw [e]; exact h
  · have h0' : (f A).2 = 0 := by omega
    have e : runA (f :: fs) A = runA fs (f A).1 := by show (if (f A).2 ≠ 0 then f A else runA fs (f A).1) = _; rw [if_neg h0]
    rw [e]
    have k := g h0'
    exact ⟨k.code, k.off, fun hd => absurd ((h.was hd).2) (by rw [h0']; decide), (fun hd hf => by
      obtain ⟨_, a, b⟩ := h.on hd hf
      exact k.on a b), k.up, k.room.trans h.room⟩
theorem Done.nil {A : Ad} (hd : A.down = false) : Done A (runA [] A) := Done.same hd
section
variable {P : List Nat → Prop} {U : Nat} {nm sp : ByteArray}
/-- what a rewrite leaves -/
structure RwI (P : List Nat → Prop) (U : Nat) (nm sp : ByteArray) (z : List Nat) (A : Ad) (r : Ad × Int) : Prop where
  inv : JI P U nm sp r.1
  done : Done A r
  fin : r.2 = 0 → r.1.loose = [] ∧ r.1.sure = r.1.now ∧ lookF r.1.now nm = some z
theorem RwI.first {z : List Nat} {A B : Ad} {r : Ad × Int} (h : RwI P U nm sp z B r) (hd : A.down = false → A.fuse < 0 → B.down = false ∧ B.fuse < 0) (hu : A.down = false) (hr : B.room = A.room) : RwI P U nm sp z A r :=
  ⟨h.inv, ⟨h.done.code, h.done.off, (fun e => by rw [hu] at e; cases e), fun e f => h.done.on (hd e f).1 (hd e f).2, h.done.up, h.done.room.trans hr⟩, h.fin⟩
theorem rm_look (A : Ad) (h : (rmA sp A).2 = 0) : lookF (rmA sp A).1.now sp = none := by
  unfold rmA at h ⊢
  by_cases h0 : (A.step ⟨2, sp, ⟨#[]⟩, []⟩).2 = 0
  · show lookF (A.step ⟨2, sp, ⟨#[]⟩, []⟩).1.now sp = none
    rw [(step_zeroJ h0).2]
    show lookF (doF A.now ⟨2, sp, ⟨#[]⟩, []⟩) sp = none
    rw [doF2]; exact look_goneJ _ _
  · show lookF (A.step ⟨2, sp, ⟨#[]⟩, []⟩).1.now sp = none
    have h6 : (A.step ⟨2, sp, ⟨#[]⟩, []⟩).2 = 6 := by
      by_cases h6 : (A.step ⟨2, sp, ⟨#[]⟩, []⟩).2 = 6
      · exact h6
      · rw [if_neg h6] at h; exact absurd h h0
    rcases step_errJ h0 with ⟨e, e2⟩ | ⟨e, e2⟩
    · rw [e]
      rcases e2 with ⟨e3, _⟩ | ⟨_, e3⟩
      · rw [h6] at e3; exact absurd e3 (by decide)
      · rw [h6] at e3
        rw [may2J] at e3
        by_cases hl : (lookF A.now sp).isNone = true
        · exact Option.isNone_iff_eq_none.1 hl
        · rw [if_neg hl] at e3
          exact absurd e3 (by decide)
    · rw [h6] at e2; exact absurd e2 (by decide)
theorem rw_inv {A : Ad} {z : List Nat} (h : JI P U nm sp A) (hP : ∀ y, P y → y.length ≤ U) (hz : P z) (hne : nm ≠ sp) (hn : isNm nm = true) (hs : isNm sp = true) (hroom : 2 * (U : Int) ≤ A.room) (hU : U ≤ 1048576) : RwI P U nm sp z A (A.rw nm sp z) := by
  have hzl := hP z hz
  have hr : RwI P U nm sp z A (runA (rwS nm sp z) A) := by
    unfold rwS
    -- the spare file goes
    have d1 := done_rm A sp
    have i1 : JI P U nm sp (rmA sp A).1 := h.step ⟨2, sp, ⟨#[]⟩, []⟩ (fun _ => h.gnow.rm hne _ _) (fun _ e => by cases e)
    by_cases h1 : (rmA sp A).2 ≠ 0
    · have e : runA [rmA sp, mkA sp, apF sp z, Ad.sync, mvA sp nm, Ad.sync] A = rmA sp A := by
        show (if (rmA sp A).2 ≠ 0 then rmA sp A else _) = _
        rw [if_pos h1]
      rw [e]
      exact ⟨i1, d1, fun e => absurd e h1⟩
    have h1' : (rmA sp A).2 = 0 := by omega
    have e : runA [rmA sp, mkA sp, apF sp z, Ad.sync, mvA sp nm, Ad.sync] A = runA [mkA sp, apF sp z, Ad.sync, mvA sp nm, Ad.sync] (rmA sp A).1 := by
      show (if (rmA sp A).2 ≠ 0 then rmA sp A else _) = _
      rw [if_neg h1]
    rw [e]
    have n1 := rm_look A h1'
    have hu1 : A.down = false := by
      cases hd : A.down with
      | false => rfl
      | true => have := (d1.was hd).2; rw [h1'] at this; exact absurd this (by decide)
    refine RwI.first (B := (rmA sp A).1) ?_ (fun a b => (d1.on a b).2) hu1 d1.room
    have r1 := d1.room
    have v1 := d1.up h1'
    generalize (rmA sp A).1 = A1 at i1 n1 r1 v1 ⊢
    -- the spare file is made
    have hm2 : A1.may ⟨0, sp, ⟨#[]⟩, []⟩ = 0 := by
      have := i1.gnow.two.2
      unfold Ad.may
      simp only [n1, hs, if_true, Bool.true_eq_false, if_false, Option.isSome_none, Bool.false_eq_true]
      rw [if_neg (by omega)]
    have d2 := done_step hm2
    have g2 := i1.gnow.mk' hne n1 ⟨#[]⟩ []
    have i2 : JI P U nm sp (mkA sp A1).1 := i1.step ⟨0, sp, ⟨#[]⟩, []⟩ (fun _ => g2.1) (fun _ e => by cases e)
    have n2 : (mkA sp A1).2 = 0 → lookF (mkA sp A1).1.now sp = some [] := fun h0 => by
      show lookF (A1.step ⟨0, sp, ⟨#[]⟩, []⟩).1.now sp = some []
      rw [(step_zeroJ h0).2]; exact g2.2
    by_cases h2 : (mkA sp A1).2 ≠ 0
    · have e : runA [mkA sp, apF sp z, Ad.sync, mvA sp nm, Ad.sync] A1 = mkA sp A1 := by
        show (if (mkA sp A1).2 ≠ 0 then mkA sp A1 else _) = _
        rw [if_pos h2]
      rw [e]
      exact ⟨i2, d2, fun e => absurd e h2⟩
    have h2' : (mkA sp A1).2 = 0 := by omega
    have e : runA [mkA sp, apF sp z, Ad.sync, mvA sp nm, Ad.sync] A1 = runA [apF sp z, Ad.sync, mvA sp nm, Ad.sync] (mkA sp A1).1 := by
      show (if (mkA sp A1).2 ≠ 0 then mkA sp A1 else _) = _
      rw [if_neg h2]
    rw [e]
    have n2 := n2 h2'
    refine RwI.first (B := (mkA sp A1).1) ?_ (fun a b => (d2.on a b).2) v1 d2.room
    have r2 : (mkA sp A1).1.room = A.room := d2.room.trans r1
    have v2 : (mkA sp A1).1.down = false := d2.up h2'
    generalize (mkA sp A1).1 = A2 at i2 n2 r2 v2 ⊢
    -- the bytes
    have d3 : Done A2 (apF sp z A2) ∧ JI P U nm sp (apF sp z A2).1 ∧ ((apF sp z A2).2 = 0 → lookF (apF sp z A2).1.now sp = some z) := by
      unfold apF
      by_cases hz0 : z = []
      · rw [if_pos hz0]
        exact ⟨Done.same v2, i2, fun _ => by rw [hz0]; exact n2⟩
      · rw [if_neg hz0]
        have hm : A2.may ⟨1, sp, ⟨#[]⟩, z⟩ = 0 := by
          have h5 := i2.gnow.two.1
          rw [n2] at h5
          obtain ⟨y, hy⟩ := i2.gnow.has
          rw [hy] at h5
          have hyl : y.length ≤ U := by
            rcases i2.gnow.all nm y hy with e | e
            · exact hP y e.2
            · exact absurd e.1 hne
          simp only [Option.getD_some, List.length_nil, Nat.add_zero] at h5
          unfold Ad.may
          simp only [n2, Option.isNone_some, Bool.false_eq_true, if_false, if_true]
          rw [if_neg (by decide), if_neg (by omega), if_neg (by omega)]
        refine ⟨done_step hm, i2.step _ (fun _ => i2.gnow.aps hne _ _ (by rw [n2]; simpa using hzl)) (fun _ _ => .inl rfl), fun h0 => ?_⟩
        rw [(step_zeroJ h0).2]
        show lookF (doF A2.now ⟨1, sp, ⟨#[]⟩, z⟩) sp = some z
        rw [look_appJ, if_pos rfl, n2]
        rfl
    obtain ⟨d3, i3, n3⟩ := d3
    by_cases h3 : (apF sp z A2).2 ≠ 0
    · have e : runA [apF sp z, Ad.sync, mvA sp nm, Ad.sync] A2 = apF sp z A2 := by
        show (if (apF sp z A2).2 ≠ 0 then apF sp z A2 else _) = _
        rw [if_pos h3]
      rw [e]
      exact ⟨i3, d3, fun e => absurd e h3⟩
    have h3' : (apF sp z A2).2 = 0 := by omega
    have e : runA [apF sp z, Ad.sync, mvA sp nm, Ad.sync] A2 = runA [Ad.sync, mvA sp nm, Ad.sync] (apF sp z A2).1 := by
      show (if (apF sp z A2).2 ≠ 0 then apF sp z A2 else _) = _
      rw [if_neg h3]
    rw [e]
    have n3 := n3 h3'
    refine RwI.first (B := (apF sp z A2).1) ?_ (fun a b => (d3.on a b).2) v2 d3.room
    have v3 : (apF sp z A2).1.down = false := d3.up h3'
    generalize (apF sp z A2).1 = A3 at i3 n3 v3 ⊢
    -- they last
    have d4 := done_sync A3
    have i4 := i3.sync
    by_cases h4 : A3.sync.2 ≠ 0
    · have e : runA [Ad.sync, mvA sp nm, Ad.sync] A3 = A3.sync := by
        show (if A3.sync.2 ≠ 0 then A3.sync else _) = _
        rw [if_pos h4]
      rw [e]
      exact ⟨i4, d4, fun e => absurd e h4⟩
    have h4' : A3.sync.2 = 0 := by omega
    have e : runA [Ad.sync, mvA sp nm, Ad.sync] A3 = runA [mvA sp nm, Ad.sync] A3.sync.1 := by
      show (if A3.sync.2 ≠ 0 then A3.sync else _) = _
      rw [if_neg h4]
    rw [e]
    have n4 : lookF A3.sync.1.now sp = some z := by rw [(sync_zeroJ h4').1]; exact n3
    refine RwI.first (B := A3.sync.1) ?_ (fun a b => (d4.on a b).2) v3 d4.room
    have v4 : A3.sync.1.down = false := d4.up h4'
    generalize A3.sync.1 = A4 at i4 n4 v4 ⊢
    -- they get the journal's name
    have hm5 : A4.may ⟨3, sp, nm, []⟩ = 0 := by
      unfold Ad.may
      simp only [n4, hn, Option.isNone_some, Bool.false_eq_true, if_false]
      rw [if_neg (by decide), if_neg (by decide), if_neg (by simp)]
    have d5 := done_step hm5
    have g5 := i4.gnow.mv hne n4 hz []
    have i5 : JI P U nm sp (mvA sp nm A4).1 := i4.step ⟨3, sp, nm, []⟩ (fun _ => g5.1) (fun _ e => by cases e)
    by_cases h5 : (mvA sp nm A4).2 ≠ 0
    · have e : runA [mvA sp nm, Ad.sync] A4 = mvA sp nm A4 := by
        show (if (mvA sp nm A4).2 ≠ 0 then mvA sp nm A4 else _) = _
        rw [if_pos h5]
      rw [e]
      exact ⟨i5, d5, fun e => absurd e h5⟩
    have h5' : (mvA sp nm A4).2 = 0 := by omega
    have e : runA [mvA sp nm, Ad.sync] A4 = runA [Ad.sync] (mvA sp nm A4).1 := by
      show (if (mvA sp nm A4).2 ≠ 0 then mvA sp nm A4 else _) = _
      rw [if_neg h5]
    rw [e]
    have n5 : lookF (mvA sp nm A4).1.now nm = some z := by
      show lookF (A4.step ⟨3, sp, nm, []⟩).1.now nm = some z
      rw [(step_zeroJ h5').2]; exact g5.2
    refine RwI.first (B := (mvA sp nm A4).1) ?_ (fun a b => (d5.on a b).2) v4 d5.room
    have v5 : (mvA sp nm A4).1.down = false := d5.up h5'
    generalize (mvA sp nm A4).1 = A5 at i5 n5 v5 ⊢
    -- and that lasts
    have d6 := done_sync A5
    have i6 := i5.sync
    by_cases h6 : A5.sync.2 ≠ 0
    · have e : runA [Ad.sync] A5 = A5.sync := by
        show (if A5.sync.2 ≠ 0 then A5.sync else _) = _
        rw [if_pos h6]
      rw [e]
      exact ⟨i6, d6, fun e => absurd e h6⟩
    have h6' : A5.sync.2 = 0 := by omega
    obtain ⟨k1, k2, k3, k4, k5⟩ := sync_zeroJ h6'
    have e : runA [Ad.sync] A5 = (A5.sync.1, 0) := by
      show (if A5.sync.2 ≠ 0 then A5.sync else (A5.sync.1, 0)) = _
      rw [if_neg h6]
    rw [e]
    have d6' : Done A5 (A5.sync.1, 0) := by rw [show (A5.sync.1, (0 : Int)) = A5.sync from Prod.ext rfl h6'.symm]; exact d6
    exact ⟨i6, d6', fun _ => ⟨k2, by show A5.sync.1.sure = A5.sync.1.now; rw [k3, k1], by show lookF A5.sync.1.now nm = _; rw [k1]; exact n5⟩⟩
  unfold Ad.rw rwE
  by_cases h4 : (runA (rwS nm sp z) A).2 = 4
  · rcases hr.done.code with e | e
    · rw [h4] at e; exact absurd e (by decide)
    · rw [h4] at e; exact absurd e (by decide)
  · rw [if_neg h4]; exact hr
end
end Go.Proofs.Ytmomdfmilelilaa
