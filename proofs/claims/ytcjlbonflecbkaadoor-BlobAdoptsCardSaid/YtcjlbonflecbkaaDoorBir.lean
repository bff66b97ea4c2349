/-
  A file that is made by hand and adopted, plain.
-/
import Derived.Test.YtcjlbonflecbkaaDoorBip
import Derived.Test.YtcjlbonflecbkaaDoorBio
namespace Go.Proofs.YtcjlbonflecbkaaDoor
set_option linter.unusedVariables false
/-- a file was made and written, nothing is sure yet -/
def madeA (room : Int) (l : Fls) (nm : ByteArray) (ps : List Nat) : Ad := ⟨room, -1, false, withF l (nm, ps), l, [⟨0, nm, ⟨#[]⟩, []⟩, ⟨1, nm, ⟨#[]⟩, ps⟩]⟩
def bareA (room : Int) (l : Fls) (nm : ByteArray) : Ad := ⟨room, -1, false, withF l (nm, []), l, [⟨0, nm, ⟨#[]⟩, []⟩]⟩
theorem bare_ok {room : Int} {l : Fls} {nm : ByteArray} (hn : lookF l nm = none) (hnm : isNm nm = true) (hl : l.length < 4096) : (fresh room l).step ⟨0, nm, ⟨#[]⟩, []⟩ = (bareA room l nm, 0) :=
  Ad.step_ok rfl rfl (by
    unfold Ad.may
    show (if (0 : Nat) = 0 then (if isNm nm = false then 1 else if (lookF l nm).isSome then 7 else if 4096 ≤ l.length then 4 else 0) else _) = (0 : Int)
    rw [if_pos rfl, hnm, hn]
    simp
    omega)
theorem made_ok {room : Int} {l : Fls} {nm : ByteArray} {ps : List Nat} (hn : lookF l nm = none) (hp : ps.length ≤ 1048576) (hr : (usedF l : Int) + (ps.length : Int) ≤ room) (hsrt : Srt l) : (bareA room l nm).step ⟨1, nm, ⟨#[]⟩, ps⟩ = (madeA room l nm ps, 0) := by
  have hmem : ∀ x ∈ l, x.1 ≠ nm := lookF_none hn
  have k1 : lookF (withF l (nm, [])) nm = some [] := by rw [look_with nm hn, if_pos rfl]
  have s1 : Srt (withF l (nm, [])) := srt_with hsrt hmem
  have u1 : usedF (withF l (nm, [])) = usedF l := by rw [used_with]; rfl
  have w1 : withoutF (withF l (nm, [])) nm = l := srt_ext (srt_without s1) hsrt fun n => by
    rw [look_without, look_with n hn]
    by_cases e : n = nm
    · rw [if_pos e, e, hn]
    · rw [if_neg e, if_neg e]
  have := Ad.step_ok (A := bareA room l nm) (c := ⟨1, nm, ⟨#[]⟩, ps⟩) rfl rfl (by
    unfold Ad.may bareA
    simp only [k1, u1, Option.isNone_some]
    rw [if_neg (by decide), if_neg (by decide), if_pos trivial, if_neg (by omega), if_neg (by omega)])
  rw [this, doF1]
  unfold bareA madeA
  simp only [k1, w1]
  rfl
theorem made_now {room : Int} {l : Fls} {nm : ByteArray} {ps : List Nat} (hn : lookF l nm = none) (t : ByteArray) : lookF (madeA room l nm ps).now t = if t = nm then some ps else lookF l t := look_with (f := (nm, ps)) t hn
theorem ad_bad {A : Ad} {nm : ByteArray} {ds z : List Nat} (hd : A.down = false) (h : lookF A.now nm = some z) (hs : Sha.sum z ≠ ds) : A.adopt nm ds = (A, 20) := by
  have hc : ckA A nm ds = 20 := by
    unfold ckA
    rw [hd]
    simp only [Bool.false_eq_true, if_false, h]
    exact if_neg hs
  unfold Ad.adopt
  rw [hc]
  exact if_pos (by decide)
theorem ad_gone {A : Ad} {nm : ByteArray} {ds : List Nat} (hd : A.down = false) (h : lookF A.now nm = none) : A.adopt nm ds = (A, 6) := by
  have hc : ckA A nm ds = 6 := by
    unfold ckA
    rw [hd]
    simp only [Bool.false_eq_true, if_false, h]
  unfold Ad.adopt
  rw [hc]
  exact if_pos (by decide)
theorem made_without {l : Fls} {nm : ByteArray} {ps : List Nat} (hn : lookF l nm = none) (hsrt : Srt l) : withoutF (withF l (nm, ps)) nm = l := srt_ext (srt_without (srt_with hsrt (lookF_none hn))) hsrt fun n => by
  rw [look_without, look_with n hn]
  by_cases e : n = nm
  · rw [if_pos e, e, hn]
  · rw [if_neg e, if_neg e]
theorem ad_head {room : Int} {l : Fls} {nm : ByteArray} {ps : List Nat} (hn : lookF l nm = none) : (madeA room l nm ps).adopt nm (Sha.sum ps) = if (szA (madeA room l nm ps) (fileB (Sha.sum ps))).2 = 0 ∧ nm ≠ fileB (Sha.sum ps) then runA [fun A => A.step ⟨2, nm, ⟨#[]⟩, []⟩, Ad.sync] (madeA room l nm ps) else runA [fun A => A.step ⟨3, nm, fileB (Sha.sum ps), []⟩, Ad.sync] (madeA room l nm ps) := by
  have k := made_now (room := room) (ps := ps) hn nm
  rw [if_pos rfl] at k
  have hc : ckA (madeA room l nm ps) nm (Sha.sum ps) = 0 := by
    unfold ckA
    rw [show (madeA room l nm ps).down = false from rfl]
    simp only [Bool.false_eq_true, if_false, k]
    exact if_pos trivial
  unfold Ad.adopt
  rw [hc]
  exact if_neg fun h => h rfl
/-- the bytes are there: the second file goes -/
theorem ad_there {room : Int} {l : Fls} {nm : ByteArray} {ps y : List Nat} (hn : lookF l nm = none) (hsrt : Srt l) (hf : lookF l (fileB (Sha.sum ps)) = some y) (hne : nm ≠ fileB (Sha.sum ps)) : (madeA room l nm ps).adopt nm (Sha.sum ps) = (fresh room l, 0) := by
  have k := made_now (room := room) (ps := ps) hn (fileB (Sha.sum ps))
  rw [if_neg fun h => hne h.symm, hf] at k
  have k0 := made_now (room := room) (ps := ps) hn nm
  rw [if_pos rfl] at k0
  have hz : (szA (madeA room l nm ps) (fileB (Sha.sum ps))).2 = 0 := by
    unfold szA
    rw [show (madeA room l nm ps).down = false from rfl]
    simp only [Bool.false_eq_true, if_false, k]
  rw [ad_head hn, if_pos ⟨hz, hne⟩]
  have e1 : (madeA room l nm ps).step ⟨2, nm, ⟨#[]⟩, []⟩ = (⟨room, -1, false, l, l, (madeA room l nm ps).loose ++ [⟨2, nm, ⟨#[]⟩, []⟩]⟩, 0) := by
    have := Ad.step_ok (A := madeA room l nm ps) (c := ⟨2, nm, ⟨#[]⟩, []⟩) rfl rfl (by
      unfold Ad.may
      simp only [k0, Option.isNone_some]
      rw [if_neg (by decide), if_neg (by decide), if_neg (by decide), if_neg (by simp)])
    rw [this, doF2, show (madeA room l nm ps).now = withF l (nm, ps) from rfl, made_without hn hsrt]
    rfl
  rw [runA_cons0 e1, runA_cons0 (Ad.sync_ok rfl rfl)]
  rfl
/-- they are not: the file is renamed -/
theorem ad_new {room : Int} {l : Fls} {nm : ByteArray} {ps : List Nat} (hn : lookF l nm = none) (hsrt : Srt l) (hf : lookF l (fileB (Sha.sum ps)) = none) (hne : nm ≠ fileB (Sha.sum ps)) (hnm : isNm (fileB (Sha.sum ps)) = true) : (madeA room l nm ps).adopt nm (Sha.sum ps) = (fresh room (withF l (fileB (Sha.sum ps), ps)), 0) := by
  have k := made_now (room := room) (ps := ps) hn (fileB (Sha.sum ps))
  rw [if_neg fun h => hne h.symm, hf] at k
  have k0 := made_now (room := room) (ps := ps) hn nm
  rw [if_pos rfl] at k0
  have hz : (szA (madeA room l nm ps) (fileB (Sha.sum ps))).2 = 6 := by
    unfold szA
    rw [show (madeA room l nm ps).down = false from rfl]
    simp only [Bool.false_eq_true, if_false, k]
  rw [ad_head hn, if_neg fun h => absurd (hz.symm.trans h.1) (by decide)]
  have e1 : (madeA room l nm ps).step ⟨3, nm, fileB (Sha.sum ps), []⟩ = (⟨room, -1, false, withF l (fileB (Sha.sum ps), ps), l, (madeA room l nm ps).loose ++ [⟨3, nm, fileB (Sha.sum ps), []⟩]⟩, 0) := by
    have := Ad.step_ok (A := madeA room l nm ps) (c := ⟨3, nm, fileB (Sha.sum ps), []⟩) rfl rfl (by
      unfold Ad.may
      simp only [k0, Option.isNone_some]
      rw [if_neg (by decide), if_neg (by decide), if_neg (by decide), if_neg (by rw [hnm]; simp)])
    rw [this, doF3, k0, show (madeA room l nm ps).now = withF l (nm, ps) from rfl, made_without hn hsrt, without_none hf]
    rfl
  rw [runA_cons0 e1, runA_cons0 (Ad.sync_ok rfl rfl)]
  rfl
end Go.Proofs.YtcjlbonflecbkaaDoor
