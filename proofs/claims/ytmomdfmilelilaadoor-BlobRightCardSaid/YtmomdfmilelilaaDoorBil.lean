/-
  A disk of a store, plain: what is written on a new one; what is adopted.
-/
import Derived.Test.YtmomdfmilelilaaDoorBij
import Derived.Test.YtmomdfmilelilaaDoorBik
namespace Go.Proofs.YtmomdfmilelilaaDoor
set_option linter.unusedVariables false
def fresh (room : Int) (l : Fls) : Ad := ⟨room, -1, false, l, l, []⟩
theorem Ad.step_ok {A : Ad} {c : DCh} (hd : A.down = false) (hf : A.fuse = -1) (hm : A.may c = 0) : A.step c = (⟨A.room, -1, false, doF A.now c, A.sure, A.loose ++ [c]⟩, 0) := by
  rw [Ad.step_did hd hm (by omega)]
  unfold Ad.did Ad.spent
  rw [hf, hd]
  rfl
theorem Ad.sync_ok {A : Ad} (hd : A.down = false) (hf : A.fuse = -1) : A.sync = (fresh A.room A.now, 0) := by
  unfold Ad.sync
  rw [hd, hf]
  simp only [Bool.false_eq_true, if_false]
  rw [if_neg (by omega)]
  unfold Ad.spent fresh
  rw [hf, hd]
  rfl
theorem spr_isNm : isNm spr = true := by decide
theorem runA_cons0 {f : Ad → Ad × Int} {fs : List (Ad → Ad × Int)} {A A' : Ad} (h : f A = (A', 0)) : runA (f :: fs) A = runA fs A' := by
  show (if (f A).2 ≠ 0 then f A else runA fs (f A).1) = _
  rw [h]
  rfl
theorem runA_cons1 {f : Ad → Ad × Int} {fs : List (Ad → Ad × Int)} {A : Ad} (h : (f A).2 ≠ 0) : runA (f :: fs) A = f A := by
  show (if (f A).2 ≠ 0 then f A else runA fs (f A).1) = _
  rw [if_pos h]
theorem rm_none {A : Ad} {s : ByteArray} (hd : A.down = false) (h : lookF A.now s = none) : A.step ⟨2, s, ⟨#[]⟩, []⟩ = (A, 6) := by
  refine Ad.step_no hd ?_ (by decide)
  unfold Ad.may
  simp [h]
theorem clr_none {A : Ad} (hd : A.down = false) (h : lookF A.now spr = none) : A.clr = (A, 0) := by
  unfold Ad.clr
  rw [rm_none hd h]
  rfl
theorem nw_none {A : Ad} (hd : A.down = false) (h : lookF A.now spr = none) : runA nwS A = (A, 6) := by
  have h1 := rm_none hd h
  exact (runA_cons1 (by show (A.step ⟨2, spr, ⟨#[]⟩, []⟩).2 ≠ 0; rw [h1]; exact (by decide : (6 : Int) ≠ 0))).trans h1
/-- all of the steps of a write, on a disk that has room -/
theorem wr_ok {room : Int} {l : Fls} {nm : ByteArray} {ps : List Nat} (hs : lookF l spr = none) (hn : lookF l nm = none) (hnm : isNm nm = true) (hne : nm ≠ spr) (hl : l.length < 4096) (hp : ps.length ≤ 1048576) (hr : (usedF l : Int) + (ps.length : Int) ≤ room) (hsrt : Srt l) :
    (fresh room l).wr nm ps = (fresh room (withF l (nm, ps)), 0) := by
  have hmem : ∀ x ∈ l, x.1 ≠ spr := lookF_none hs
  have e1 : (fresh room l).clr = (fresh room l, 0) := clr_none rfl hs
  have e2 : (fresh room l).step ⟨0, spr, ⟨#[]⟩, []⟩ = (⟨room, -1, false, withF l (spr, []), l, [⟨0, spr, ⟨#[]⟩, []⟩]⟩, 0) := Ad.step_ok rfl rfl (by
    unfold Ad.may
    show (if (0 : Nat) = 0 then (if isNm spr = false then 1 else if (lookF l spr).isSome then 7 else if 4096 ≤ l.length then 4 else 0) else _) = (0 : Int)
    rw [if_pos rfl, spr_isNm, hs]
    simp
    omega)
  have k1 : lookF (withF l (spr, [])) spr = some [] := by rw [look_with spr hs, if_pos rfl]
  have s1 : Srt (withF l (spr, [])) := srt_with hsrt hmem
  have u1 : usedF (withF l (spr, [])) = usedF l := by rw [used_with]; rfl
  have w1 : withoutF (withF l (spr, [])) spr = l := srt_ext (srt_without s1) hsrt fun n => by
    rw [look_without, look_with n hs]
    by_cases e : n = spr
    · rw [if_pos e, e, hs]
    · rw [if_neg e, if_neg e]
  have e3 : (⟨room, -1, false, withF l (spr, []), l, [⟨0, spr, ⟨#[]⟩, []⟩]⟩ : Ad).step ⟨1, spr, ⟨#[]⟩, ps⟩ = (⟨room, -1, false, withF l (spr, ps), l, [⟨0, spr, ⟨#[]⟩, []⟩, ⟨1, spr, ⟨#[]⟩, ps⟩]⟩, 0) := by
    have := Ad.step_ok (A := ⟨room, -1, false, withF l (spr, []), l, [⟨0, spr, ⟨#[]⟩, []⟩]⟩) (c := ⟨1, spr, ⟨#[]⟩, ps⟩) rfl rfl (by
      unfold Ad.may
      simp only [k1, u1, Option.isNone_some]
      rw [if_neg (by decide), if_neg (by decide), if_pos trivial, if_neg (by omega), if_neg (by omega)])
    rw [this, doF1, k1, w1]
    rfl
  have e4 : (⟨room, -1, false, withF l (spr, ps), l, [⟨0, spr, ⟨#[]⟩, []⟩, ⟨1, spr, ⟨#[]⟩, ps⟩]⟩ : Ad).sync = (fresh room (withF l (spr, ps)), 0) := Ad.sync_ok rfl rfl
  have k2 : lookF (withF l (spr, ps)) spr = some ps := by rw [look_with spr hs, if_pos rfl]
  have s2 : Srt (withF l (spr, ps)) := srt_with hsrt hmem
  have w2 : withoutF (withoutF (withF l (spr, ps)) spr) nm = l := srt_ext (srt_without (srt_without s2)) hsrt fun n => by
    rw [look_without, look_without, look_with n hs]
    by_cases e : n = nm
    · rw [if_pos e, e, hn]
    · rw [if_neg e]
      by_cases e2 : n = spr
      · rw [if_pos e2, e2, hs]
      · rw [if_neg e2, if_neg e2]
  have e5 : (fresh room (withF l (spr, ps))).step ⟨3, spr, nm, []⟩ = (⟨room, -1, false, withF l (nm, ps), withF l (spr, ps), [⟨3, spr, nm, []⟩]⟩, 0) := by
    have := Ad.step_ok (A := fresh room (withF l (spr, ps))) (c := ⟨3, spr, nm, []⟩) rfl rfl (by
      unfold Ad.may fresh
      simp only [k2, Option.isNone_some]
      rw [if_neg (by decide), if_neg (by decide), if_neg (by decide), if_neg (by rw [hnm]; simp)])
    rw [this, doF3]
    unfold fresh
    rw [w2, k2]
    rfl
  have e6 : (⟨room, -1, false, withF l (nm, ps), withF l (spr, ps), [⟨3, spr, nm, []⟩]⟩ : Ad).sync = (fresh room (withF l (nm, ps)), 0) := Ad.sync_ok rfl rfl
  have hrun : runA (wrS nm ps) (fresh room l) = (fresh room (withF l (nm, ps)), 0) := by
    unfold wrS
    rw [runA_cons0 e1, runA_cons0 e2, runA_cons0 e3, runA_cons0 e4, runA_cons0 e5, runA_cons0 e6]
    rfl
  unfold Ad.wr
  rw [hrun]
  rfl
theorem fileB_ne (ds : List Nat) (hd : D32 ds) {s : ByteArray} (hs : s.size ≠ 66) : fileB ds ≠ s := fun e => hs (by rw [← e]; exact fileB_size ds hd)
theorem fileB_isNm (ds : List Nat) (hd : D32 ds) : isNm (fileB ds) = true := by
  unfold isNm
  rw [fileB_size ds hd]
  rfl
theorem look_one (s t : ByteArray) (z : List Nat) : lookF [(s, z)] t = if t = s then some z else none := by
  have := look_with (f := (s, z)) t (l := []) rfl
  exact this
/-- a Put on a disk without files -/
theorem put_fresh {room : Int} {ps : List Nat} (hp : ps.length ≤ 1048576) (hr : (ps.length : Int) ≤ room) : (fresh room []).put ps = (fresh room [(fileB (Sha.sum ps), ps)], 0) := by
  have hd : D32 (Sha.sum ps) := ⟨sum_len _, sum_byte _⟩
  unfold Ad.put
  rw [show szA (fresh room []) (fileB (Sha.sum ps)) = (0, 6) from rfl, if_pos rfl]
  exact wr_ok (l := []) rfl rfl (fileB_isNm _ hd) (fileB_ne _ hd (by decide)) (by decide) hp (by simpa [usedF] using hr) List.Pairwise.nil
/-- a Put of bytes that are there -/
theorem put_there {A : Ad} {ps z : List Nat} (hd : A.down = false) (h : lookF A.now (fileB (Sha.sum ps)) = some z) : A.put ps = (A, 0) := by
  unfold Ad.put szA
  rw [hd]
  simp only [Bool.false_eq_true, if_false, h]
  rw [if_neg (by decide)]
end Go.Proofs.YtmomdfmilelilaaDoor
