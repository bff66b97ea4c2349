/-
  Both Parse of a reference, whole.
-/
import Derived.Test.YtjoomfikfbbnmaaDoorNmh
namespace Go.Proofs.YtjoomfikfbbnmaaDoor
set_option linter.unusedVariables false
open Go.RowKit Go.Proofs.Nm
def tagOk (l : List UInt8) : Bool := isTagL l && decide (l.length ≤ 128)
/-- behind the name and the tag -/
def prs2 (a r2 : List UInt8) : Option (List UInt8) → Array Value × Nat
  | none => (refC a r2 false zs32, 0)
  | some r1 => match pz (T r1) with
    | none => (ref0, 20)
    | some d => (refC a r2 true d, 0)
def prs1 (a : List UInt8) (o1 : Option (List UInt8)) : Option (List UInt8) → Array Value × Nat
  | none => prs2 a [] o1
  | some r2 => if tagOk r2 = true then prs2 a r2 o1 else (ref0, 71)
/-- what a text is as a reference, and the error's number -/
def prs (l : List UInt8) : Array Value × Nat :=
  if repoB (cutL 58 (cutL 64 l).1).1 = true then prs1 (cutL 58 (cutL 64 l).1).1 (cutL 64 l).2 (cutL 58 (cutL 64 l).1).2 else (ref0, 70)
def PrsRet (l : List UInt8) (w : World) (e : Ending) (w' : World) : Prop := e = .returned (.tuple #[.agg (prs l).1, .int .i64 ((prs l).2 : Nat)]) ∧ Below w.heap.size w w'
theorem PrsRet.mk {l : List UInt8} {w w' : World} {e : Ending} {V : Array Value} {n : Nat} (hv : prs l = (V, n)) (h : e = .returned (.tuple #[.agg V, .int .i64 (n : Int)]) ∧ Below w.heap.size w w') : PrsRet l w e w' := by
  unfold PrsRet
  rw [hv]
  exact h
theorem cut_at (l : List UInt8) (x : UInt8) (W : World) (hl : l.length ≤ 140737488351232) (p r : List UInt8) (f : Bool) (hp : (cutL x l).1 = p) (hr : (cutL x l).2.getD [] = r) (hf : (cutL x l).2.isSome = f) :
    Calls Tryd.prog 26 #[.string (T l), .string ⟨#[x]⟩] W fun e w' => e = .returned (.tuple #[.string (T p), .string (T r), .bool f]) ∧ Below W.heap.size W w' := by
  have := cut_c l x W hl
  unfold cutV at this
  rw [hp, hr, hf] at this
  exact this
theorem dparse_no (l : List UInt8) (W : World) (hl : l.length ≤ 140737488351232) (h : pz (T l) = none) :
    Calls Tryd.prog 29 #[.string (T l)] W fun e w' => e = .returned (.tuple #[.agg (cellsOf zs32).toArray, .int .i64 10]) ∧ Below W.heap.size W w' := by
  have := parse_c (T l) W hl
  unfold ParRet at this
  rw [h] at this
  exact this
theorem dparse_yes (l : List UInt8) (W : World) (hl : l.length ≤ 140737488351232) (d : List Nat) (h : pz (T l) = some d) :
    Calls Tryd.prog 29 #[.string (T l)] W fun e w' => e = .returned (.tuple #[.agg (cellsOf d).toArray, .int .i64 0]) ∧ Below W.heap.size W w' := by
  have := parse_c (T l) W hl
  unfold ParRet at this
  rw [h] at this
  exact this
theorem drparse_no (l : List UInt8) (W : World) (hl : l.length ≤ 140737488351232) (h : pz (T l) = none) :
    Calls Tryd.prog 31 #[.string (T l)] W fun e w' => e = .returned (.tuple #[.agg (cellsOf zs32).toArray, .bool false]) ∧ Below W.heap.size W w' := by
  have := refParse_c (T l) W hl
  unfold ParRetB at this
  rw [h] at this
  exact this
theorem drparse_yes (l : List UInt8) (W : World) (hl : l.length ≤ 140737488351232) (d : List Nat) (h : pz (T l) = some d) :
    Calls Tryd.prog 31 #[.string (T l)] W fun e w' => e = .returned (.tuple #[.agg (cellsOf d).toArray, .bool true]) ∧ Below W.heap.size W w' := by
  have := refParse_c (T l) W hl
  unfold ParRetB at this
  rw [h] at this
  exact this
theorem tagOk_c (l : List UInt8) (W : World) (hl : l.length ≤ 140737488351232) (b : Bool) (hb : tagOk l = b) :
    Calls Tryd.prog 13 #[.string (T l)] W fun e w' => e = .returned (.bool b) ∧ Below W.heap.size W w' := by
  rw [← hb]
  exact tag_c l W hl
theorem rtagOk_c (l : List UInt8) (W : World) (hl : l.length ≤ 140737488351232) (b : Bool) (hb : tagOk l = b) :
    Calls Tryd.prog 14 #[.string (T l)] W fun e w' => e = .returned (.bool b) ∧ W = w' := by
  rw [← hb]
  exact rtag_c l W hl
theorem rrepoB_c (l : List UInt8) (W : World) (hl : l.length ≤ 140737488351232) (b : Bool) (hb : repoB l = b) :
    Calls Tryd.prog 12 #[.string (T l)] W fun e w' => e = .returned (.bool b) ∧ W = w' := by
  rw [← hb]
  exact rrepo_c l W hl
theorem pz_d32 {s : ByteArray} {d : List Nat} (h : pz s = some d) : D32 d := pz_len h
theorem nparse_c (l : List UInt8) (w : World) (hl : l.length ≤ 140737488351232) : Calls Tryd.prog 17 #[.string (T l)] w (PrsRet l w) := by
  obtain ⟨h1, h2⟩ := cutL_lens 64 l
  obtain ⟨h3, h4⟩ := cutL_lens 58 (cutL 64 l).1
  obtain ⟨p1, hp1⟩ : ∃ p, (cutL 64 l).1 = p := ⟨_, rfl⟩
  obtain ⟨o1, ho1⟩ : ∃ p, (cutL 64 l).2 = p := ⟨_, rfl⟩
  obtain ⟨a, ha⟩ : ∃ p, (cutL 58 p1).1 = p := ⟨_, rfl⟩
  obtain ⟨o2, ho2⟩ : ∃ p, (cutL 58 p1).2 = p := ⟨_, rfl⟩
  rw [hp1] at h1 h3 h4
  rw [ho1] at h2
  rw [ha] at h3
  rw [ho2] at h4
  have hv : prs l = if repoB a = true then prs1 a o1 o2 else (ref0, 70) := by unfold prs; rw [hp1, ha, ho1, ho2]
  have hpl : p1.length ≤ 140737488351232 := by omega
  have k1 := fun (r : List UInt8) (f : Bool) (hr : o1.getD [] = r) (hf : o1.isSome = f) => Lib.hid (fun W => cut_at l 64 W hl p1 r f hp1 (by rw [ho1]; exact hr) (by rw [ho1]; exact hf))
  have k2 := fun (r : List UInt8) (f : Bool) (hr : o2.getD [] = r) (hf : o2.isSome = f) => Lib.hid (fun W => cut_at p1 58 W hpl a r f ha (by rw [ho2]; exact hr) (by rw [ho2]; exact hf))
  have q1 := Lib.hid (fun W => clone_c a W (by omega))
  cases hR : repoB a with
  | false =>
    rw [hR, if_neg (by simp)] at hv
    exact (np_name l p1 _ a _ _ _ w (k1 _ _ rfl rfl) (k2 _ _ rfl rfl) (Lib.hid fun W => repoB_c a W (by omega) false hR)).mono fun e w' h => PrsRet.mk hv h
  | true =>
    rw [hR, if_pos rfl] at hv
    have r1 := Lib.hid fun W => repoB_c a W (by omega) true hR
    cases o2 with
    | none =>
      have hv : prs l = prs2 a [] o1 := hv
      have q2 := Lib.hid (fun W => clone_c [] W (by decide))
      cases o1 with
      | none => exact (np_ok0 l p1 _ a [] w (k1 _ _ rfl rfl) (k2 _ _ rfl rfl) r1 q1 q2).mono fun e w' h => PrsRet.mk hv h
      | some r =>
        have h2 : r.length ≤ l.length := h2
        cases hz : pz (T r) with
        | none =>
          have hv : prs l = (ref0, 20) := by rw [hv]; unfold prs2; simp only [hz]
          exact (np_pin00 l p1 r a [] zs32 d32_zs w (k1 _ _ rfl rfl) (k2 _ _ rfl rfl) r1 q1 q2 (Lib.hid fun W => dparse_no r W (by omega) hz)).mono fun e w' h => PrsRet.mk hv h
        | some d =>
          have hv : prs l = (refC a [] true d, 0) := by rw [hv]; unfold prs2; simp only [hz]
          exact (np_pin01 l p1 r a [] d (pz_d32 hz) w (k1 _ _ rfl rfl) (k2 _ _ rfl rfl) r1 q1 q2 (Lib.hid fun W => dparse_yes r W (by omega) d hz)).mono fun e w' h => PrsRet.mk hv h
    | some r2 =>
      have h4 : r2.length ≤ p1.length := h4
      have hv : prs l = if tagOk r2 = true then prs2 a r2 o1 else (ref0, 71) := hv
      cases hT : tagOk r2 with
      | false =>
        rw [hT, if_neg (by simp)] at hv
        exact (np_tag l p1 _ a r2 _ w (k1 _ _ rfl rfl) (k2 _ _ rfl rfl) r1 (Lib.hid fun W => tagOk_c r2 W (by omega) false hT)).mono fun e w' h => PrsRet.mk hv h
      | true =>
        rw [hT, if_pos rfl] at hv
        have t1 := Lib.hid fun W => tagOk_c r2 W (by omega) true hT
        have q2 := Lib.hid (fun W => clone_c r2 W (by omega))
        cases o1 with
        | none => exact (np_ok1 l p1 _ a r2 w (k1 _ _ rfl rfl) (k2 _ _ rfl rfl) r1 t1 q1 q2).mono fun e w' h => PrsRet.mk hv h
        | some r =>
          have h2 : r.length ≤ l.length := h2
          cases hz : pz (T r) with
          | none =>
            have hv : prs l = (ref0, 20) := by rw [hv]; unfold prs2; simp only [hz]
            exact (np_pin10 l p1 r a r2 zs32 d32_zs w (k1 _ _ rfl rfl) (k2 _ _ rfl rfl) r1 t1 q1 q2 (Lib.hid fun W => dparse_no r W (by omega) hz)).mono fun e w' h => PrsRet.mk hv h
          | some d =>
            have hv : prs l = (refC a r2 true d, 0) := by rw [hv]; unfold prs2; simp only [hz]
            exact (np_pin11 l p1 r a r2 d (pz_d32 hz) w (k1 _ _ rfl rfl) (k2 _ _ rfl rfl) r1 t1 q1 q2 (Lib.hid fun W => dparse_yes r W (by omega) d hz)).mono fun e w' h => PrsRet.mk hv h
theorem ext_pre (p r : List UInt8) : (T (p ++ r)).extract 0 p.length = T p := T_eq (by rw [Lib.extract_data]; simp)
theorem ext_post (p r : List UInt8) (x : UInt8) : (T (p ++ x :: r)).extract (p.length + 1) (p ++ x :: r).length = T r := T_eq (by
  have h := Lib.extract_to_end (T (p ++ x :: r)) (p.length + 1)
  rw [show (T (p ++ x :: r)).size = (p ++ x :: r).length from by simp [ByteArray.size]] at h
  rw [h]
  simp)
theorem cut_form (x : UInt8) (l : List UInt8) : (T l).extract 0 (cutL x l).1.length = T (cutL x l).1 ∧ (∀ r, (cutL x l).2 = some r → (T l).extract ((cutL x l).1.length + 1) l.length = T r ∧ ((cutL x l).1.length : Int) < (l.length : Int)) ∧ ((cutL x l).2 = none → (l.length : Int) ≤ ((cutL x l).1.length : Int)) := by
  rcases cutL_back x l with ⟨r, hr, he⟩ | ⟨hn, he, _⟩
  · generalize hp : (cutL x l).1 = p at he ⊢
    refine ⟨by rw [he]; exact ext_pre p _, fun q hq => ?_, fun h => by rw [hr] at h; cases h⟩
    rw [hr] at hq
    obtain rfl := Option.some.inj hq
    refine ⟨by rw [he]; exact ext_post p _ x, by rw [he, List.length_append, List.length_cons]; omega⟩
  · generalize hp : (cutL x l).1 = p at he ⊢
    subst he
    refine ⟨by have := ext_pre l []; rwa [List.append_nil] at this, fun q hq => (by rw [hn] at hq; cases hq), fun _ => Int.le_refl _⟩
theorem rparse_c (l : List UInt8) (w : World) (hl : l.length ≤ 140737488351232) : Calls Tryd.prog 18 #[.string (T l)] w (PrsRet l w) := by
  obtain ⟨h1, h2⟩ := cutL_lens 64 l
  obtain ⟨h3, h4⟩ := cutL_lens 58 (cutL 64 l).1
  obtain ⟨x1, x2, x3⟩ := cut_form 64 l
  obtain ⟨y1, y2, y3⟩ := cut_form 58 (cutL 64 l).1
  have f1 := Lib.hid (fun W => find_c l 64 W hl)
  have f2 := Lib.hid (fun W => find_c (cutL 64 l).1 58 W (by omega))
  obtain ⟨p1, hp1⟩ : ∃ p, (cutL 64 l).1 = p := ⟨_, rfl⟩
  obtain ⟨o1, ho1⟩ : ∃ p, (cutL 64 l).2 = p := ⟨_, rfl⟩
  obtain ⟨a, ha⟩ : ∃ p, (cutL 58 p1).1 = p := ⟨_, rfl⟩
  obtain ⟨o2, ho2⟩ : ∃ p, (cutL 58 p1).2 = p := ⟨_, rfl⟩
  have hv : prs l = if repoB a = true then prs1 a o1 o2 else (ref0, 70) := by unfold prs; rw [hp1, ha, ho1, ho2]
  rw [hp1] at h1 h3 h4 x1 x2 x3 y1 y2 y3 f1 f2
  rw [ho1] at h2 x2 x3
  rw [ha] at h3 y1 y2 y3 f2
  rw [ho2] at h4 y2 y3
  cases hR : repoB a with
  | false =>
    rw [hR, if_neg (by simp)] at hv
    exact (rp_name l p1 [] a [] zs32 d32_zs w hl f1 f2 (Lib.hid fun W => rrepoB_c a W (by omega) false hR) x1 y1 h1 h3).mono fun e w' h => PrsRet.mk hv h
  | true =>
    rw [hR, if_pos rfl] at hv
    have r1 := Lib.hid fun W => rrepoB_c a W (by omega) true hR
    cases o2 with
    | none =>
      have hv : prs l = prs2 a [] o1 := hv
      have y3 := y3 rfl
      cases o1 with
      | none => exact (rp_ok0 l p1 [] a [] zs32 d32_zs w hl f1 f2 r1 x1 y1 h1 h3 y3 rfl (x3 rfl)).mono fun e w' h => PrsRet.mk hv h
      | some r =>
        have h2 : r.length ≤ l.length := h2
        obtain ⟨x4, x5⟩ := x2 r rfl
        cases hz : pz (T r) with
        | none =>
          have hv : prs l = (ref0, 20) := by rw [hv]; unfold prs2; simp only [hz]
          exact (rp_no0 l p1 r a [] zs32 d32_zs w hl f1 f2 r1 x1 y1 h1 h3 y3 rfl x4 x5 (Lib.hid fun W => drparse_no r W (by omega) hz)).mono fun e w' h => PrsRet.mk hv h
        | some d =>
          have hv : prs l = (refC a [] true d, 0) := by rw [hv]; unfold prs2; simp only [hz]
          exact (rp_yes0 l p1 r a [] d (pz_d32 hz) w hl f1 f2 r1 x1 y1 h1 h3 y3 rfl x4 x5 (Lib.hid fun W => drparse_yes r W (by omega) d hz)).mono fun e w' h => PrsRet.mk hv h
    | some r2 =>
      have h4 : r2.length ≤ p1.length := h4
      obtain ⟨y4, y5⟩ := y2 r2 rfl
      have hv : prs l = if tagOk r2 = true then prs2 a r2 o1 else (ref0, 71) := hv
      cases hT : tagOk r2 with
      | false =>
        rw [hT, if_neg (by simp)] at hv
        exact (rp_tag l p1 [] a r2 zs32 d32_zs w hl f1 f2 r1 x1 y1 h1 h3 y4 y5 (Lib.hid fun W => rtagOk_c r2 W (by omega) false hT)).mono fun e w' h => PrsRet.mk hv h
      | true =>
        rw [hT, if_pos rfl] at hv
        have t1 := Lib.hid fun W => rtagOk_c r2 W (by omega) true hT
        cases o1 with
        | none => exact (rp_ok1 l p1 [] a r2 zs32 d32_zs w hl f1 f2 r1 x1 y1 h1 h3 y4 y5 t1 (x3 rfl)).mono fun e w' h => PrsRet.mk hv h
        | some r =>
          have h2 : r.length ≤ l.length := h2
          obtain ⟨x4, x5⟩ := x2 r rfl
          cases hz : pz (T r) with
          | none =>
            have hv : prs l = (ref0, 20) := by rw [hv]; unfold prs2; simp only [hz]
            exact (rp_no1 l p1 r a r2 zs32 d32_zs w hl f1 f2 r1 x1 y1 h1 h3 y4 y5 t1 x4 x5 (Lib.hid fun W => drparse_no r W (by omega) hz)).mono fun e w' h => PrsRet.mk hv h
          | some d =>
            have hv : prs l = (refC a r2 true d, 0) := by rw [hv]; unfold prs2; simp only [hz]
            exact (rp_yes1 l p1 r a r2 d (pz_d32 hz) w hl f1 f2 r1 x1 y1 h1 h3 y4 y5 t1 x4 x5 (Lib.hid fun W => drparse_yes r W (by omega) d hz)).mono fun e w' h => PrsRet.mk hv h
end Go.Proofs.YtjoomfikfbbnmaaDoor
