/-
  The document's disk: lists of files with a file less, with a file more.
-/
import Derived.Test.YtcjlbonflecbkaaRfa
namespace Go.Proofs.Ytcjlbonflecbkaa
open Go.RowKit
set_option linter.unusedVariables false
theorem info_file : (Try.prog.info? 100).map (fun i => (i.zero, i.size, i.bytes)) = some (some (.agg #[.string ⟨#[]⟩, .slice none 0 0]), 2, 40) := by kernel_rfl
abbrev FR2 := Value × Value
def fcells (rs : List FR2) : List Value := rs.flatMap fun r => [r.1, r.2]
theorem fcells_append (rs ss : List FR2) : fcells (rs ++ ss) = fcells rs ++ fcells ss := by unfold fcells; rw [List.flatMap_append]
theorem fcells_get : ∀ (rs : List FR2) (i : Nat) (r : FR2), rs[i]? = some r → (fcells rs)[2 * i]? = some r.1 ∧ (fcells rs)[2 * i + 1]? = some r.2
  | [], i, r, h => by simp at h
  | x :: rs, 0, r, h => by cases h; exact ⟨rfl, rfl⟩
  | x :: rs, i + 1, r, h => by
    have := fcells_get rs i r h
    unfold fcells at this ⊢
    rw [List.flatMap_cons, show 2 * (i + 1) = 2 * i + 2 by omega]
    exact this
/-- a row of files that the call owns -/
abbrev OwnF (w : World) (B : Nat) (v : Value) (rs : List FR2) : Prop := w.ownsRow B 100 2 v rs.length (fcells rs)
/-- what its cells are -/
structure FRs (N : Nat → Prop) (w : World) (rs : List FR2) (l : Fls) : Prop where
  ln : rs.length = l.length
  cel : ∀ (i : Nat) (r : FR2) (f : ByteArray × List Nat), rs[i]? = some r → l[i]? = some f → FC N w f r.1 r.2
theorem FRs.nil (N : Nat → Prop) (w : World) : FRs N w [] [] := ⟨rfl, fun i r f h => by simp at h⟩
theorem FRs.sta {N N' : Nat → Prop} {w w' : World} {rs : List FR2} {l : Fls} (h : FRs N w rs l) (hs : Sta N w w') (hr : Ren N N' w) : FRs N' w' rs l := ⟨h.ln, fun i r f h1 h2 => (h.cel i r f h1 h2).sta hs hr⟩
theorem FRs.push {N : Nat → Prop} {w : World} {rs : List FR2} {l : Fls} (h : FRs N w rs l) {r : FR2} {f : ByteArray × List Nat} (hc : FC N w f r.1 r.2) : FRs N w (rs ++ [r]) (l ++ [f]) := by
  refine ⟨by simp [h.ln], fun i r' f' h1 h2 => ?_⟩
  by_cases hi : i < rs.length
  · rw [List.getElem?_append_left hi] at h1
    rw [List.getElem?_append_left (by rw [← h.ln]; exact hi)] at h2
    exact h.cel i r' f' h1 h2
  · rw [List.getElem?_append_right (by omega)] at h1
    rw [List.getElem?_append_right (by rw [← h.ln]; omega), ← h.ln] at h2
    have hz : i - rs.length = 0 := by
      have := (List.getElem?_eq_some_iff.1 h1).1
      simp at this
      omega
    rw [hz] at h1 h2
    cases h1
    cases h2
    exact hc
theorem RF.of {N : Nat → Prop} {w : World} {B len cap : Nat} {a : Option Addr} {rs : List FR2} {l : Fls} (h : OwnF w B (.slice a len cap) rs) (hf : FRs N w rs l) (hN : ∀ k, N k → k < B) : RF N w a len l ∧ len = l.length := by
  rcases h.2 with ⟨h1, h2⟩ | ⟨g, c, cur, h1, h2, h3, h4, h5, h6, h7⟩
  · obtain ⟨e1, e2, e3⟩ := Value.slice.inj h1
    subst e2
    have : l = [] := List.eq_nil_of_length_eq_zero (by rw [← hf.ln]; exact h2)
    subst this
    exact ⟨RF.nil _ _ _, rfl⟩
  · obtain ⟨e1, e2, e3⟩ := Value.slice.inj h1
    subst e1 e2
    refine ⟨⟨hf.ln, .inr ⟨g, 0, rfl, (Array.getElem?_eq_some_iff.1 h3).1, fun hn => by have := hN g hn; omega, fun i f hi => ?_⟩⟩, hf.ln⟩
    have hil : i < rs.length := by rw [hf.ln]; exact (List.getElem?_eq_some_iff.1 hi).1
    have hr := List.getElem?_eq_getElem hil
    obtain ⟨c0, c1⟩ := fcells_get rs i _ hr
    refine ⟨_, _, ?_, ?_, hf.cel i _ f hr hi⟩
    · rw [cell_of_row w g _ cur _ _ h3, ← Array.getElem?_toList, Nat.zero_add, ← c0, ← h7, List.getElem?_take, if_pos (by omega)]
    · rw [cell_of_row w g _ cur _ _ h3, ← Array.getElem?_toList, Nat.zero_add, ← c1, ← h7, List.getElem?_take, if_pos (by omega)]
theorem wpList_pushFl {w : World} {ops : Array Oper} {rest : List Oper} {o : Oper} {a : Act} {Q : Exit → Act → World → Prop} (hgd : o.guard = none) (s x : Operand)
    (ho : o.op = .call { callee := .builtin .append, args := #[s, x], argTypes := #[88, 88] })
    (B : Nat) (v : Value) (rs : List FR2) (r : FR2) (h1 : r.1.oneCell' = true) (h2 : r.2.oneCell' = true) (hs : a.eval s = v) (hown : OwnF w B v rs) (hB : B ≤ w.heap.size) (hx : a.eval x = .slice (some ⟨w.heap.size, 0, none⟩) 1 1)
    (hlen : rs.length + 1 ≤ 1000000000)
    (h : ∀ v' w', OwnF w' B v' (rs ++ [r]) → (w.alloc (.cells #[r.1, r.2] 100)).grownBy w' v.ownBlock → wpList Try.prog ops Q rest (a.put o.dst v') w') :
    wpList Try.prog ops Q (o :: rest) a (w.alloc (.cells #[r.1, r.2] 100)) := by
  obtain ⟨i0, hi, hz0, hz1, hz2⟩ := info_parts info_file
  have hal : OwnF (w.alloc (.cells #[r.1, r.2] 100)) B v rs := World.ownsRow.alloc hown _
  refine wpList_append_own _ hgd s x 88 ho B 100 i0 _ 2 40 Try.underlying88 hi hz0 hz1 hz2 rfl (by decide) v rs.length (fcells rs) hs hal ⟨w.heap.size, 0, none⟩ 1 1 [r.1, r.2] hx rfl ?_ ?_ (by unfold maxLen; omega) (by omega) (by simp; omega) ?_
  · intro j u hj
    rw [Addr.add_mid, Nat.zero_add, cell_of_row _ _ _ _ _ _ (heap_new _ _)]
    simpa using hj
  · intro u hu
    simp only [List.mem_cons, List.not_mem_nil, or_false] at hu
    rcases hu with rfl | rfl
    · exact h1
    · exact h2
  · intro v' w' k1 k2 _
    refine h v' w' ?_ k2
    have e : (rs ++ [r]).length = rs.length + 1 := by simp
    unfold OwnF
    rw [e, fcells_append]
    exact k1
/-- new blocks are forbidden, too -/
def Low (N : Nat → Prop) (w : World) (k : Nat) : Prop := N k ∨ w.heap.size ≤ k
theorem RB.low {N : Nat → Prop} {w : World} {a : Option Addr} {n c : Nat} {zs : List Nat} (h : RB N w a n c zs) : RB (Low N w) w a n c zs := by
  refine ⟨h.rd, fun b o s e hn hl => ?_, h.nil, h.le⟩
  rcases hl with hl | hl
  · exact h.no b o s e hn hl
  · obtain ⟨_, _, h0 | ⟨b', o', e', hb, _⟩⟩ := h.rd
    · exact hn h0
    · rw [e'] at e; cases e; omega
theorem FC.low {N : Nat → Prop} {w : World} {f : ByteArray × List Nat} {x y : Value} (h : FC N w f x y) : FC (Low N w) w f x y := by
  obtain ⟨h1, ra, rn, rc, h2, h3⟩ := h
  exact ⟨h1, ra, rn, rc, h2, h3.low⟩
theorem RF.low {N : Nat → Prop} {w : World} {a : Option Addr} {len : Nat} {l : Fls} (h : RF N w a len l) : RF (Low N w) w a len l := by
  refine ⟨h.ln, ?_⟩
  rcases h.row with h0 | ⟨b, o, h1, h2, h3, h4⟩
  · exact .inl h0
  · refine .inr ⟨b, o, h1, h2, fun hl => ?_, fun i f hf => ?_⟩
    · rcases hl with hl | hl
      · exact h3 hl
      · omega
    · obtain ⟨x, y, k1, k2, k3⟩ := h4 i f hf
      exact ⟨x, y, k1, k2, k3.low⟩
theorem FC.weak {N M : Nat → Prop} {w : World} {f : ByteArray × List Nat} {x y : Value} (h : FC M w f x y) (hw : ∀ k, N k → M k) : FC N w f x y := by
  obtain ⟨h1, ra, rn, rc, h2, h3⟩ := h
  exact ⟨h1, ra, rn, rc, h2, h3.rd, fun b o s e hn hN => h3.no b o s e hn (hw b hN), h3.nil, h3.le⟩
theorem FRs.weak {N M : Nat → Prop} {w : World} {rs : List FR2} {l : Fls} (h : FRs M w rs l) (hw : ∀ k, N k → M k) : FRs N w rs l := ⟨h.ln, fun i r f h1 h2 => (h.cel i r f h1 h2).weak hw⟩
/-- appending to a row of the call's own leaves what was there ahead of the call -/
theorem sta_push {N : Nat → Prop} {w wr w5 : World} {v : Value} {rs : List FR2} {o : Obj} (hb : Below w.heap.size w wr) (hown : OwnF wr w.heap.size v rs) (hg : (wr.alloc o).grownBy w5 v.ownBlock) : Sta (Low N w) wr w5 ∧ Below w.heap.size w w5 := by
  have hsz := hb.size
  refine ⟨⟨by have := hg.size; rw [World.size_alloc] at this; omega, fun j hj hn => ?_⟩, (hb.alloc hsz _).grown hg (by simp; omega) fun k hk => (World.ownsRow.lt hown k hk).1⟩
  have hjw : j < w.heap.size := by
    by_cases h : j < w.heap.size
    · exact h
    · exact absurd (.inr (by omega)) hn
  rw [hg.block j (by rw [World.size_alloc]; omega) fun e => by have h2 := (World.ownsRow.lt hown j e.symm).1; omega]
  exact Below.heap_alloc _ _ _ hj
theorem sta_push2 {N : Nat → Prop} {w w1 wr w5 : World} {X : Nat} {v : Value} {rs : List FR2} {o : Obj} (hb1 : Below w.heap.size w w1) (hs1 : w1.heap.size = X + 1) (hb : Below (X + 1) w1 wr) (hown : OwnF wr (X + 1) v rs) (hg : (wr.alloc o).grownBy w5 v.ownBlock) : Sta (Low N w) wr w5 ∧ Below (X + 1) w1 w5 := by
  have hsz := hb.size
  have hsw := hb1.size
  refine ⟨⟨by have := hg.size; rw [World.size_alloc] at this; omega, fun j hj hn => ?_⟩, (hb.alloc (by omega) _).grown hg (by simp; omega) fun k hk => (World.ownsRow.lt hown k hk).1⟩
  have hjw : j < w.heap.size := by
    by_cases h : j < w.heap.size
    · exact h
    · exact absurd (.inr (by omega)) hn
  rw [hg.block j (by rw [World.size_alloc]; omega) fun e => by have h2 := (World.ownsRow.lt hown j e.symm).1; omega]
  exact Below.heap_alloc _ _ _ hj
theorem without_snoc : ∀ (l : Fls) (f : ByteArray × List Nat) (n : ByteArray), withoutF (l ++ [f]) n = if f.1 = n then withoutF l n else withoutF l n ++ [f]
  | [], f, n => by simp [withoutF]
  | x :: l, f, n => by
    simp only [List.cons_append, withoutF]
    rw [without_snoc l f n]
    by_cases e : x.1 = n
    · simp [e]
    · simp only [e, if_false]
      by_cases k : f.1 = n
      · simp [k]
      · simp [k]
theorem without_len (l : Fls) (n : ByteArray) : (withoutF l n).length ≤ l.length := by
  induction l with
  | nil => simp [withoutF]
  | cons x l ih =>
    unfold withoutF
    split
    · simp; omega
    · simp; omega
/-- one step of a list with a file more -/
def wstep (f : ByteArray × List Nat) (s : Fls × Bool) (x : ByteArray × List Nat) : Fls × Bool := if s.2 = false ∧ ltB f.1 x.1 then (s.1 ++ [f] ++ [x], true) else (s.1 ++ [x], s.2)
def wfold (f : ByteArray × List Nat) (l : Fls) : Fls × Bool := l.foldl (wstep f) ([], false)
theorem wfold_snoc (f : ByteArray × List Nat) (l : Fls) (x : ByteArray × List Nat) : wfold f (l ++ [x]) = wstep f (wfold f l) x := by unfold wfold; rw [List.foldl_append]; rfl
theorem wfold_true (f : ByteArray × List Nat) : ∀ (l o : Fls), l.foldl (wstep f) (o, true) = (o ++ l, true)
  | [], o => by simp
  | x :: l, o => by
    rw [List.foldl_cons]
    have : wstep f (o, true) x = (o ++ [x], true) := by unfold wstep; simp
    rw [this, wfold_true f l]
    simp
theorem withF_cons (x f : ByteArray × List Nat) (l : Fls) : withF (x :: l) f = if ltB f.1 x.1 then f :: x :: l else x :: withF l f := rfl
theorem wfold_false (f : ByteArray × List Nat) : ∀ (l o : Fls), (if (l.foldl (wstep f) (o, false)).2 then (l.foldl (wstep f) (o, false)).1 else (l.foldl (wstep f) (o, false)).1 ++ [f]) = o ++ withF l f
  | [], o => by simp [withF]
  | x :: l, o => by
    rw [List.foldl_cons]
    by_cases h : ltB f.1 x.1
    · have : wstep f (o, false) x = (o ++ [f] ++ [x], true) := by unfold wstep; rw [if_pos ⟨rfl, h⟩]
      rw [this, wfold_true]
      rw [withF_cons, if_pos h]
      simp
    · have : wstep f (o, false) x = (o ++ [x], false) := by unfold wstep; rw [if_neg (fun k => h k.2)]
      rw [this, wfold_false f l]
      rw [withF_cons, if_neg h]
      simp
theorem wfold_eq (f : ByteArray × List Nat) (l : Fls) : (if (wfold f l).2 then (wfold f l).1 else (wfold f l).1 ++ [f]) = withF l f := by
  exact (wfold_false f l []).trans (List.nil_append _)
theorem wfold_len (f : ByteArray × List Nat) (l : Fls) : (wfold f l).1.length ≤ l.length + 1 := by
  have h := congrArg List.length (wfold_eq f l)
  rw [length_with] at h
  split at h
  · omega
  · rw [List.length_append] at h; simp at h; omega
/-- what a function of files answers -/
def RetF (N : Nat → Prop) (l : Fls) (w : World) (e : Ending) (w' : World) : Prop := ∃ a len cap, e = .returned (.slice a len cap) ∧ RF N w' a len l ∧ Below w.heap.size w w'
set_option maxRecDepth 100000 in
set_option maxHeartbeats 4000000 in
theorem rwithout_c {N : Nat → Prop} {w : World} {a : Option Addr} {len cap : Nat} {l : Fls} (h : RF N w a len l) (hN : ∀ k, N k → k < w.heap.size) (n : ByteArray) (hm : len ≤ 100000000) :
    Calls Try.prog 115 #[.slice a len cap, .string n] w (RetF N (withoutF l n) w) := by
  have HRF := Lib.hid h.low
  have HLEN := Lib.hid h.ln
  have HN := Lib.hid hN
  clear h hN
  go_enter Try.func115, Try.ntmps115
  go_wp2_with fail
  go_loopw [5, 6] (fun v i wr => ∃ k : Nat, k ≤ len ∧ i = .int .i64 k ∧ (∃ rs, Hid (OwnF wr w.heap.size v rs) ∧ Hid (FRs (Low N w) wr rs (withoutF (l.take k) n))) ∧ Hid (Below w.heap.size w wr)) (fun _ i _ => len - (intOf i).toNat)
  case atStart => exact ⟨0, Nat.zero_le _, rfl, ⟨[], Lib.hid (World.ownsRow_nil _ _ _ _), Lib.hid (FRs.nil _ _)⟩, Lib.hid (Below.refl _ _)⟩
  case round =>
    obtain ⟨k, hk, rfl, ⟨rs, HOW, HFR⟩, HB⟩ := hrel
    by_cases hkl : k < len
    · obtain ⟨b, o, f, ra, rn, rc, rfl, hb, hf, c0, c1, hrb⟩ := (HRF.out.below HB.out).at hkl
      have hix := fun W => run_file_idx W b o len cap k hkl
      have HTK := Lib.hid (show l.take (k + 1) = l.take k ++ [f] by rw [List.take_add_one, hf]; rfl)
      have HRB := Lib.hid hrb
      have hsz := HB.out.size
      have hrl : rs.length + 1 ≤ 1000000000 := by
        have h1 := HFR.out.ln
        have h2 := without_len (l.take k) n
        rw [List.length_take] at h2
        omega
      clear hf hrb
      by_cases e : f.1 = n
      · have HW := Lib.hid (show withoutF (l.take (k + 1)) n = withoutF (l.take k) n by rw [HTK.out, without_snoc, if_pos e])
        have hne : (f.1.toList == n.toList) = true := by rw [e]; simp
        have hne2 : f.1.toList = n.toList := by rw [e]
        clear e
        go_wp2_with fail
        go_roundw
        case rel => exact ⟨k + 1, by omega, by go_num, ⟨rs, HOW, by rw [HW.out]; exact HFR⟩, HB⟩
        case measure => simp [intOf]; omega
      · have HW := Lib.hid (show withoutF (l.take (k + 1)) n = withoutF (l.take k) n ++ [f] by rw [HTK.out, without_snoc, if_neg e])
        have hne : (f.1.toList == n.toList) = false := beq_eq_false_iff_ne.2 (ba_neq e)
        have hne2 := ba_neq e
        clear e
        go_wp2_with (at_builtin; (refine wpList_pushFl rfl _ _ rfl w.heap.size u5 rs (.string f.1, .slice ra rn rc) rfl rfl rfl HOW.out hsz rfl hrl ?_); intro v5 w5 hown5 hg5)
        obtain ⟨hs5, hb5⟩ := sta_push (N := N) HB.out HOW.out hg5
        go_roundw
        case rel => exact ⟨k + 1, by omega, by go_num, ⟨_, Lib.hid hown5, by rw [HW.out]; exact Lib.hid ((HFR.out.sta hs5 (Ren.refl _ _)).push ⟨rfl, _, _, _, rfl, HRB.out.sta hs5 (Ren.refl _ _)⟩)⟩, Lib.hid hb5⟩
        case measure => simp [intOf]; omega
    · have HE := Lib.hid (show l.take k = l from List.take_of_length_le (by have := HLEN.out; omega))
      obtain ⟨va, vn, vc, rfl⟩ : ∃ va vn vc, u5 = .slice va vn vc := by
        rcases HOW.out.2 with ⟨h1, _⟩ | ⟨g, c, cur, h1, _⟩
        · exact ⟨_, _, _, h1⟩
        · exact ⟨_, _, _, h1⟩
      go_wp2_with fail
      go_ret
      have := HFR.out
      rw [HE.out] at this
      exact ⟨_, _, _, rfl, (RF.of HOW.out (this.weak fun k hk => .inl hk) HN.out).1, HB.out⟩
theorem exec_file_idx {b o len cap i : Nat} (hi : i < len) {A : Act} {x y : Operand} (hx : A.eval x = .slice (some ⟨b, o, none⟩) len cap) (hy : A.eval y = .int .i64 (i : Int)) (op : Oper) (ho : op.op = .indexAddr 88 x y) (W : World) :
    (execOp A.eval op).run Try.prog W = .ok (.value (.pointer (some ⟨b, o + 2 * i, none⟩))) W := by
  unfold execOp
  simp only [ho, hx, hy]
  rw [Sem.run_bind, run_file_idx W b o len cap i hi]
  rfl
theorem bl_true {x y : ByteArray} (h : ltB x y) : Op.bytesLess x.toList y.toList = true := by rw [Go.Proofs.bytesLess_eq, Lib.toList_data, Lib.toList_data]; exact decide_eq_true h
theorem bl_false {x y : ByteArray} (h : ¬ ltB x y) : Op.bytesLess x.toList y.toList = false := by rw [Go.Proofs.bytesLess_eq, Lib.toList_data, Lib.toList_data]; exact decide_eq_false h
set_option maxRecDepth 100000 in
set_option maxHeartbeats 8000000 in
theorem rwith_c {N : Nat → Prop} {w : World} {a : Option Addr} {len cap : Nat} {l : Fls} (h : RF N w a len l) (hN : ∀ k, N k → k < w.heap.size) {f : ByteArray × List Nat} {fa : Option Addr} {fn fc : Nat} (hf : RB N w fa fn fc f.2) (hm : len ≤ 100000000) :
    Calls Try.prog 114 #[.slice a len cap, .agg #[.string f.1, .slice fa fn fc]] w (RetF N (withF l f) w) := by
  obtain ⟨X, hX⟩ : ∃ X, X = w.heap.size := ⟨_, rfl⟩
  obtain ⟨w1, hw⟩ : ∃ w1, w1 = w.alloc (.cells #[.string f.1, .slice fa fn fc] 100) := ⟨_, rfl⟩
  have hb1 : Below w.heap.size w w1 := by rw [hw]; exact (Below.refl _ _).alloc (Nat.le_refl _) _
  have hh : w1.heap[X]? = some (.cells #[.string f.1, .slice fa fn fc] 100 (0, 0)) := by rw [hw, hX]; exact heap_alloc_new w _
  have hs1 : w1.heap.size = X + 1 := by rw [hw, hX]; simp
  have HRF := Lib.hid (h.low.sta (Sta.ofBelow hb1) (Ren.refl _ _))
  have HFB := Lib.hid (show FC (Low N w) w1 f (.string f.1) (.slice fa fn fc) from ⟨rfl, _, _, _, rfl, hf.low.sta (Sta.ofBelow hb1) (Ren.refl _ _)⟩)
  have HLEN := Lib.hid h.ln
  have HN := Lib.hid hN
  have HB1 := Lib.hid hb1
  have HX := Lib.hid hX
  have HH := Lib.hid hh
  clear h hN hf hb1 hh
  go_enter Try.func114, Try.ntmps114
  go_wp2_with fail
  rw [← hX, ← hw]
  clear hX hw
  go_loopw [5, 6, 7] (fun v d i wr => ∃ k : Nat, k ≤ len ∧ i = .int .i64 k ∧ (∃ q, d = .bool q ∧ Hid (q = (wfold f (l.take k)).2)) ∧ (∃ rs, Hid (OwnF wr (X + 1) v rs) ∧ Hid (FRs (Low N w) wr rs (wfold f (l.take k)).1)) ∧ Hid (Below (X + 1) w1 wr)) (fun _ _ i _ => len - (intOf i).toNat)
  case atStart => exact ⟨0, Nat.zero_le _, rfl, ⟨_, rfl, Lib.hid rfl⟩, ⟨[], Lib.hid (World.ownsRow_nil _ _ _ _), Lib.hid (FRs.nil _ _)⟩, Lib.hid (Below.refl _ _)⟩
  case round =>
    obtain ⟨k, hk, rfl, ⟨q, rfl, HQ⟩, ⟨rs, HOW, HFR⟩, HB⟩ := hrel
    have hx := (HB.out.block X (by omega)).trans HH.out
    have x0 := (cell_of_row wr X 0 _ _ _ hx).trans rfl
    have x1 := (cell_of_row wr X 1 _ _ _ hx).trans rfl
    have HX2 := Lib.hid hx
    clear hx
    by_cases hkl : k < len
    · obtain ⟨b, o, g, ra, rn, rc, rfl, hb, hg, d0, d1, hrb⟩ := HRF.out.at hkl
      rw [hs1] at hb
      have c0 := (HB.out.cell (p := ⟨b, o + 2 * k, none⟩) hb).trans d0
      have c1 := (HB.out.cell (p := ⟨b, o + 2 * k + 1, none⟩) hb).trans d1
      have hix := fun W => run_file_idx W b o len cap k hkl
      have HTK := Lib.hid (show wfold f (l.take (k + 1)) = wstep f (wfold f (l.take k)) g by rw [List.take_add_one, hg]; exact wfold_snoc _ _ _)
      have HRB := Lib.hid (show FC (Low N w) w1 g (.string g.1) (.slice ra rn rc) from ⟨rfl, _, _, _, rfl, hrb⟩)
      have HD := Lib.hid (And.intro d0 d1)
      have hsz := HB.out.size
      rw [hs1] at hsz
      have hrl : rs.length + 2 ≤ 1000000000 := by
        have h1 := HFR.out.ln
        have h2 := wfold_len f (l.take k)
        rw [List.length_take] at h2
        omega
      have hrl1 : rs.length + 1 ≤ 1000000000 := by omega
      clear hg hrb d0 d1
      cases q with
      | true =>
        have HW := Lib.hid (show wfold f (l.take (k + 1)) = ((wfold f (l.take k)).1 ++ [g], true) by rw [HTK.out]; unfold wstep; rw [← HQ.out]; simp)
        go_wp2_with fail
        -- REG6 A
        (try dsimp only [Act.put, List.setIfInBounds_toArray, List.set_cons_zero, List.set_cons_succ])
        have HS := Lib.hid (show World.cell? (World.drew wr) ⟨X, 0, none⟩ = some (.string f.1) ∧ World.cell? (World.drew wr) ⟨b, o + 2 * k, none⟩ = some (.string g.1) from ⟨x0, c0⟩)
        have HL1 := Lib.hid (fun W (hW : World.cell? W ⟨X, 0, none⟩ = some (.string f.1) ∧ World.cell? W ⟨b, o + 2 * k, none⟩ = some (.string g.1)) => run_cell_s W ⟨X, 0, none⟩ _ hW.1)
        have HL2 := Lib.hid (fun W (hW : World.cell? W ⟨X, 0, none⟩ = some (.string f.1) ∧ World.cell? W ⟨b, o + 2 * k, none⟩ = some (.string g.1)) => run_cell_s W ⟨b, o + 2 * k, none⟩ _ hW.2)
        refine anyH_begin (S := fun W => World.cell? W ⟨X, 0, none⟩ = some (.string f.1) ∧ World.cell? W ⟨b, o + 2 * k, none⟩ = some (.string g.1)) (by kernel_rfl) ?_
        refine anyH_pureG 0 (d := 14) (op := .move (.tmp 6)) (gd := none) (.bool true) (by rfl) (fun o ho => wanted_plain ho _) (by kernel_rfl) (by kernel_rfl) (by kernel_rfl) (fun _ _ _ h => h) (fun o ho W hW => by unfold execOp; simp only [ho]; go_simp) HS.out ?_
        simp only [Act.put, List.setIfInBounds_toArray, List.set_cons_zero, List.set_cons_succ]
        refine anyH_pureG 1 (d := 15) (op := .unOp .not 4 (.tmp 14)) (gd := none) (.bool false) (by rfl) (fun o ho => wanted_plain ho _) (by kernel_rfl) (by kernel_rfl) (by kernel_rfl) (fun _ _ _ h => h) (fun o ho W hW => by unfold execOp; simp only [ho]; go_simp) HS.out ?_
        simp only [Act.put, List.setIfInBounds_toArray, List.set_cons_zero, List.set_cons_succ]
        refine anyH_pureG 2 (d := 16) (op := .move (.tmp 15)) (gd := none) (.bool false) (by rfl) (fun o ho => wanted_plain ho _) (by kernel_rfl) (by kernel_rfl) (by kernel_rfl) (fun _ _ _ h => h) (fun o ho W hW => by unfold execOp; simp only [ho]; go_simp) HS.out ?_
        simp only [Act.put, List.setIfInBounds_toArray, List.set_cons_zero, List.set_cons_succ]
        refine anyH_skip 3 (d := 17) (op := .fieldAddr 100 (.tmp 3) 0) (gd := some (2, true)) (by rfl) (fun o ho => by simp only [Region.wanted, ho]; rfl) (by kernel_rfl) (by kernel_rfl) (by kernel_rfl) (fun _ _ _ h => h) HS.out ?_
        simp only [Act.put, List.setIfInBounds_toArray, List.set_cons_zero, List.set_cons_succ]
        refine anyH_skip 4 (d := 18) (op := .load 9 (.tmp 17)) (gd := some (2, true)) (by rfl) (fun o ho => by simp only [Region.wanted, ho]; rfl) (by kernel_rfl) (by kernel_rfl) (by kernel_rfl) (fun _ _ _ h => h) HS.out ?_
        simp only [Act.put, List.setIfInBounds_toArray, List.set_cons_zero, List.set_cons_succ]
        refine anyH_skip 5 (d := 19) (op := .move (.tmp 0)) (gd := some (2, true)) (by rfl) (fun o ho => by simp only [Region.wanted, ho]; rfl) (by kernel_rfl) (by kernel_rfl) (by kernel_rfl) (fun _ _ _ h => h) HS.out ?_
        simp only [Act.put, List.setIfInBounds_toArray, List.set_cons_zero, List.set_cons_succ]
        refine anyH_skip 6 (d := 20) (op := .move (.tmp 7)) (gd := some (2, true)) (by rfl) (fun o ho => by simp only [Region.wanted, ho]; rfl) (by kernel_rfl) (by kernel_rfl) (by kernel_rfl) (fun _ _ _ h => h) HS.out ?_
        simp only [Act.put, List.setIfInBounds_toArray, List.set_cons_zero, List.set_cons_succ]
        refine anyH_skip 7 (d := 21) (op := .indexAddr 88 (.tmp 19) (.tmp 20)) (gd := some (2, true)) (by rfl) (fun o ho => by simp only [Region.wanted, ho]; rfl) (by kernel_rfl) (by kernel_rfl) (by kernel_rfl) (fun _ _ _ h => h) HS.out ?_
        simp only [Act.put, List.setIfInBounds_toArray, List.set_cons_zero, List.set_cons_succ]
        refine anyH_skip 8 (d := 22) (op := .fieldAddr 100 (.tmp 21) 0) (gd := some (2, true)) (by rfl) (fun o ho => by simp only [Region.wanted, ho]; rfl) (by kernel_rfl) (by kernel_rfl) (by kernel_rfl) (fun _ _ _ h => h) HS.out ?_
        simp only [Act.put, List.setIfInBounds_toArray, List.set_cons_zero, List.set_cons_succ]
        refine anyH_skip 9 (d := 23) (op := .load 9 (.tmp 22)) (gd := some (2, true)) (by rfl) (fun o ho => by simp only [Region.wanted, ho]; rfl) (by kernel_rfl) (by kernel_rfl) (by kernel_rfl) (fun _ _ _ h => h) HS.out ?_
        simp only [Act.put, List.setIfInBounds_toArray, List.set_cons_zero, List.set_cons_succ]
        refine anyH_skip 10 (d := 24) (op := .binOp .lss 9 (.tmp 18) (.tmp 23) 9) (gd := some (2, true)) (by rfl) (fun o ho => by simp only [Region.wanted, ho]; rfl) (by kernel_rfl) (by kernel_rfl) (by kernel_rfl) (fun _ _ _ h => h) HS.out ?_
        simp only [Act.put, List.setIfInBounds_toArray, List.set_cons_zero, List.set_cons_succ]
        refine anyH_pureG 11 (d := 25) (op := .pick (.tmp 16) (.tmp 24) (.const (.bool false))) (gd := none) (.bool false) (by rfl) (fun o ho => wanted_plain ho _) (by kernel_rfl) (by kernel_rfl) (by kernel_rfl) (fun _ _ _ h => h) (fun o ho W hW => by unfold execOp; simp only [ho]; go_simp) HS.out ?_
        simp only [Act.put, List.setIfInBounds_toArray, List.set_cons_zero, List.set_cons_succ]
        refine wpAnyH_done (by kernel_rfl) ?_ _
        clear HS HL1 HL2
        -- END6
        obtain ⟨wq, hwq⟩ : ∃ wq, wq = World.drew wr := ⟨_, rfl⟩
        rw [← hwq]
        have HOW := Lib.hid (show OwnF wq (X + 1) u5 rs from by rw [hwq]; exact HOW.out)
        have HFR := Lib.hid (show FRs (Low N w) wq rs (wfold f (l.take k)).1 from by rw [hwq]; exact HFR.out.sta ⟨Nat.le_refl _, fun _ _ _ => rfl⟩ (Ren.refl _ _))
        have HB := Lib.hid (show Below (X + 1) w1 wq from by rw [hwq]; exact HB.out.drew)
        have hsz : X + 1 ≤ wq.heap.size := by rw [hwq]; exact hsz
        have x0 : wq.cell? ⟨X, 0, none⟩ = some (.string f.1) := by rw [hwq]; exact x0
        have x1 : wq.cell? ⟨X, 1, none⟩ = some (.slice fa fn fc) := by rw [hwq]; exact x1
        have c0 : wq.cell? ⟨b, o + 2 * k, none⟩ = some (.string g.1) := by rw [hwq]; exact c0
        have c1 : wq.cell? ⟨b, o + 2 * k + 1, none⟩ = some (.slice ra rn rc) := by rw [hwq]; exact c1
        clear hwq HX2
        go_wp2_with (at_builtin; (refine wpList_pushFl rfl _ _ rfl (X + 1) u5 rs (.string g.1, .slice ra rn rc) rfl rfl rfl HOW.out hsz rfl hrl1 ?_); intro v5 w5 hown5 hg5)
        obtain ⟨hs5, hb5⟩ := sta_push2 (N := N) HB1.out hs1 HB.out HOW.out hg5
        go_roundw
        case rel => exact ⟨k + 1, by omega, by go_num, ⟨_, rfl, by rw [HW.out]; exact Lib.hid rfl⟩, ⟨_, Lib.hid hown5, by rw [HW.out]; exact Lib.hid ((HFR.out.sta hs5 (Ren.refl _ _)).push (HRB.out.sta (Sta.ofBelow (by rw [hs1]; exact hb5)) (Ren.refl _ _)))⟩, Lib.hid hb5⟩
        case measure => simp [intOf]; omega
      | false =>
        by_cases hlt : ltB f.1 g.1
        · have hbl := bl_true hlt
          have HW := Lib.hid (show wfold f (l.take (k + 1)) = ((wfold f (l.take k)).1 ++ [f] ++ [g], true) by rw [HTK.out]; unfold wstep; rw [if_pos ⟨HQ.out.symm, hlt⟩])
          have c0' := c0
          have c1' := c1
          clear hlt
          go_wp2_with fail
          -- REG6 B1
          (try dsimp only [Act.put, List.setIfInBounds_toArray, List.set_cons_zero, List.set_cons_succ])
          have HS := Lib.hid (show World.cell? (World.drew wr) ⟨X, 0, none⟩ = some (.string f.1) ∧ World.cell? (World.drew wr) ⟨b, o + 2 * k, none⟩ = some (.string g.1) from ⟨x0, c0⟩)
          have HL1 := Lib.hid (fun W (hW : World.cell? W ⟨X, 0, none⟩ = some (.string f.1) ∧ World.cell? W ⟨b, o + 2 * k, none⟩ = some (.string g.1)) => run_cell_s W ⟨X, 0, none⟩ _ hW.1)
          have HL2 := Lib.hid (fun W (hW : World.cell? W ⟨X, 0, none⟩ = some (.string f.1) ∧ World.cell? W ⟨b, o + 2 * k, none⟩ = some (.string g.1)) => run_cell_s W ⟨b, o + 2 * k, none⟩ _ hW.2)
          refine anyH_begin (S := fun W => World.cell? W ⟨X, 0, none⟩ = some (.string f.1) ∧ World.cell? W ⟨b, o + 2 * k, none⟩ = some (.string g.1)) (by kernel_rfl) ?_
          refine anyH_pureG 0 (d := 14) (op := .move (.tmp 6)) (gd := none) (.bool false) (by rfl) (fun o ho => wanted_plain ho _) (by kernel_rfl) (by kernel_rfl) (by kernel_rfl) (fun _ _ _ h => h) (fun o ho W hW => by unfold execOp; simp only [ho]; go_simp) HS.out ?_
          simp only [Act.put, List.setIfInBounds_toArray, List.set_cons_zero, List.set_cons_succ]
          refine anyH_pureG 1 (d := 15) (op := .unOp .not 4 (.tmp 14)) (gd := none) (.bool true) (by rfl) (fun o ho => wanted_plain ho _) (by kernel_rfl) (by kernel_rfl) (by kernel_rfl) (fun _ _ _ h => h) (fun o ho W hW => by unfold execOp; simp only [ho]; go_simp) HS.out ?_
          simp only [Act.put, List.setIfInBounds_toArray, List.set_cons_zero, List.set_cons_succ]
          refine anyH_pureG 2 (d := 16) (op := .move (.tmp 15)) (gd := none) (.bool true) (by rfl) (fun o ho => wanted_plain ho _) (by kernel_rfl) (by kernel_rfl) (by kernel_rfl) (fun _ _ _ h => h) (fun o ho W hW => by unfold execOp; simp only [ho]; go_simp) HS.out ?_
          simp only [Act.put, List.setIfInBounds_toArray, List.set_cons_zero, List.set_cons_succ]
          refine anyH_pureG 3 (d := 17) (op := .fieldAddr 100 (.tmp 3) 0) (gd := some (2, true)) (.pointer (some ⟨X, 0, none⟩)) (by rfl) (fun o ho => by simp only [Region.wanted, ho]; rfl) (by kernel_rfl) (by kernel_rfl) (by kernel_rfl) (fun _ _ _ h => h) (fun o ho W hW => by unfold execOp; simp only [ho]; go_simp) HS.out ?_
          simp only [Act.put, List.setIfInBounds_toArray, List.set_cons_zero, List.set_cons_succ]
          refine anyH_loadG 4 (d := 18) (ty := 9) (x := (.tmp 17)) (gd := some (2, true)) (p := .pointer (some ⟨X, 0, none⟩)) (.string f.1) (by rfl) (fun o ho => by simp only [Region.wanted, ho]; rfl) (by kernel_rfl) (by kernel_rfl) (by kernel_rfl) (fun _ _ _ h => h) (by rfl) HL1.out HS.out ?_
          simp only [Act.put, List.setIfInBounds_toArray, List.set_cons_zero, List.set_cons_succ]
          refine anyH_pureG 5 (d := 19) (op := .move (.tmp 0)) (gd := some (2, true)) (.slice (some ⟨b, o, none⟩) len cap) (by rfl) (fun o ho => by simp only [Region.wanted, ho]; rfl) (by kernel_rfl) (by kernel_rfl) (by kernel_rfl) (fun _ _ _ h => h) (fun o ho W hW => by unfold execOp; simp only [ho]; go_simp) HS.out ?_
          simp only [Act.put, List.setIfInBounds_toArray, List.set_cons_zero, List.set_cons_succ]
          refine anyH_pureG 6 (d := 20) (op := .move (.tmp 7)) (gd := some (2, true)) (.int .i64 (k : Int)) (by rfl) (fun o ho => by simp only [Region.wanted, ho]; rfl) (by kernel_rfl) (by kernel_rfl) (by kernel_rfl) (fun _ _ _ h => h) (fun o ho W hW => by unfold execOp; simp only [ho]; go_simp) HS.out ?_
          simp only [Act.put, List.setIfInBounds_toArray, List.set_cons_zero, List.set_cons_succ]
          refine anyH_pureG 7 (d := 21) (op := .indexAddr 88 (.tmp 19) (.tmp 20)) (gd := some (2, true)) (.pointer (some ⟨b, o + 2 * k, none⟩)) (by rfl) (fun o ho => by simp only [Region.wanted, ho]; rfl) (by kernel_rfl) (by kernel_rfl) (by kernel_rfl) (fun _ _ _ h => h) (fun o1 ho W hW => exec_file_idx hkl (x := .tmp 19) (y := .tmp 20) (by rfl) (by rfl) o1 ho W) HS.out ?_
          simp only [Act.put, List.setIfInBounds_toArray, List.set_cons_zero, List.set_cons_succ]
          refine anyH_pureG 8 (d := 22) (op := .fieldAddr 100 (.tmp 21) 0) (gd := some (2, true)) (.pointer (some ⟨b, o + 2 * k, none⟩)) (by rfl) (fun o ho => by simp only [Region.wanted, ho]; rfl) (by kernel_rfl) (by kernel_rfl) (by kernel_rfl) (fun _ _ _ h => h) (fun o ho W hW => by unfold execOp; simp only [ho]; go_simp) HS.out ?_
          simp only [Act.put, List.setIfInBounds_toArray, List.set_cons_zero, List.set_cons_succ]
          refine anyH_loadG 9 (d := 23) (ty := 9) (x := (.tmp 22)) (gd := some (2, true)) (p := .pointer (some ⟨b, o + 2 * k, none⟩)) (.string g.1) (by rfl) (fun o ho => by simp only [Region.wanted, ho]; rfl) (by kernel_rfl) (by kernel_rfl) (by kernel_rfl) (fun _ _ _ h => h) (by rfl) HL2.out HS.out ?_
          simp only [Act.put, List.setIfInBounds_toArray, List.set_cons_zero, List.set_cons_succ]
          refine anyH_pureG 10 (d := 24) (op := .binOp .lss 9 (.tmp 18) (.tmp 23) 9) (gd := some (2, true)) (.bool true) (by rfl) (fun o ho => by simp only [Region.wanted, ho]; rfl) (by kernel_rfl) (by kernel_rfl) (by kernel_rfl) (fun _ _ _ h => h) (fun o1 ho W hW => by unfold execOp; simp only [ho]; go_simp; try exact hbl) HS.out ?_
          simp only [Act.put, List.setIfInBounds_toArray, List.set_cons_zero, List.set_cons_succ]
          refine anyH_pureG 11 (d := 25) (op := .pick (.tmp 16) (.tmp 24) (.const (.bool false))) (gd := none) (.bool true) (by rfl) (fun o ho => wanted_plain ho _) (by kernel_rfl) (by kernel_rfl) (by kernel_rfl) (fun _ _ _ h => h) (fun o ho W hW => by unfold execOp; simp only [ho]; go_simp) HS.out ?_
          simp only [Act.put, List.setIfInBounds_toArray, List.set_cons_zero, List.set_cons_succ]
          refine wpAnyH_done (by kernel_rfl) ?_ _
          clear HS HL1 HL2
          -- END6
          obtain ⟨wq, hwq⟩ : ∃ wq, wq = World.drew wr := ⟨_, rfl⟩
          rw [← hwq]
          have HOW := Lib.hid (show OwnF wq (X + 1) u5 rs from by rw [hwq]; exact HOW.out)
          have HFR := Lib.hid (show FRs (Low N w) wq rs (wfold f (l.take k)).1 from by rw [hwq]; exact HFR.out.sta ⟨Nat.le_refl _, fun _ _ _ => rfl⟩ (Ren.refl _ _))
          have HB := Lib.hid (show Below (X + 1) w1 wq from by rw [hwq]; exact HB.out.drew)
          have hsz : X + 1 ≤ wq.heap.size := by rw [hwq]; exact hsz
          have x0 : wq.cell? ⟨X, 0, none⟩ = some (.string f.1) := by rw [hwq]; exact x0
          have x1 : wq.cell? ⟨X, 1, none⟩ = some (.slice fa fn fc) := by rw [hwq]; exact x1
          have c0 : wq.cell? ⟨b, o + 2 * k, none⟩ = some (.string g.1) := by rw [hwq]; exact c0
          have c1 : wq.cell? ⟨b, o + 2 * k + 1, none⟩ = some (.slice ra rn rc) := by rw [hwq]; exact c1
          clear hwq HX2
          go_wp2_with (first | (at_builtin; (refine wpList_pushFl rfl _ _ rfl (X + 1) v5 (rs ++ [(.string f.1, .slice fa fn fc)]) (.string g.1, .slice ra rn rc) rfl rfl rfl HOW5.out hsz5 rfl hrl2 ?_); intro v6 w6 hown6 hg6) | (at_builtin; (refine wpList_pushFl rfl _ _ rfl (X + 1) u5 rs (.string f.1, .slice fa fn fc) rfl rfl rfl HOW.out hsz rfl hrl1 ?_); intro v5 w5 hown5 hg5; obtain ⟨hs5, hb5⟩ := sta_push2 (N := N) HB1.out hs1 HB.out HOW.out hg5; have HFR5 := Lib.hid ((HFR.out.sta hs5 (Ren.refl _ _)).push (r := (.string f.1, .slice fa fn fc)) (HFB.out.sta (Sta.ofBelow (by rw [hs1]; exact hb5)) (Ren.refl _ _))); have HOW5 := Lib.hid hown5; have HB5 := Lib.hid hb5; have hsz5 : X + 1 ≤ w5.heap.size := (by have := hb5.size; rw [hs1] at this; exact this); have e0 := (hb5.cell (p := ⟨b, o + 2 * k, none⟩) hb).trans HD.out.1; have e1 := (hb5.cell (p := ⟨b, o + 2 * k + 1, none⟩) hb).trans HD.out.2; have hrl2 : (rs ++ [(.string f.1, .slice fa fn fc)] : List FR2).length + 1 ≤ 1000000000 := (by rw [List.length_append, List.length_singleton]; omega); clear hg5 hown5 hb5 hs5 x0 x1 c0 c1 HOW HFR HB))
          obtain ⟨hs6, hb6⟩ := sta_push2 (N := N) HB1.out hs1 HB5.out HOW5.out hg6
          go_roundw
          case rel => exact ⟨k + 1, by omega, by go_num, ⟨_, rfl, by rw [HW.out]; exact Lib.hid rfl⟩, ⟨_, Lib.hid hown6, by rw [HW.out]; exact Lib.hid ((HFR5.out.sta hs6 (Ren.refl _ _)).push (HRB.out.sta (Sta.ofBelow (by rw [hs1]; exact hb6)) (Ren.refl _ _)))⟩, Lib.hid hb6⟩
          case measure => simp [intOf]; omega
        · have hbl := bl_false hlt
          have HW := Lib.hid (show wfold f (l.take (k + 1)) = ((wfold f (l.take k)).1 ++ [g], false) by rw [HTK.out]; unfold wstep; rw [if_neg (fun h => hlt h.2), ← HQ.out])
          clear hlt
          go_wp2_with fail
          -- REG6 B0
          (try dsimp only [Act.put, List.setIfInBounds_toArray, List.set_cons_zero, List.set_cons_succ])
          have HS := Lib.hid (show World.cell? (World.drew wr) ⟨X, 0, none⟩ = some (.string f.1) ∧ World.cell? (World.drew wr) ⟨b, o + 2 * k, none⟩ = some (.string g.1) from ⟨x0, c0⟩)
          have HL1 := Lib.hid (fun W (hW : World.cell? W ⟨X, 0, none⟩ = some (.string f.1) ∧ World.cell? W ⟨b, o + 2 * k, none⟩ = some (.string g.1)) => run_cell_s W ⟨X, 0, none⟩ _ hW.1)
          have HL2 := Lib.hid (fun W (hW : World.cell? W ⟨X, 0, none⟩ = some (.string f.1) ∧ World.cell? W ⟨b, o + 2 * k, none⟩ = some (.string g.1)) => run_cell_s W ⟨b, o + 2 * k, none⟩ _ hW.2)
          refine anyH_begin (S := fun W => World.cell? W ⟨X, 0, none⟩ = some (.string f.1) ∧ World.cell? W ⟨b, o + 2 * k, none⟩ = some (.string g.1)) (by kernel_rfl) ?_
          refine anyH_pureG 0 (d := 14) (op := .move (.tmp 6)) (gd := none) (.bool false) (by rfl) (fun o ho => wanted_plain ho _) (by kernel_rfl) (by kernel_rfl) (by kernel_rfl) (fun _ _ _ h => h) (fun o ho W hW => by unfold execOp; simp only [ho]; go_simp) HS.out ?_
          simp only [Act.put, List.setIfInBounds_toArray, List.set_cons_zero, List.set_cons_succ]
          refine anyH_pureG 1 (d := 15) (op := .unOp .not 4 (.tmp 14)) (gd := none) (.bool true) (by rfl) (fun o ho => wanted_plain ho _) (by kernel_rfl) (by kernel_rfl) (by kernel_rfl) (fun _ _ _ h => h) (fun o ho W hW => by unfold execOp; simp only [ho]; go_simp) HS.out ?_
          simp only [Act.put, List.setIfInBounds_toArray, List.set_cons_zero, List.set_cons_succ]
          refine anyH_pureG 2 (d := 16) (op := .move (.tmp 15)) (gd := none) (.bool true) (by rfl) (fun o ho => wanted_plain ho _) (by kernel_rfl) (by kernel_rfl) (by kernel_rfl) (fun _ _ _ h => h) (fun o ho W hW => by unfold execOp; simp only [ho]; go_simp) HS.out ?_
          simp only [Act.put, List.setIfInBounds_toArray, List.set_cons_zero, List.set_cons_succ]
          refine anyH_pureG 3 (d := 17) (op := .fieldAddr 100 (.tmp 3) 0) (gd := some (2, true)) (.pointer (some ⟨X, 0, none⟩)) (by rfl) (fun o ho => by simp only [Region.wanted, ho]; rfl) (by kernel_rfl) (by kernel_rfl) (by kernel_rfl) (fun _ _ _ h => h) (fun o ho W hW => by unfold execOp; simp only [ho]; go_simp) HS.out ?_
          simp only [Act.put, List.setIfInBounds_toArray, List.set_cons_zero, List.set_cons_succ]
          refine anyH_loadG 4 (d := 18) (ty := 9) (x := (.tmp 17)) (gd := some (2, true)) (p := .pointer (some ⟨X, 0, none⟩)) (.string f.1) (by rfl) (fun o ho => by simp only [Region.wanted, ho]; rfl) (by kernel_rfl) (by kernel_rfl) (by kernel_rfl) (fun _ _ _ h => h) (by rfl) HL1.out HS.out ?_
          simp only [Act.put, List.setIfInBounds_toArray, List.set_cons_zero, List.set_cons_succ]
          refine anyH_pureG 5 (d := 19) (op := .move (.tmp 0)) (gd := some (2, true)) (.slice (some ⟨b, o, none⟩) len cap) (by rfl) (fun o ho => by simp only [Region.wanted, ho]; rfl) (by kernel_rfl) (by kernel_rfl) (by kernel_rfl) (fun _ _ _ h => h) (fun o ho W hW => by unfold execOp; simp only [ho]; go_simp) HS.out ?_
          simp only [Act.put, List.setIfInBounds_toArray, List.set_cons_zero, List.set_cons_succ]
          refine anyH_pureG 6 (d := 20) (op := .move (.tmp 7)) (gd := some (2, true)) (.int .i64 (k : Int)) (by rfl) (fun o ho => by simp only [Region.wanted, ho]; rfl) (by kernel_rfl) (by kernel_rfl) (by kernel_rfl) (fun _ _ _ h => h) (fun o ho W hW => by unfold execOp; simp only [ho]; go_simp) HS.out ?_
          simp only [Act.put, List.setIfInBounds_toArray, List.set_cons_zero, List.set_cons_succ]
          refine anyH_pureG 7 (d := 21) (op := .indexAddr 88 (.tmp 19) (.tmp 20)) (gd := some (2, true)) (.pointer (some ⟨b, o + 2 * k, none⟩)) (by rfl) (fun o ho => by simp only [Region.wanted, ho]; rfl) (by kernel_rfl) (by kernel_rfl) (by kernel_rfl) (fun _ _ _ h => h) (fun o1 ho W hW => exec_file_idx hkl (x := .tmp 19) (y := .tmp 20) (by rfl) (by rfl) o1 ho W) HS.out ?_
          simp only [Act.put, List.setIfInBounds_toArray, List.set_cons_zero, List.set_cons_succ]
          refine anyH_pureG 8 (d := 22) (op := .fieldAddr 100 (.tmp 21) 0) (gd := some (2, true)) (.pointer (some ⟨b, o + 2 * k, none⟩)) (by rfl) (fun o ho => by simp only [Region.wanted, ho]; rfl) (by kernel_rfl) (by kernel_rfl) (by kernel_rfl) (fun _ _ _ h => h) (fun o ho W hW => by unfold execOp; simp only [ho]; go_simp) HS.out ?_
          simp only [Act.put, List.setIfInBounds_toArray, List.set_cons_zero, List.set_cons_succ]
          refine anyH_loadG 9 (d := 23) (ty := 9) (x := (.tmp 22)) (gd := some (2, true)) (p := .pointer (some ⟨b, o + 2 * k, none⟩)) (.string g.1) (by rfl) (fun o ho => by simp only [Region.wanted, ho]; rfl) (by kernel_rfl) (by kernel_rfl) (by kernel_rfl) (fun _ _ _ h => h) (by rfl) HL2.out HS.out ?_
          simp only [Act.put, List.setIfInBounds_toArray, List.set_cons_zero, List.set_cons_succ]
          refine anyH_pureG 10 (d := 24) (op := .binOp .lss 9 (.tmp 18) (.tmp 23) 9) (gd := some (2, true)) (.bool false) (by rfl) (fun o ho => by simp only [Region.wanted, ho]; rfl) (by kernel_rfl) (by kernel_rfl) (by kernel_rfl) (fun _ _ _ h => h) (fun o1 ho W hW => by unfold execOp; simp only [ho]; go_simp; try exact hbl) HS.out ?_
          simp only [Act.put, List.setIfInBounds_toArray, List.set_cons_zero, List.set_cons_succ]
          refine anyH_pureG 11 (d := 25) (op := .pick (.tmp 16) (.tmp 24) (.const (.bool false))) (gd := none) (.bool false) (by rfl) (fun o ho => wanted_plain ho _) (by kernel_rfl) (by kernel_rfl) (by kernel_rfl) (fun _ _ _ h => h) (fun o ho W hW => by unfold execOp; simp only [ho]; go_simp) HS.out ?_
          simp only [Act.put, List.setIfInBounds_toArray, List.set_cons_zero, List.set_cons_succ]
          refine wpAnyH_done (by kernel_rfl) ?_ _
          clear HS HL1 HL2
          -- END6
          obtain ⟨wq, hwq⟩ : ∃ wq, wq = World.drew wr := ⟨_, rfl⟩
          rw [← hwq]
          have HOW := Lib.hid (show OwnF wq (X + 1) u5 rs from by rw [hwq]; exact HOW.out)
          have HFR := Lib.hid (show FRs (Low N w) wq rs (wfold f (l.take k)).1 from by rw [hwq]; exact HFR.out.sta ⟨Nat.le_refl _, fun _ _ _ => rfl⟩ (Ren.refl _ _))
          have HB := Lib.hid (show Below (X + 1) w1 wq from by rw [hwq]; exact HB.out.drew)
          have hsz : X + 1 ≤ wq.heap.size := by rw [hwq]; exact hsz
          have x0 : wq.cell? ⟨X, 0, none⟩ = some (.string f.1) := by rw [hwq]; exact x0
          have x1 : wq.cell? ⟨X, 1, none⟩ = some (.slice fa fn fc) := by rw [hwq]; exact x1
          have c0 : wq.cell? ⟨b, o + 2 * k, none⟩ = some (.string g.1) := by rw [hwq]; exact c0
          have c1 : wq.cell? ⟨b, o + 2 * k + 1, none⟩ = some (.slice ra rn rc) := by rw [hwq]; exact c1
          clear hwq HX2
          go_wp2_with (at_builtin; (refine wpList_pushFl rfl _ _ rfl (X + 1) u5 rs (.string g.1, .slice ra rn rc) rfl rfl rfl HOW.out hsz rfl hrl1 ?_); intro v5 w5 hown5 hg5)
          obtain ⟨hs5, hb5⟩ := sta_push2 (N := N) HB1.out hs1 HB.out HOW.out hg5
          go_roundw
          case rel => exact ⟨k + 1, by omega, by go_num, ⟨_, rfl, by rw [HW.out]; exact Lib.hid rfl⟩, ⟨_, Lib.hid hown5, by rw [HW.out]; exact Lib.hid ((HFR.out.sta hs5 (Ren.refl _ _)).push (HRB.out.sta (Sta.ofBelow (by rw [hs1]; exact hb5)) (Ren.refl _ _)))⟩, Lib.hid hb5⟩
          case measure => simp [intOf]; omega
    · have HE := Lib.hid (show l.take k = l from List.take_of_length_le (by have := HLEN.out; omega))
      obtain ⟨va, vn, vc, rfl⟩ : ∃ va vn vc, u5 = .slice va vn vc := by
        rcases HOW.out.2 with ⟨h1, _⟩ | ⟨g, c, cur, h1, _⟩
        · exact ⟨_, _, _, h1⟩
        · exact ⟨_, _, _, h1⟩
      cases q with
      | true =>
        have HWF := Lib.hid (show withF l f = (wfold f l).1 from by have h := wfold_eq f l; rw [HE.out] at HQ; rw [← HQ.out] at h; simp at h; exact h.symm)
        go_wp2_with fail
        go_ret
        have h1 := HFR.out
        rw [HE.out] at h1
        refine ⟨_, _, _, rfl, ?_, HB1.out.trans (HB.out.mono (by rw [HX.out]; omega))⟩
        rw [HWF.out]
        exact (RF.of HOW.out (h1.weak fun k hk => .inl hk) (fun k hk => by have := HN.out k hk; have := HX.out; omega)).1
      | false =>
        have hsz := HB.out.size
        rw [hs1] at hsz
        have hrl1 : rs.length + 1 ≤ 1000000000 := by
          have h1 := HFR.out.ln
          have h2 := wfold_len f (l.take k)
          rw [List.length_take] at h2
          omega
        go_wp2_with (at_builtin; (refine wpList_pushFl rfl _ _ rfl (X + 1) (.slice va vn vc) rs (.string f.1, .slice fa fn fc) rfl rfl rfl HOW.out hsz rfl hrl1 ?_); intro v5 w5 hown5 hg5)
        obtain ⟨hs5, hb5⟩ := sta_push2 (N := N) HB1.out hs1 HB.out HOW.out hg5
        have HWF := Lib.hid (show withF l f = (wfold f l).1 ++ [f] from by have h := wfold_eq f l; rw [HE.out] at HQ; rw [← HQ.out] at h; simp at h; exact h.symm)
        have HFR5 := Lib.hid ((HFR.out.sta hs5 (Ren.refl _ _)).push (r := (.string f.1, .slice fa fn fc)) (HFB.out.sta (Sta.ofBelow (by rw [hs1]; exact hb5)) (Ren.refl _ _)))
        have HOW5 := Lib.hid hown5
        have HB5 := Lib.hid hb5
        clear hg5 hown5 hb5 hs5
        obtain ⟨va5, vn5, vc5, rfl⟩ : ∃ va vn vc, v5 = .slice va vn vc := by
          rcases HOW5.out.2 with ⟨h1, _⟩ | ⟨g, c, cur, h1, _⟩
          · exact ⟨_, _, _, h1⟩
          · exact ⟨_, _, _, h1⟩
        go_ret
        have h1 := HFR5.out
        rw [HE.out] at h1
        refine ⟨_, _, _, rfl, ?_, HB1.out.trans (HB5.out.mono (by rw [HX.out]; omega))⟩
        rw [HWF.out]
        exact (RF.of HOW5.out (h1.weak fun k hk => .inl hk) (fun k hk => by have := HN.out k hk; have := HX.out; omega)).1
end Go.Proofs.Ytcjlbonflecbkaa
