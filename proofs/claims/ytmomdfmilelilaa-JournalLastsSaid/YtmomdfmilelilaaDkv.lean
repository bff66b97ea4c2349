/-
  Crash of a disk whose loose changes are Appends to one file.
-/
import Derived.Test.YtmomdfmilelilaaDku
import Derived.Test.YtmomdfmilelilaaDkt
namespace Go.Proofs.Ytmomdfmilelilaa
open Go.RowKit Go.Maps
set_option linter.unusedVariables false
attribute [local go_sem] Oper.semAt_some
def slc (a : Option Addr) (c m : Nat) : Option Addr := if c = m then a else a.map (·.add (5 * m))
theorem exec_lastN {a : Option Addr} {n c k : Nat} (hk : k ≤ n) (hc : n ≤ c) {A : Act} {x y : Operand} (hx : A.eval x = .slice a n c) (hy : A.eval y = .int .i64 (k : Int)) (o : Oper) (ho : o.op = .slice 74 x (some y) none none) (W : World) :
    (execOp A.eval o).run Try.prog W = .ok (.value (.slice (slc a c k) (n - k) (c - k))) W := by
  unfold execOp
  simp only [ho, hx, hy, Option.map_none, Option.map_some]
  rw [Sem.run_bind, run_sliceAt_slice W _ _ _ _ _ und_chgs, run_slice_l W _ a n c und_chgs .i64 (k : Int) (by omega) (by omega), elem_chgs, sizeOf_chg]
  simp [Result.andThen, sliced, slc, Nat.mul_comm]
theorem flat_getC : ∀ (l : List Chg) (i j : Nat) (c : Chg), l[i]? = some c → j < 5 → (l.flatMap Chg.cells)[5 * i + j]? = c.cells[j]?
  | [], i, j, c, h, _ => by cases h
  | x :: l, 0, j, c, h, hj => by
    cases h
    rw [List.flatMap_cons, Nat.mul_zero, Nat.zero_add, List.getElem?_append_left (by simpa [Chg.cells] using hj)]
  | x :: l, i + 1, j, c, h, hj => by
    rw [List.flatMap_cons, List.getElem?_append_right (by simp [Chg.cells]; omega)]
    have e : 5 * (i + 1) + j - x.cells.length = 5 * i + j := by simp [Chg.cells]; omega
    rw [e]
    exact flat_getC l i j c (by simpa using h) hj
/-- a change's cells by its place -/
def chE (S : Dsk) (kk i : Nat) : List Value := match S.loose[kk + i]? with
  | some c => c.cells
  | none => []
theorem DK.itn {B d n c bx kk : Nat} {S S' : Dsk} {a : Option Addr} {W : World} (h : DK B d S' W) (hlv : S.lv = .slice a n c) (h1 : S'.lv = S.lv) (h2 : S'.loose = S.loose) (hkk : kk ≤ n) (hb : W.cell? ⟨bx, 0, none⟩ = some (.slice (slc a c kk) (n - kk) (c - kk))) : ItN bx (slc a c kk) (n - kk) (c - kk) (chE S kk) W := by
  refine ⟨hb, fun i hi => ?_⟩
  have hl := h.rest.hl
  rw [h1, h2, hlv] at hl
  rcases hl.2 with ⟨e1, e2⟩ | ⟨g, cap, cur, e1, hB, hg, hn, hm, hs, ht⟩
  · have := (Value.slice.inj e1).2.1
    omega
  · obtain ⟨e2, e3, e4⟩ := Value.slice.inj e1
    subst e2 e4
    have hlen : kk + i < S.loose.length := by omega
    have hc : chE S kk i = (S.loose[kk + i]).cells := by unfold chE; rw [List.getElem?_eq_getElem hlen]
    have hne : ¬ c = kk := by omega
    refine ⟨g, 5 * kk, by unfold slc; rw [if_neg hne, Option.map_some, Addr.add_mid, Nat.zero_add], by rw [hc]; rfl, fun j v hj => ?_⟩
    have hj5 : j < 5 := by
      have := (List.getElem?_eq_some_iff.1 hj).1
      rw [hc] at this
      exact this
    rw [hc] at hj
    have hf := flat_getC S.loose (kk + i) j _ (List.getElem?_eq_getElem hlen) hj5
    rw [← ht, List.getElem?_take, if_pos (by omega), hj] at hf
    rw [show 5 * kk + 5 * i + j = 5 * (kk + i) + j by omega, cell_of_row W g _ cur _ _ hg, ← Array.getElem?_toList]
    exact hf
theorem Mov.keepL {S S' : Dsk} {d D : Nat} {w W W' : World} (h : Mov S d S' w W) (hk : KeepL D W W') (hD : w.heap.size ≤ D) : Mov S d S' w W' :=
  ⟨hk.os.trans h.os, hk.tape.trans h.tape, hk.output.trans h.output, Nat.le_trans h.size hk.size, fun k h1 h2 => (hk.blk k (by omega) (by omega)).trans (h.block k h1 h2), h.own⟩
/-- so far as the changes have been taken back -/
structure CI (B d b : Nat) (S : Dsk) (f : Fil) (sure : Nat) (part : Int) (w : World) (n kk : Nat) (la : Option Addr) (lc R : Nat) (W : World) : Prop where
  box : W.cell? ⟨R, 0, none⟩ = some (.pointer (some ⟨d, 0, none⟩))
  prt : W.cell? ⟨R + 1, 0, none⟩ = some (.int .i64 part)
  bx : W.cell? ⟨R + 2, 0, none⟩ = some (.slice (slc la lc kk) (n - kk) (lc - kk))
  size : R + 3 ≤ W.heap.size
  ex : ∃ S' v t, DK B d S' W ∧ Mov S d S' w W ∧ (∀ k, S'.own d k → S.own d k) ∧ S'.lv = S.lv ∧ S'.loose = S.loose ∧ S'.D = S.D ∧ S'.fl b = some ⟨f.nm, v, f.zs.take t⟩ ∧ sure ≤ t ∧ t ≤ f.zs.length
theorem CI.keepL {B d b : Nat} {S : Dsk} {f : Fil} {sure : Nat} {part : Int} {w : World} {n kk : Nat} {la : Option Addr} {lc R : Nat} {W W' : World} (hR : w.heap.size = R) (hw : DK B d S w) (h : CI B d b S f sure part w n kk la lc R W) (hk : KeepL (R + 3) W W') : CI B d b S f sure part w n kk la lc R W' := by
  obtain ⟨S', v, t, h1, h2, h3, h4⟩ := h.ex
  have hn : ∀ k, S'.own d k → k ≠ R + 3 ∧ k ≠ R + 4 := fun k ho => by have := (hw.ownLt (h3 k ho)).2; omega
  exact ⟨(hk.cell (a := ⟨R, 0, none⟩) (by show R ≠ R + 3; omega) (by show R ≠ R + 4; omega)).trans h.box, (hk.cell (a := ⟨R + 1, 0, none⟩) (by show R + 1 ≠ R + 3; omega) (by show R + 1 ≠ R + 4; omega)).trans h.prt,
    (hk.cell (a := ⟨R + 2, 0, none⟩) (by show R + 2 ≠ R + 3; omega) (by show R + 2 ≠ R + 4; omega)).trans h.bx, Nat.le_trans h.size hk.size, S', v, t, h1.keep fun k ho => hk.blk k (hn k ho).1 (hn k ho).2, h2.keepL hk (by omega), h3, h4⟩
theorem CI.later {B d b : Nat} {S : Dsk} {f : Fil} {sure : Nat} {part : Int} {w : World} {n kk : Nat} {la : Option Addr} {lc R : Nat} {W W' : World} (h : CI B d b S f sure part w n kk la lc R W) (hb : Below W.heap.size W W') : CI B d b S f sure part w n kk la lc R W' := by
  obtain ⟨S', v, t, h1, h2, h3, h4⟩ := h.ex
  have hsz := h.size
  exact ⟨(hb.cell (p := ⟨R, 0, none⟩) (by show R < _; omega)).trans h.box, (hb.cell (p := ⟨R + 1, 0, none⟩) (by show R + 1 < _; omega)).trans h.prt, (hb.cell (p := ⟨R + 2, 0, none⟩) (by show R + 2 < _; omega)).trans h.bx, Nat.le_trans hsz hb.size, S', v, t, h1.below hb, h2.trans (Mov.ofBelow hb), h3, h4⟩
/-- a round: the change's box beside -/
def CM (B d b : Nat) (S : Dsk) (f : Fil) (sure : Nat) (part : Int) (w : World) (n kk : Nat) (la : Option Addr) (lc R : Nat) (X : Nat) (z : Int) (W : World) : Prop :=
  R + 4 < X ∧ (W.cell? ⟨X, 0, none⟩ = some (.int .i64 1) ∧ W.cell? ⟨X, 1, none⟩ = some (.pointer (some ⟨b, 0, none⟩)) ∧ W.cell? ⟨X, 2, none⟩ = some (.int .i64 z) ∧ W.cell? ⟨X, 3, none⟩ = some (.string ⟨#[]⟩) ∧ W.cell? ⟨X, 4, none⟩ = some (.pointer none)) ∧ CI B d b S f sure part w n kk la lc R W
theorem CM.keepL {B d b : Nat} {S : Dsk} {f : Fil} {sure : Nat} {part : Int} {w : World} {n kk : Nat} {la : Option Addr} {lc R X : Nat} {z : Int} {W W' : World} (hR : w.heap.size = R) (hw : DK B d S w) (h : CM B d b S f sure part w n kk la lc R X z W) (hk : KeepL (R + 3) W W') : CM B d b S f sure part w n kk la lc R X z W' := by
  obtain ⟨h0, ⟨a0, a1, a2, a3, a4⟩, h2⟩ := h
  have k : ∀ j, W'.cell? ⟨X, j, none⟩ = W.cell? ⟨X, j, none⟩ := fun j => hk.cell (a := ⟨X, j, none⟩) (by show X ≠ R + 3; omega) (by show X ≠ R + 4; omega)
  exact ⟨h0, ⟨(k _).trans a0, (k _).trans a1, (k _).trans a2, (k _).trans a3, (k _).trans a4⟩, h2.keepL hR hw hk⟩
/-- one of the changes -/
theorem CI.undo {B d b : Nat} {S : Dsk} {f : Fil} {sure : Nat} {part : Int} {w : World} {n kk : Nat} {la : Option Addr} {lc R : Nat} {W : World} (hR : w.heap.size = R) (h : CI B d b S f sure part w n kk la lc R W) (z stay : Int) (hz : (sure : Int) ≤ z) (hz1 : z ≤ 1000000000000) (hs0 : 0 ≤ stay) (hs1 : stay ≤ 1048576) (hfz : f.zs.length ≤ 1000000000000) (hdk : DK B d S w) :
    Calls Try.prog 46 #[.pointer (some ⟨d, 0, none⟩), .agg #[.int .i64 1, .pointer (some ⟨b, 0, none⟩), .int .i64 z, .string ⟨#[]⟩, .pointer none], .int .i64 stay] W fun e W' => e = .returned (.tuple #[]) ∧ CI B d b S f sure part w n kk la lc R W' ∧ ∀ k, R ≤ k → k < W.heap.size → W'.heap[k]? = W.heap[k]? := by
  obtain ⟨S', v, t, h1, h2, h3, h4, h5, h6, h7, h8, h9⟩ := h.ex
  have hlt : (f.zs.take t).length = t := by rw [List.length_take]; omega
  obtain ⟨k, hk, hkt, hks⟩ : ∃ k : Nat, min (((f.zs.take t).length : Nat) : Int) (z + stay) = (k : Int) ∧ k ≤ t ∧ sure ≤ k := by
    rw [hlt]
    by_cases hc : (t : Int) ≤ z + stay
    · exact ⟨t, by omega, Nat.le_refl _, h8⟩
    · exact ⟨(z + stay).toNat, by omega, by omega, by omega⟩
  refine (dundo_app h1 h7 z stay ⟨#[]⟩ none k (by omega) hs0 hz1 (by omega) (by show (f.zs.take t).length ≤ _; omega) hk).mono ?_
  rintro e W' ⟨rfl, v', hv, k1, k2⟩
  have own2 : ∀ j, (S'.cutf b ⟨f.nm, v, f.zs.take t⟩ v' k).own d j → S'.own d j := fun j hj => by
    have fl : ∀ x g, (S'.cutf b ⟨f.nm, v, f.zs.take t⟩ v' k).fl x = some g → (x = b ∧ g.row = v') ∨ S'.fl x = some g := fun x g hx => by
      have hx' : (if x = b then some (⟨f.nm, v', (f.zs.take t).take k⟩ : Fil) else S'.fl x) = some g := hx
      split at hx'
      · rename_i e; cases hx'; exact .inl ⟨e, rfl⟩
      · exact .inr hx'
    rcases hj with hj | hj | ⟨g, hj⟩ | ⟨x, g, hx, hj⟩ | hj
    · exact .inl hj
    · exact .inr (.inl hj)
    · rcases fl _ _ hj with ⟨e, _⟩ | hj
      · rw [e]; exact .inr (.inr (.inl ⟨_, h7⟩))
      · exact .inr (.inr (.inl ⟨g, hj⟩))
    · rcases fl _ _ hx with ⟨e, e2⟩ | hx
      · rw [e2, hv] at hj
        exact .inr (.inr (.inr (.inl ⟨b, _, h7, hj⟩)))
      · exact .inr (.inr (.inr (.inl ⟨x, g, hx, hj⟩)))
    · exact .inr (.inr (.inr (.inr hj)))
  have keepR : ∀ j, R ≤ j → j < W.heap.size → W'.heap[j]? = W.heap[j]? := fun j hj hl => k2.block j hl fun ho => by have := (hdk.ownLt (h3 j ho)).2; omega
  have hsz := h.size
  refine ⟨rfl, ⟨(World.cell?_of_block (keepR R (Nat.le_refl _) (by omega))).trans h.box, (World.cell?_of_block (keepR (R + 1) (by omega) (by omega))).trans h.prt, (World.cell?_of_block (keepR (R + 2) (by omega) (by omega))).trans h.bx, Nat.le_trans hsz k2.size,
    _, v', k, k1, h2.trans k2, fun j hj => h3 j (own2 j hj), h4, h5, h6, ?_, hks, by omega⟩, keepR⟩
  show (if b = b then some (⟨f.nm, v', (f.zs.take t).take k⟩ : Fil) else _) = _
  rw [if_pos rfl, List.take_take, Nat.min_eq_left hkt]
/-- behind a crash -/
def Crashed (B d b : Nat) (S : Dsk) (f : Fil) (sure : Nat) (w w' : World) : Prop := ∃ S' v t, DK B d S' w' ∧ Mov S d S' w w' ∧ sure ≤ t ∧ t ≤ f.zs.length ∧ S'.fl b = some ⟨f.nm, v, f.zs.take t⟩ ∧ S'.loose = [] ∧ S'.down = false ∧ S'.fuse = -1 ∧ S'.D = S.D
set_option maxRecDepth 100000 in
set_option maxHeartbeats 8000000 in
theorem dcrash_app {B d b : Nat} {S : Dsk} {f : Fil} {w : World} (h : DK B d S w) (hf : S.fl b = some f) (sure : Nat) (hall : ∀ c ∈ S.loose, c = ⟨1, b, c.size, ⟨#[]⟩, none⟩ ∧ (sure : Int) ≤ c.size ∧ c.size ≤ 1000000000000) (hsl : sure ≤ f.zs.length) (hfz : f.zs.length ≤ 1000000000000) (hlo : S.loose.length ≤ 1000000000) (keep part : Int) :
    Calls Try.prog 16 #[.pointer (some ⟨d, 0, none⟩), .int .i64 keep, .int .i64 part] w fun e w' => e = .returned (.int .i64 0) ∧ Crashed B d b S f sure w w' := by
  obtain ⟨la, n, lc, hlv⟩ : ∃ la n lc, S.lv = .slice la n lc := by
    rcases h.rest.hl.2 with ⟨h1, _⟩ | ⟨g, cap, cur, h1, _⟩
    · exact ⟨_, _, _, h1⟩
    · exact ⟨_, _, _, h1⟩
  have hnl : n ≤ lc ∧ n = S.loose.length := by
    rcases h.rest.hl.2 with ⟨h1, h2⟩ | ⟨g, cap, cur, h1, _, _, h3, _⟩
    · rw [hlv] at h1
      obtain ⟨_, e2, e3⟩ := Value.slice.inj h1
      omega
    · rw [hlv] at h1
      obtain ⟨_, e2, e3⟩ := Value.slice.inj h1
      omega
  obtain ⟨hnl, hnn⟩ := hnl
  have c3 := h.cells.2.2.2.1.trans (congrArg some hlv)
  have hdR := h.lt
  obtain ⟨kk, hkk0, hkk⟩ : ∃ kk : Nat, min (max keep 0) (n : Int) = (kk : Int) ∧ kk ≤ n := by
    by_cases hc : max keep 0 ≤ (n : Int)
    · exact ⟨(max keep 0).toNat, by omega, by omega⟩
    · exact ⟨n, by omega, Nat.le_refl _⟩
  obtain ⟨R, hR⟩ : ∃ R, R = w.heap.size := ⟨_, rfl⟩
  obtain ⟨w1, hw1⟩ : ∃ w1, w1 = (w.alloc (.cells #[.pointer (some ⟨d, 0, none⟩)] 23)).alloc (.cells #[.int .i64 part] 3) := ⟨_, rfl⟩
  have hb1 : Below w.heap.size w w1 := by rw [hw1]; exact ((Below.refl _ _).alloc (Nat.le_refl _) _).alloc (by simp) _
  have d0 : w1.cell? ⟨R, 0, none⟩ = some (.pointer (some ⟨d, 0, none⟩)) := by rw [hw1, hR]; simp
  have d1 : w1.cell? ⟨R + 1, 0, none⟩ = some (.int .i64 part) := by rw [hw1, hR]; simp
  have hs1 : w1.heap.size = R + 2 := by rw [hw1, hR]; simp
  have hk1 := h.below hb1
  have c31 : w1.cell? ⟨d, 3, none⟩ = some (.slice la n lc) := (hb1.cell (p := ⟨d, 3, none⟩) hdR).trans c3
  have hn9 : n ≤ 1000000000 := by omega
  have HK1 := Lib.hid hk1
  have HM1 := Lib.hid (Mov.ofBelow (S := S) (d := d) hb1)
  have HDK := Lib.hid h
  have HLV := Lib.hid hlv
  have HALL := Lib.hid hall
  have HNN := Lib.hid hnn
  have HF := Lib.hid hf
  have HSL := Lib.hid hsl
  have HFZ := Lib.hid hfz
  have HRW := Lib.hid hR.symm
  have HBK := Lib.hid (fun w => back_c (slc la lc kk) (n - kk) (lc - kk) w)
  refine (callsIn_wide (n := 3)).1 ?_
  refine callsIn_of_wp_marks Try.func16 rfl trivial ?_ rfl
  simp only [Try.ntmps16, List.size_toArray, List.length_cons, List.length_nil, Nat.reduceAdd, Nat.reduceSub, Array.replicate_succ, Array.replicate_zero, List.push_toArray, List.append_toArray, List.nil_append, List.cons_append]
  clear h hk1 hb1 hlv hall hnn hf hsl hfz c3 hlo
  gi_wp2_with fail
  rw [← hR, ← hw1]
  clear hR hw1
  have HS := Lib.hid (show World.cell? (World.drew w1) ⟨R, 0, none⟩ = some (.pointer (some ⟨d, 0, none⟩)) ∧ World.cell? (World.drew w1) ⟨d, 3, none⟩ = some (.slice la n lc) from ⟨d0, c31⟩)
  have HL0 := Lib.hid (fun W (hW : World.cell? W ⟨R, 0, none⟩ = some (.pointer (some ⟨d, 0, none⟩)) ∧ World.cell? W ⟨d, 3, none⟩ = some (.slice la n lc)) => run_cell_disk W ⟨R, 0, none⟩ _ hW.1)
  have HL3 := Lib.hid (fun W (hW : World.cell? W ⟨R, 0, none⟩ = some (.pointer (some ⟨d, 0, none⟩)) ∧ World.cell? W ⟨d, 3, none⟩ = some (.slice la n lc)) => run_cell_chgs W ⟨d, 3, none⟩ _ _ _ hW.2)
  (try dsimp only [Act.put, List.setIfInBounds_toArray, List.set_cons_zero, List.set_cons_succ])
  refine wpIn_wide.2 (wp_safe ?_)
  refine anyH_begin (S := fun W => World.cell? W ⟨R, 0, none⟩ = some (.pointer (some ⟨d, 0, none⟩)) ∧ World.cell? W ⟨d, 3, none⟩ = some (.slice la n lc)) (by kernel_rfl) ?_
  refine anyH_loadG 0 (d := 13) (ty := 23) (x := (.tmp 3)) (gd := none) (p := .pointer (some ⟨R, 0, none⟩)) (.pointer (some ⟨d, 0, none⟩)) (by rfl) (fun o ho => wanted_plain ho _) (by kernel_rfl) (by kernel_rfl) (by kernel_rfl) (fun _ _ _ h => h) (by rfl) HL0.out HS.out ?_
  simp only [Act.put, List.setIfInBounds_toArray, List.set_cons_zero, List.set_cons_succ]
  refine anyH_pureG 1 (d := 14) (op := .nilCheck (.tmp 13)) (gd := none) (.pointer (some ⟨d, 0, none⟩)) (by rfl) (fun o ho => wanted_plain ho _) (by kernel_rfl) (by kernel_rfl) (by kernel_rfl) (fun _ _ _ h => h) (fun o ho W hW => by unfold execOp; simp only [ho]; go_simp) HS.out ?_
  simp only [Act.put, List.setIfInBounds_toArray, List.set_cons_zero, List.set_cons_succ]
  refine anyH_pureG 2 (d := 15) (op := .fieldAddr 76 (.tmp 14) 3) (gd := none) (.pointer (some ⟨d, 3, none⟩)) (by rfl) (fun o ho => wanted_plain ho _) (by kernel_rfl) (by kernel_rfl) (by kernel_rfl) (fun _ _ _ h => h) (fun o ho W hW => by unfold execOp; simp only [ho]; go_simp) HS.out ?_
  simp only [Act.put, List.setIfInBounds_toArray, List.set_cons_zero, List.set_cons_succ]
  refine anyH_loadG 3 (d := 16) (ty := 74) (x := (.tmp 15)) (gd := none) (p := .pointer (some ⟨d, 3, none⟩)) (.slice la n lc) (by rfl) (fun o ho => wanted_plain ho _) (by kernel_rfl) (by kernel_rfl) (by kernel_rfl) (fun _ _ _ h => h) (by rfl) HL3.out HS.out ?_
  simp only [Act.put, List.setIfInBounds_toArray, List.set_cons_zero, List.set_cons_succ]
  refine anyH_pureG 4 (d := 17) (op := .move (.tmp 1)) (gd := none) (.int .i64 keep) (by rfl) (fun o ho => wanted_plain ho _) (by kernel_rfl) (by kernel_rfl) (by kernel_rfl) (fun _ _ _ h => h) (fun o ho W hW => by unfold execOp; simp only [ho]; go_simp) HS.out ?_
  simp only [Act.put, List.setIfInBounds_toArray, List.set_cons_zero, List.set_cons_succ]
  refine anyH_pureG 5 (d := 18) (op := .call { callee := .builtin .max, args := #[(.tmp 17), (.const (.int .i64 0))], argTypes := #[3, 3] }) (gd := none) (.int .i64 (max keep 0)) (by rfl) (fun o ho => wanted_plain ho _) (by kernel_rfl) (by kernel_rfl) (by kernel_rfl) (fun _ _ _ h => h) (fun o ho W1 hW => by unfold execOp; simp only [ho]; go_simp) HS.out ?_
  simp only [Act.put, List.setIfInBounds_toArray, List.set_cons_zero, List.set_cons_succ]
  refine anyH_loadG 6 (d := 19) (ty := 23) (x := (.tmp 3)) (gd := none) (p := .pointer (some ⟨R, 0, none⟩)) (.pointer (some ⟨d, 0, none⟩)) (by rfl) (fun o ho => wanted_plain ho _) (by kernel_rfl) (by kernel_rfl) (by kernel_rfl) (fun _ _ _ h => h) (by rfl) HL0.out HS.out ?_
  simp only [Act.put, List.setIfInBounds_toArray, List.set_cons_zero, List.set_cons_succ]
  refine anyH_pureG 7 (d := 20) (op := .nilCheck (.tmp 19)) (gd := none) (.pointer (some ⟨d, 0, none⟩)) (by rfl) (fun o ho => wanted_plain ho _) (by kernel_rfl) (by kernel_rfl) (by kernel_rfl) (fun _ _ _ h => h) (fun o ho W hW => by unfold execOp; simp only [ho]; go_simp) HS.out ?_
  simp only [Act.put, List.setIfInBounds_toArray, List.set_cons_zero, List.set_cons_succ]
  refine anyH_pureG 8 (d := 21) (op := .fieldAddr 76 (.tmp 20) 3) (gd := none) (.pointer (some ⟨d, 3, none⟩)) (by rfl) (fun o ho => wanted_plain ho _) (by kernel_rfl) (by kernel_rfl) (by kernel_rfl) (fun _ _ _ h => h) (fun o ho W hW => by unfold execOp; simp only [ho]; go_simp) HS.out ?_
  simp only [Act.put, List.setIfInBounds_toArray, List.set_cons_zero, List.set_cons_succ]
  refine anyH_loadG 9 (d := 22) (ty := 74) (x := (.tmp 21)) (gd := none) (p := .pointer (some ⟨d, 3, none⟩)) (.slice la n lc) (by rfl) (fun o ho => wanted_plain ho _) (by kernel_rfl) (by kernel_rfl) (by kernel_rfl) (fun _ _ _ h => h) (by rfl) HL3.out HS.out ?_
  simp only [Act.put, List.setIfInBounds_toArray, List.set_cons_zero, List.set_cons_succ]
  refine anyH_pureG 10 (d := 23) (op := .call { callee := .builtin .len, args := #[(.tmp 22)], argTypes := #[74] }) (gd := none) (.int .i64 (n : Int)) (by rfl) (fun o ho => wanted_plain ho _) (by kernel_rfl) (by kernel_rfl) (by kernel_rfl) (fun _ _ _ h => h) (fun o ho W hW => by unfold execOp; simp only [ho]; go_simp) HS.out ?_
  simp only [Act.put, List.setIfInBounds_toArray, List.set_cons_zero, List.set_cons_succ]
  refine anyH_pureG 11 (d := 24) (op := .call { callee := .builtin .min, args := #[(.tmp 18), (.tmp 23)], argTypes := #[3, 3] }) (gd := none) (.int .i64 (kk : Int)) (by rfl) (fun o ho => wanted_plain ho _) (by kernel_rfl) (by kernel_rfl) (by kernel_rfl) (fun _ _ _ h => h) (fun o ho W1 hW => by unfold execOp; simp only [ho]; go_simp; try exact hkk0) HS.out ?_
  simp only [Act.put, List.setIfInBounds_toArray, List.set_cons_zero, List.set_cons_succ]
  refine anyH_pureG 12 (d := 25) (op := .slice 74 (.tmp 16) (some (.tmp 24)) none none) (gd := none) (.slice (slc la lc kk) (n - kk) (lc - kk)) (by rfl) (fun o ho => wanted_plain ho _) (by kernel_rfl) (by kernel_rfl) (by kernel_rfl) (fun _ _ _ h => h) (fun o ho W1 hW => exec_lastN hkk hnl (x := .tmp 16) (y := .tmp 24) (by rfl) (by rfl) o ho W1) HS.out ?_
  simp only [Act.put, List.setIfInBounds_toArray, List.set_cons_zero, List.set_cons_succ]
  refine anyH_pureG 13 (d := 7) (op := .assign (.tmp 25)) (gd := none) (.slice (slc la lc kk) (n - kk) (lc - kk)) (by rfl) (fun o ho => wanted_plain ho _) (by kernel_rfl) (by kernel_rfl) (by kernel_rfl) (fun _ _ _ h => h) (fun o ho W hW => by unfold execOp; simp only [ho]; go_simp) HS.out ?_
  simp only [Act.put, List.setIfInBounds_toArray, List.set_cons_zero, List.set_cons_succ]
  refine wpAnyH_done (by kernel_rfl) ?_ _
  obtain ⟨w2, hw2⟩ : ∃ w2, w2 = w1.drew := ⟨_, rfl⟩
  rw [← hw2]
  have e0 : w2.cell? ⟨R, 0, none⟩ = some (.pointer (some ⟨d, 0, none⟩)) := by rw [hw2]; exact d0
  have e1 : w2.cell? ⟨R + 1, 0, none⟩ = some (.int .i64 part) := by rw [hw2]; exact d1
  have hs2 : w2.heap.size = R + 2 := by rw [hw2]; exact hs1
  have HK2 := Lib.hid (show DK B d S w2 from by rw [hw2]; exact HK1.out.below (Below.refl _ _).drew)
  have HM2 := Lib.hid (show Mov S d S w w2 from by rw [hw2]; exact HM1.out.trans (Mov.ofBelow (Below.refl _ _).drew))
  clear hw2 d0 d1 c31 hs1 HK1 HM1 HS HL0 HL3 hkk0
  have E0 := Lib.hid e0
  have E1 := Lib.hid e1
  clear e0 e1
  gi_wp2_with (refine ⟨trivial, ?_⟩; gi_at_call 45; refine (callsIn_wide.2 (HBK.out _)).mono ?_; rintro e w3 ⟨rfl, hw3⟩; have HW3 := Lib.hid hw3; clear hw3)
  (try rw [hs2])
  have HI := Lib.hid (show CI B d b S f sure part w n kk la lc R w3 from by
    have hb : Below w2.heap.size w2 w3 := by rw [HW3.out]; exact (Below.refl _ _).alloc (Nat.le_refl _) _
    refine ⟨(hb.cell (p := ⟨R, 0, none⟩) (by show R < _; omega)).trans E0.out, (hb.cell (p := ⟨R + 1, 0, none⟩) (by show R + 1 < _; omega)).trans E1.out, by rw [HW3.out, ← hs2]; simp, by rw [HW3.out]; simp [hs2], S, f.row, f.zs.length, HK2.out.below hb, HM2.out.trans (Mov.ofBelow hb), fun _ x => x, rfl, rfl, rfl, by rw [List.take_length]; exact HF.out, HSL.out, Nat.le_refl _⟩)
  have hsz3 : w3.heap.size = R + 3 := by rw [HW3.out]; simp [hs2]
  clear HW3 HBK HK2 HM2 E0 E1 hs2
  refine range_mem (F := Fence.wide) (n := 3) rfl (by omega) (gf := 82) (lb := #[.pointer (some ⟨R + 2, 0, none⟩)]) rfl trivial (enters_of Try.func82 (by kernel_rfl) rfl)
    (enc := encI) (outs (chE S kk) (n - kk) 0) (fun pre x => ∃ q, q < n - kk ∧ pre = outs (chE S kk) (n - kk) (q + 1) ∧ x = (q, chE S kk q)) (fun W1 => ItN (R + 2) (slc la lc kk) (n - kk) (lc - kk) (chE S kk) W1) (fun x => rfl)
    (fun l J Jx W1 hIt hY h0 => backN_c l (R + 2) (n - kk) (lc - kk) (slc la lc kk) (chE S kk) (by omega) J Jx W1 (fun s W2 h => hIt s W2 h) (fun q hq W2 h => by
      have := hY _ (q, chE S kk q) W2 h ⟨q, hq, rfl, rfl⟩
      rw [← outs_step _ _ _ hq] at this
      exact this) h0)
    (fun _ W1 => CI B d b S f sure part w n kk la lc R W1) (fun _ _ => False) (fun s W1 W2 hk h => h.keepL HRW.out HDK.out (by rw [← hsz3]; exact hk)) (fun _ _ _ _ h => h) (fun s W1 h => by
      obtain ⟨S', v, t, k1, _, _, k2, k3, _⟩ := h.ex
      exact k1.itn HLV.out k2 k3 hkk h.bx) HI.out
    (fun pre x a1 W1 => ∃ X z, a1 = { tmps := #[.pointer (some ⟨d, 0, none⟩), .int .i64 keep, .int .i64 part, .pointer (some ⟨R, 0, none⟩), undef, .pointer (some ⟨R + 1, 0, none⟩), .int .i64 0, .slice (slc la lc kk) (n - kk) (lc - kk), .int .i64 (x.1 : Int), .pointer (some ⟨X, 0, none⟩), undef, .pointer (some ⟨d, 0, none⟩), .bool false, .pointer (some ⟨d, 0, none⟩), .pointer (some ⟨d, 0, none⟩), .pointer (some ⟨d, 3, none⟩), .slice la n lc, .int .i64 keep, .int .i64 (max keep 0), .pointer (some ⟨d, 0, none⟩), .pointer (some ⟨d, 0, none⟩), .pointer (some ⟨d, 3, none⟩), .slice la n lc, .int .i64 (n : Int), .int .i64 (kk : Int), .slice (slc la lc kk) (n - kk) (lc - kk), .slice (slc la lc kk) (n - kk) (lc - kk), .func (.func 82) #[] #[.pointer (some ⟨R + 2, 0, none⟩)], .int .i64 (x.1 : Int), .agg x.2.toArray, undef, undef, undef, undef, undef, undef, undef, undef, undef, undef, undef, undef, undef, undef, undef, undef, undef, undef], defers := [] } ∧ x.2 = [.int .i64 1, .pointer (some ⟨b, 0, none⟩), .int .i64 z, .string ⟨#[]⟩, .pointer none] ∧ (sure : Int) ≤ z ∧ z ≤ 1000000000000 ∧ CM B d b S f sure part w n kk la lc R X z W1)
    (fun s x a W1 W2 hk h => by obtain ⟨X, z, h1, h2, h3, h4, h5⟩ := h; exact ⟨X, z, h1, h2, h3, h4, h5.keepL HRW.out HDK.out (by rw [← hsz3]; exact hk)⟩) ?assign ?body ?done ?stop
  case assign =>
    rintro l pre x W1 hi ⟨q, hq, rfl, rfl⟩ hlt
    rw [hsz3] at hlt
    have HI1 := Lib.hid hi
    clear hi HI
    have hlen : kk + q < S.loose.length := by have := HNN.out; omega
    obtain ⟨hc1, hc2, hc3⟩ := HALL.out _ (List.getElem_mem hlen)
    obtain ⟨z, hz⟩ : ∃ z, z = (S.loose[kk + q]).size := ⟨_, rfl⟩
    rw [← hz] at hc1 hc2 hc3
    have hE : chE S kk q = [.int .i64 1, .pointer (some ⟨b, 0, none⟩), .int .i64 z, .string ⟨#[]⟩, .pointer none] := by
      unfold chE
      rw [List.getElem?_eq_getElem hlen, hc1]
      rfl
    clear hc1 hz
    simp only [encI, hE]
    gi_wp2
    have hb := (Below.refl W1.heap.size W1).alloc (Nat.le_refl _) (.cells #[.int .i64 1, .pointer (some ⟨b, 0, none⟩), .int .i64 z, .string ⟨#[]⟩, .pointer none] 90)
    exact ⟨hb.block _ (by omega), hb.block _ (by omega), _, z, rfl, rfl, hc2, hc3, by omega, ⟨by simp, by simp, by simp, by simp, by simp⟩, HI1.out.later hb⟩
  case body =>
    rintro l pre x a1 W1 ⟨X, z, rfl, hx2, hz0, hz1, hX, ⟨c0, c1, c2, c3, c4⟩, hi⟩ ⟨q, hq, rfl, rfl⟩ hlt
    rw [hsz3] at hlt
    have i0 := hi.box
    have i1 := hi.prt
    simp only at hx2
    have HI1 := Lib.hid hi
    simp only [hx2]
    by_cases hq0 : q = 0
    · subst hq0
      obtain ⟨st, hst, hs0, hs1⟩ : ∃ st : Int, min (max part 0) 1048576 = st ∧ 0 ≤ st ∧ st ≤ 1048576 := ⟨_, rfl, by omega, by omega⟩
      have HU := Lib.hid (CI.undo HRW.out hi z st hz0 hz1 hs0 hs1 HFZ.out HDK.out)
      clear hi HI
      gi_wp2_with (refine ⟨trivial, ?_⟩; gi_at_call 46; refine (CallsIn.inRound l (callsIn_wide.2 HU.out)).mono ?_; rintro e w2 ⟨rfl, hci, hkp⟩; have HCI := Lib.hid hci; have HKP := Lib.hid hkp; clear hci hkp c0 c1 c2 c3 c4 i0 i1)
      exact ⟨by rw [hsz3]; exact HKP.out _ (by omega) (by omega), by rw [hsz3]; exact HKP.out _ (by omega) (by omega), HCI.out⟩
    · have hq1 : ((q : Int) == 0) = false := beq_eq_false_iff_ne.2 (by omega)
      have HU := Lib.hid (CI.undo HRW.out hi z 0 hz0 hz1 (by omega) (by omega) HFZ.out HDK.out)
      clear hi HI
      gi_wp2_with (refine ⟨trivial, ?_⟩; gi_at_call 46; refine (CallsIn.inRound l (callsIn_wide.2 HU.out)).mono ?_; rintro e w2 ⟨rfl, hci, hkp⟩; have HCI := Lib.hid hci; have HKP := Lib.hid hkp; clear hci hkp c0 c1 c2 c3 c4 i0 i1)
      exact ⟨by rw [hsz3]; exact HKP.out _ (by omega) (by omega), by rw [hsz3]; exact HKP.out _ (by omega) (by omega), HCI.out⟩
  case done =>
    rintro D W1 hD hi hK
    rw [hsz3] at hD
    subst hD
    obtain ⟨S', v, t, h1, h2, h3, h4, h5, h6, h7, h8, h9⟩ := hi.ex
    have k0 := h1.below (Below.refl _ _).drew
    have m0 := h2.trans (Mov.ofBelow (S := S') (d := d) (Below.refl _ _).drew)
    obtain ⟨k1, m1⟩ := k0.sync
    obtain ⟨k2, m2, t1⟩ := k1.cellSet 4 (.int .i64 (-1)) { S'.sure with fuse := -1 } rfl (by omega) rfl ⟨rfl, rfl, rfl⟩
    obtain ⟨k3, m3, t2⟩ := k2.cellSet 5 (.bool false) { S'.sure with fuse := -1, down := false } rfl (by omega) rfl ⟨rfl, rfl, rfl⟩
    have hown : ∀ k, ({ S'.sure with fuse := -1, down := false } : Dsk).own d k → S'.own d k := fun k ho => by
      rcases ho with ho | ho | ho | ho | ho
      · exact .inl ho
      · exact .inr (.inl ho)
      · exact .inr (.inr (.inl ho))
      · exact .inr (.inr (.inr (.inl ho)))
      · cases ho
    have hnR : ∀ k, ({ S'.sure with fuse := -1, down := false } : Dsk).own d k → k ≠ R + 3 := fun k ho => by
      have h10 := (HDK.out.ownLt (h3 k (hown k ho))).2
      have h11 := HRW.out
      omega
    have HT0 := Lib.hid (row_there k0.hd (o := 3) (by show 3 < 6; omega))
    have HTH0 := Lib.hid HT0.out
    have HTH1 := Lib.hid t1
    have HTH2 := Lib.hid t2
    have HZ := Lib.hid k3
    have HMZ := Lib.hid (((m0.trans m1).trans m2).trans m3)
    have HNR := Lib.hid hnR
    have HEX := Lib.hid (show S'.sure.fl b = some ⟨f.nm, v, f.zs.take t⟩ ∧ sure ≤ t ∧ t ≤ f.zs.length ∧ S'.D = S.D from ⟨h7, h8, h9, h6⟩)
    have HK := Lib.hid (show W1.drew.heap[R + 3]? = some (.deferred (some [])) from hK)
    have hb0 := hi.box
    have HS := Lib.hid (show W1.drew.cell? ⟨R, 0, none⟩ = some (.pointer (some ⟨d, 0, none⟩)) from hb0)
    have HL0 := Lib.hid (fun W2 (hW : W2.cell? ⟨R, 0, none⟩ = some (.pointer (some ⟨d, 0, none⟩))) => run_cell_disk W2 _ _ hW)
    clear hi HI h1 h2 h3 h4 h5 h6 h7 h8 h9 k0 m0 k1 m1 k2 m2 t1 k3 m3 t2 hown hnR hK hb0
    have hRW := HRW.out
    have hdR' : d < R := by omega
    gi_wp2
    (try dsimp only [Act.put, List.setIfInBounds_toArray, List.set_cons_zero, List.set_cons_succ])
    refine wpIn_wide.2 (wp_safe ?_)
    refine anyH_begin (S := fun W2 => W2.cell? ⟨R, 0, none⟩ = some (.pointer (some ⟨d, 0, none⟩))) (by kernel_rfl) ?_
    refine anyH_loadG 0 (d := 39) (ty := 23) (x := (.tmp 3)) (gd := none) (p := .pointer (some ⟨R, 0, none⟩)) (.pointer (some ⟨d, 0, none⟩)) (by rfl) (fun o ho => wanted_plain ho _) (by kernel_rfl) (by kernel_rfl) (by kernel_rfl) (fun _ _ _ h => h) (by rfl) HL0.out HS.out ?_
    simp only [Act.put, List.setIfInBounds_toArray, List.set_cons_zero, List.set_cons_succ]
    refine anyH_loadG 1 (d := 40) (ty := 23) (x := (.tmp 3)) (gd := none) (p := .pointer (some ⟨R, 0, none⟩)) (.pointer (some ⟨d, 0, none⟩)) (by rfl) (fun o ho => wanted_plain ho _) (by kernel_rfl) (by kernel_rfl) (by kernel_rfl) (fun _ _ _ h => h) (by rfl) HL0.out HS.out ?_
    simp only [Act.put, List.setIfInBounds_toArray, List.set_cons_zero, List.set_cons_succ]
    refine anyH_loadG 2 (d := 41) (ty := 23) (x := (.tmp 3)) (gd := none) (p := .pointer (some ⟨R, 0, none⟩)) (.pointer (some ⟨d, 0, none⟩)) (by rfl) (fun o ho => wanted_plain ho _) (by kernel_rfl) (by kernel_rfl) (by kernel_rfl) (fun _ _ _ h => h) (by rfl) HL0.out HS.out ?_
    simp only [Act.put, List.setIfInBounds_toArray, List.set_cons_zero, List.set_cons_succ]
    refine anyH_pureG 3 (d := 42) (op := .nilCheck (.tmp 39)) (gd := none) (.pointer (some ⟨d, 0, none⟩)) (by rfl) (fun o ho => wanted_plain ho _) (by kernel_rfl) (by kernel_rfl) (by kernel_rfl) (fun _ _ _ h => h) (fun o ho W hW => by unfold execOp; simp only [ho]; go_simp) HS.out ?_
    simp only [Act.put, List.setIfInBounds_toArray, List.set_cons_zero, List.set_cons_succ]
    refine anyH_pureG 4 (d := 43) (op := .fieldAddr 76 (.tmp 42) 3) (gd := none) (.pointer (some ⟨d, 3, none⟩)) (by rfl) (fun o ho => wanted_plain ho _) (by kernel_rfl) (by kernel_rfl) (by kernel_rfl) (fun _ _ _ h => h) (fun o ho W hW => by unfold execOp; simp only [ho]; go_simp) HS.out ?_
    simp only [Act.put, List.setIfInBounds_toArray, List.set_cons_zero, List.set_cons_succ]
    refine wpAnyH_all (rs := [5]) (by kernel_rfl) (by simp) ?_
    intro k hk; simp only [List.mem_cons, List.not_mem_nil, or_false] at hk; subst hk
    refine op_atJ 5 (d := none) (op := .store 74 (.tmp 43) (.const (.slice none 0 0))) (by rfl) ?_
    intro o0 hod0 hoo0
    refine wp_store_one 74 (.tmp 43) (.const (.slice none 0 0)) hoo0 d 3 (.slice none 0 0) (by rfl) (by rfl) HTH0.out (by kernel_rfl) (by rfl) (by rfl) ?_
    rw [hod0]
    simp only [Act.put, List.setIfInBounds_toArray, List.set_cons_zero, List.set_cons_succ]
    have HS := Lib.hid ((one_cell (o := 3) (v := .slice none 0 0) (show R ≠ d by omega)).trans HS.out)
    refine ⟨HS.out, ?_⟩
    refine anyH_pureG 6 (d := 44) (op := .nilCheck (.tmp 40)) (gd := none) (.pointer (some ⟨d, 0, none⟩)) (by rfl) (fun o ho => wanted_plain ho _) (by kernel_rfl) (by kernel_rfl) (by kernel_rfl) (fun _ _ _ h => h) (fun o ho W hW => by unfold execOp; simp only [ho]; go_simp) HS.out ?_
    simp only [Act.put, List.setIfInBounds_toArray, List.set_cons_zero, List.set_cons_succ]
    refine anyH_pureG 7 (d := 45) (op := .fieldAddr 76 (.tmp 44) 4) (gd := none) (.pointer (some ⟨d, 4, none⟩)) (by rfl) (fun o ho => wanted_plain ho _) (by kernel_rfl) (by kernel_rfl) (by kernel_rfl) (fun _ _ _ h => h) (fun o ho W hW => by unfold execOp; simp only [ho]; go_simp) HS.out ?_
    simp only [Act.put, List.setIfInBounds_toArray, List.set_cons_zero, List.set_cons_succ]
    refine wpAnyH_all (rs := [8]) (by kernel_rfl) (by simp) ?_
    intro k hk; simp only [List.mem_cons, List.not_mem_nil, or_false] at hk; subst hk
    refine op_atJ 8 (d := none) (op := .store 3 (.tmp 45) (.const (.int IntKind.i64 (-1)))) (by rfl) ?_
    intro o1 hod1 hoo1
    refine wp_store_one 3 (.tmp 45) (.const (.int .i64 (-1))) hoo1 d 4 (.int .i64 (-1)) (by rfl) (by rfl) HTH1.out (by kernel_rfl) (by rfl) (by rfl) ?_
    rw [hod1]
    simp only [Act.put, List.setIfInBounds_toArray, List.set_cons_zero, List.set_cons_succ]
    have HS := Lib.hid ((one_cell (o := 4) (v := .int .i64 (-1)) (show R ≠ d by omega)).trans HS.out)
    refine ⟨HS.out, ?_⟩
    refine anyH_pureG 9 (d := 46) (op := .nilCheck (.tmp 41)) (gd := none) (.pointer (some ⟨d, 0, none⟩)) (by rfl) (fun o ho => wanted_plain ho _) (by kernel_rfl) (by kernel_rfl) (by kernel_rfl) (fun _ _ _ h => h) (fun o ho W hW => by unfold execOp; simp only [ho]; go_simp) HS.out ?_
    simp only [Act.put, List.setIfInBounds_toArray, List.set_cons_zero, List.set_cons_succ]
    refine anyH_pureG 10 (d := 47) (op := .fieldAddr 76 (.tmp 46) 5) (gd := none) (.pointer (some ⟨d, 5, none⟩)) (by rfl) (fun o ho => wanted_plain ho _) (by kernel_rfl) (by kernel_rfl) (by kernel_rfl) (fun _ _ _ h => h) (fun o ho W hW => by unfold execOp; simp only [ho]; go_simp) HS.out ?_
    simp only [Act.put, List.setIfInBounds_toArray, List.set_cons_zero, List.set_cons_succ]
    refine wpAnyH_all (rs := [11]) (by kernel_rfl) (by simp) ?_
    intro k hk; simp only [List.mem_cons, List.not_mem_nil, or_false] at hk; subst hk
    refine op_atJ 11 (d := none) (op := .store 4 (.tmp 47) (.const (.bool false))) (by rfl) ?_
    intro o2 hod2 hoo2
    refine wp_store_one 4 (.tmp 47) (.const (.bool false)) hoo2 d 5 (.bool false) (by rfl) (by rfl) HTH2.out (by kernel_rfl) (by rfl) (by rfl) ?_
    rw [hod2]
    simp only [Act.put, List.setIfInBounds_toArray, List.set_cons_zero, List.set_cons_succ]
    have HS := Lib.hid ((one_cell (o := 5) (v := .bool false) (show R ≠ d by omega)).trans HS.out)
    refine ⟨HS.out, ?_⟩
    refine wpAnyH_done (by kernel_rfl) ?_ _
    clear HL0 HS HT0 HTH0 HTH1 HTH2
    have HK3 := Lib.hid (show (((W1.drew.setCells d 3 [.slice none 0 0]).setCells d 4 [.int .i64 (-1)]).setCells d 5 [.bool false]).heap[R + 3]? = some (.deferred (some [])) from by
      rw [one_heap (by omega), one_heap (by omega), one_heap (by omega)]; exact HK.out)
    obtain ⟨w9, hw9⟩ : ∃ w9, w9 = ((W1.drew.setCells d 3 [.slice none 0 0]).setCells d 4 [.int .i64 (-1)]).setCells d 5 [.bool false] := ⟨_, rfl⟩
    have HZ9 := Lib.hid (show DK B d { S'.sure with fuse := -1, down := false } w9 from by rw [hw9]; exact HZ.out)
    have HM9 := Lib.hid (show Mov S d { S'.sure with fuse := -1, down := false } w w9 from by rw [hw9]; exact HMZ.out)
    rw [← hw9] at HK3 ⊢
    clear hw9 HK HZ HMZ
    gi_wp2
    refine ⟨by simp, .inl ⟨_, _, rfl, run_takeDeferred HK3.out, ?_⟩⟩
    refine ⟨.int .i64 0, ?_, rfl, { S'.sure with fuse := -1, down := false }, v, t, ?_⟩
    · simp [results, Try.f16, go_sem]
    · have m := HM9.out
      refine ⟨HZ9.out.keep (fun k ho => World.putObj_heap_other (HNR.out k ho)), ?_, HEX.out.2.1, HEX.out.2.2.1, HEX.out.1, rfl, rfl, rfl, HEX.out.2.2.2⟩
      exact ⟨m.os, m.tape, m.output, by show w.heap.size ≤ (w9.putObj (R + 3) _).heap.size; simp only [World.putObj, Array.size_setIfInBounds]; exact m.size, fun k hk hn => (World.putObj_heap_other (by omega)).trans (m.block k hk hn), m.own⟩
  case stop =>
    rintro D pre W1 hD hf
    exact hf.elim
end Go.Proofs.Ytmomdfmilelilaa
