/-
  A disk in memory: Read. A disk in memory: undo. Crash of a disk whose loose changes are Appends to one file.
-/
import Derived.Test.YtihbgigledmliaaDkh
import Derived.Test.YtihbgigledmliaaDkx
import Derived.Test.YtihbgigledmliaaDkt
namespace Go.Proofs.Ytihbgigledmliaa
open Go.RowKit Go.Maps
set_option linter.unusedVariables false
theorem exec_cutD {a : Option Addr} {len cap k : Nat} (hk : k ≤ len) {A : Act} {x y : Operand} (hx : A.eval x = .slice a len cap) (hy : A.eval y = .int .i64 (k : Int)) (o : Oper) (ho : o.op = .slice 41 x (some y) none none) (W : World) :
    (execOp A.eval o).run Try.prog W = .ok (.value (.slice (sla a cap k) (len - k) (cap - k))) W := by
  unfold execOp
  simp only [ho, hx, hy, Option.map_none, Option.map_some]
  rw [Sem.run_bind, run_cutAt W a len cap k hk]
  rfl
set_option maxRecDepth 100000 in
set_option maxHeartbeats 4000000 in
theorem dread_ok {B d : Nat} {S : Dsk} {w : World} (h : DK B d S w) (s : ByteArray) (hs : s.size ≤ maxLen) (x n : Int) (hd : S.down = false) {b : Nat} {f : Fil} (ha : S.at s = some b) (hfl : S.fl b = some f) (hx : 0 ≤ x) (hn : 0 ≤ n) (hfz : f.zs.length ≤ 100000000000) :
    Calls Try.prog 46 #[.pointer (some ⟨d, 0, none⟩), .string s, .int .i64 x, .int .i64 n] w fun e w' => ∃ va vn vc, e = .returned (.tuple #[.slice va vn vc, .int .i64 0]) ∧ Own w' w.heap.size (.slice va vn vc) ((f.zs.drop x.toNat).take n.toNat) ∧ vn = ((f.zs.drop x.toNat).take n.toNat).length ∧ (∀ z ∈ (f.zs.drop x.toNat).take n.toNat, z < 256) ∧ Below w.heap.size w w' := by
  have HF := Lib.hid (dfind_c h s hs)
  rw [show S.find s = (some b, 0) from by unfold Dsk.find; rw [hd, ha]; rfl] at HF
  simp only [ptrOf, Option.map_some] at HF
  obtain ⟨ra, rc, hrow, hrl, -, hrd⟩ := ((h.rest.hf b f hfl).2.2.1).rd (h.rest.hf b f hfl).2.2.2
  have hzz := (h.rest.hf b f hfl).2.2.2
  have hnil : ra = none → rc = 0 := fun e => by
    rcases (h.rest.hf b f hfl).2.2.1.2 with ⟨h1, _⟩ | ⟨g, cap, cur, h1, _⟩
    · rw [hrow] at h1
      exact (Value.slice.inj h1).2.2
    · rw [hrow] at h1
      have := (Value.slice.inj h1).1
      rw [e] at this
      cases this
  have HC := Lib.hid ((h.rest.fcells hfl).2.trans (congrArg some hrow))
  obtain ⟨k, hmin, hkl, hke⟩ : ∃ k : Nat, min x (f.zs.length : Int) = (k : Int) ∧ k ≤ f.zs.length ∧ f.zs.drop k = f.zs.drop x.toNat := by
    by_cases hc : x.toNat ≤ f.zs.length
    · exact ⟨x.toNat, by omega, hc, rfl⟩
    · refine ⟨f.zs.length, by omega, Nat.le_refl _, ?_⟩
      rw [List.drop_length, List.drop_of_length_le (by omega)]
  obtain ⟨m, hmin2, hml, hme⟩ : ∃ m : Nat, min n (((f.zs.length - k : Nat)) : Int) = (m : Int) ∧ m ≤ f.zs.length - k ∧ (f.zs.drop k).take m = (f.zs.drop x.toNat).take n.toNat := by
    rw [← hke]
    by_cases hc : n.toNat ≤ f.zs.length - k
    · exact ⟨n.toNat, by omega, hc, rfl⟩
    · refine ⟨f.zs.length - k, by omega, Nat.le_refl _, ?_⟩
      rw [List.take_of_length_le (by rw [List.length_drop]; omega), List.take_of_length_le (by rw [List.length_drop]; omega)]
  have i1 : ¬ x < 0 := by omega
  have i2 : ¬ n < 0 := by omega
  have HRD := Lib.hid ((hrd.cut rc k hkl hrl).take m hml)
  rw [hme] at HRD
  have HZ := Lib.hid (show ∀ z ∈ (f.zs.drop x.toNat).take n.toNat, z < 256 from fun z hz => hzz z (List.mem_of_mem_drop (List.mem_of_mem_take hz)))
  have hhd := fun W => run_headAt W (sla ra rc k) (f.zs.length - k) (rc - k) m (by omega)
  have hnil2 : sla ra rc k = none → rc - k = 0 := fun e => by rw [hnil (sla_none _ _ _ e)]; omega
  clear h hrow hrd hzz hnil hke hme ha
  go_enter Try.func46, Try.ntmps46
  go_wp2_with fail
  refine HF.out.mono ?_
  rintro e1 w1 ⟨rfl, rfl⟩
  clear HF
  go_wp2_with fail
  (try dsimp only [Act.put, List.setIfInBounds_toArray, List.set_cons_zero, List.set_cons_succ])
  have HS := Lib.hid (show World.cell? (World.drew _) ⟨b, 1, none⟩ = some (.slice ra f.zs.length rc) from HC.out)
  have HL1 := Lib.hid (fun W (hW : World.cell? W ⟨b, 1, none⟩ = some (.slice ra f.zs.length rc)) => run_cell_b W ⟨b, 1, none⟩ ra f.zs.length rc hW)
  refine anyH_begin (S := fun W => World.cell? W ⟨b, 1, none⟩ = some (.slice ra f.zs.length rc)) (by kernel_rfl) ?_
  refine anyH_pureG 0 (d := 28) (op := .move (.tmp 10)) (gd := none) (.pointer (some ⟨b, 0, none⟩)) (by rfl) (fun o ho => wanted_plain ho _) (by kernel_rfl) (by kernel_rfl) (by kernel_rfl) (fun _ _ _ h => h) (fun o ho W hW => by unfold execOp; simp only [ho]; go_simp) HS.out ?_
  simp only [Act.put, List.setIfInBounds_toArray, List.set_cons_zero, List.set_cons_succ]
  refine anyH_pureG 1 (d := 29) (op := .nilCheck (.tmp 28)) (gd := none) (.pointer (some ⟨b, 0, none⟩)) (by rfl) (fun o ho => wanted_plain ho _) (by kernel_rfl) (by kernel_rfl) (by kernel_rfl) (fun _ _ _ h => h) (fun o ho W hW => by unfold execOp; simp only [ho]; go_simp) HS.out ?_
  simp only [Act.put, List.setIfInBounds_toArray, List.set_cons_zero, List.set_cons_succ]
  refine anyH_pureG 2 (d := 30) (op := .fieldAddr 122 (.tmp 29) 1) (gd := none) (.pointer (some ⟨b, 1, none⟩)) (by rfl) (fun o ho => wanted_plain ho _) (by kernel_rfl) (by kernel_rfl) (by kernel_rfl) (fun _ _ _ h => h) (fun o ho W hW => by unfold execOp; simp only [ho]; go_simp) HS.out ?_
  simp only [Act.put, List.setIfInBounds_toArray, List.set_cons_zero, List.set_cons_succ]
  refine anyH_loadG 3 (d := 31) (ty := 41) (x := (.tmp 30)) (gd := none) (p := .pointer (some ⟨b, 1, none⟩)) (.slice ra f.zs.length rc) (by rfl) (fun o ho => wanted_plain ho _) (by kernel_rfl) (by kernel_rfl) (by kernel_rfl) (fun _ _ _ h => h) (by rfl) HL1.out HS.out ?_
  simp only [Act.put, List.setIfInBounds_toArray, List.set_cons_zero, List.set_cons_succ]
  refine anyH_pureG 4 (d := 32) (op := .move (.tmp 2)) (gd := none) (.int .i64 x) (by rfl) (fun o ho => wanted_plain ho _) (by kernel_rfl) (by kernel_rfl) (by kernel_rfl) (fun _ _ _ h => h) (fun o ho W hW => by unfold execOp; simp only [ho]; go_simp) HS.out ?_
  simp only [Act.put, List.setIfInBounds_toArray, List.set_cons_zero, List.set_cons_succ]
  refine anyH_pureG 5 (d := 33) (op := .move (.tmp 10)) (gd := none) (.pointer (some ⟨b, 0, none⟩)) (by rfl) (fun o ho => wanted_plain ho _) (by kernel_rfl) (by kernel_rfl) (by kernel_rfl) (fun _ _ _ h => h) (fun o ho W hW => by unfold execOp; simp only [ho]; go_simp) HS.out ?_
  simp only [Act.put, List.setIfInBounds_toArray, List.set_cons_zero, List.set_cons_succ]
  refine anyH_pureG 6 (d := 34) (op := .nilCheck (.tmp 33)) (gd := none) (.pointer (some ⟨b, 0, none⟩)) (by rfl) (fun o ho => wanted_plain ho _) (by kernel_rfl) (by kernel_rfl) (by kernel_rfl) (fun _ _ _ h => h) (fun o ho W hW => by unfold execOp; simp only [ho]; go_simp) HS.out ?_
  simp only [Act.put, List.setIfInBounds_toArray, List.set_cons_zero, List.set_cons_succ]
  refine anyH_pureG 7 (d := 35) (op := .fieldAddr 122 (.tmp 34) 1) (gd := none) (.pointer (some ⟨b, 1, none⟩)) (by rfl) (fun o ho => wanted_plain ho _) (by kernel_rfl) (by kernel_rfl) (by kernel_rfl) (fun _ _ _ h => h) (fun o ho W hW => by unfold execOp; simp only [ho]; go_simp) HS.out ?_
  simp only [Act.put, List.setIfInBounds_toArray, List.set_cons_zero, List.set_cons_succ]
  refine anyH_loadG 8 (d := 36) (ty := 41) (x := (.tmp 35)) (gd := none) (p := .pointer (some ⟨b, 1, none⟩)) (.slice ra f.zs.length rc) (by rfl) (fun o ho => wanted_plain ho _) (by kernel_rfl) (by kernel_rfl) (by kernel_rfl) (fun _ _ _ h => h) (by rfl) HL1.out HS.out ?_
  simp only [Act.put, List.setIfInBounds_toArray, List.set_cons_zero, List.set_cons_succ]
  refine anyH_pureG 9 (d := 37) (op := .call { callee := .builtin .len, args := #[(.tmp 36)], argTypes := #[41] }) (gd := none) (.int .i64 (f.zs.length : Int)) (by rfl) (fun o ho => wanted_plain ho _) (by kernel_rfl) (by kernel_rfl) (by kernel_rfl) (fun _ _ _ h => h) (fun o ho W hW => by unfold execOp; simp only [ho]; go_simp) HS.out ?_
  simp only [Act.put, List.setIfInBounds_toArray, List.set_cons_zero, List.set_cons_succ]
  refine anyH_pureG 10 (d := 38) (op := .call { callee := .builtin .min, args := #[(.tmp 32), (.tmp 37)], argTypes := #[3, 3] }) (gd := none) (.int .i64 (k : Int)) (by rfl) (fun o ho => wanted_plain ho _) (by kernel_rfl) (by kernel_rfl) (by kernel_rfl) (fun _ _ _ h => h) (fun o ho W hW => by unfold execOp; simp only [ho]; go_simp; try exact hmin) HS.out ?_
  simp only [Act.put, List.setIfInBounds_toArray, List.set_cons_zero, List.set_cons_succ]
  refine anyH_pureG 11 (d := 39) (op := .slice 41 (.tmp 31) (some (.tmp 38)) none none) (gd := none) (.slice (sla ra rc k) (f.zs.length - k) (rc - k)) (by rfl) (fun o ho => wanted_plain ho _) (by kernel_rfl) (by kernel_rfl) (by kernel_rfl) (fun _ _ _ h => h) (fun o ho W hW => exec_cutD (x := .tmp 31) (y := .tmp 38) hkl (by rfl) (by rfl) o ho W) HS.out ?_
  simp only [Act.put, List.setIfInBounds_toArray, List.set_cons_zero, List.set_cons_succ]
  refine anyH_pureG 12 (d := 12) (op := .assign (.tmp 39)) (gd := none) (.slice (sla ra rc k) (f.zs.length - k) (rc - k)) (by rfl) (fun o ho => wanted_plain ho _) (by kernel_rfl) (by kernel_rfl) (by kernel_rfl) (fun _ _ _ h => h) (fun o ho W hW => by unfold execOp; simp only [ho]; go_simp) HS.out ?_
  simp only [Act.put, List.setIfInBounds_toArray, List.set_cons_zero, List.set_cons_succ]
  refine wpAnyH_done (by kernel_rfl) ?_ _
  clear HS HL1 HC
  go_wp2_with (at_builtin; refine wpList_catR rfl (.const (.slice none 0 0)) (.tmp 46) rfl _ (.slice none 0 0) [] _ (by rfl) (Own.nil _ _) (Nat.le_refl _) (sla ra rc k) m (rc - k) (by rfl) HRD.out.drew hnil2 (fun z hz => by cases hz) ?_ ?_)
  · have := HRD.out.1
    simp only [List.length_nil, Nat.zero_add]
    omega
  · intro va vn vc w7 hl7 _ _ _ _ ho7 hb7
    have HO := Lib.hid ho7
    have HB := Lib.hid hb7
    have HL := Lib.hid hl7
    clear ho7 hb7 hl7
    go_wp2_with fail
    go_ret2
    exact ⟨_, _, _, rfl, HO.out, by rw [List.length_take, List.length_drop]; exact HL.out.symm, HZ.out, (Below.refl _ _).drew.trans HB.out⟩
end Go.Proofs.Ytihbgigledmliaa
namespace Go.Proofs.Ytihbgigledmliaa
open Go.RowKit Go.Maps
set_option linter.unusedVariables false
theorem Own.cutTo {w : World} {B len cap k : Nat} {a : Option Addr} {zs : List Nat} (h : Own w B (.slice a len cap) zs) (hl : zs.length = len) (hk : k ≤ len) : Own w B (.slice a k cap) (zs.take k) := by
  have hkl : (zs.take k).length = k := by rw [List.length_take]; omega
  refine ⟨by rw [cellsOf_length, Nat.mul_one], ?_⟩
  rw [hkl]
  rcases h.2 with ⟨h1, h2⟩ | ⟨g, c, cur, h1, h2, h3, h4, h5, h6, h7⟩
  · obtain ⟨e1, e2, e3⟩ := Value.slice.inj h1
    subst e1 e2 e3
    exact .inl ⟨by rw [show k = 0 by omega], by omega⟩
  · obtain ⟨e1, e2, e3⟩ := Value.slice.inj h1
    subst e1 e3
    refine .inr ⟨g, cap, cur, rfl, h2, h3, by omega, h5, h6, ?_⟩
    rw [Nat.mul_one] at h7 ⊢
    rw [show cellsOf (zs.take k) = (cellsOf zs).take k by unfold cellsOf; rw [List.map_take], ← h7, List.take_take, Nat.min_eq_left (by omega)]
/-- what undo of an Append leaves: k of the file's bytes -/
def Dsk.cutf (S : Dsk) (b : Nat) (f : Fil) (v : Value) (k : Nat) : Dsk := { (S.file b ⟨f.nm, v, f.zs.take k⟩) with used := wrap64 (S.used - ((f.zs.length - k : Nat) : Int)) }
theorem run_cell_pf (W : World) (a : Addr) (v : Option Addr) (hc : W.cell? a = some (.pointer v)) : (Instr.loadAt 118 (.pointer (some a))).run Try.prog W = .ok (.pointer v) W := by go_simp
theorem exec_headD {a : Option Addr} {len cap k : Nat} (hk : k ≤ cap) {A : Act} {x y : Operand} (hx : A.eval x = .slice a len cap) (hy : A.eval y = .int .i64 (k : Int)) (o : Oper) (ho : o.op = .slice 41 x none (some y) none) (W : World) :
    (execOp A.eval o).run Try.prog W = .ok (.value (.slice a k cap)) W := by
  unfold execOp
  simp only [ho, hx, hy, Option.map_none, Option.map_some]
  rw [Sem.run_bind, run_headAt W a len cap k hk]
  rfl
end Go.Proofs.Ytihbgigledmliaa
namespace Go.Proofs.Ytihbgigledmliaa
open Go.RowKit Go.Maps
set_option linter.unusedVariables false
attribute [local go_sem] Oper.semAt_some
def slc (a : Option Addr) (c m : Nat) : Option Addr := if c = m then a else a.map (·.add (5 * m))
theorem exec_lastN {a : Option Addr} {n c k : Nat} (hk : k ≤ n) (hc : n ≤ c) {A : Act} {x y : Operand} (hx : A.eval x = .slice a n c) (hy : A.eval y = .int .i64 (k : Int)) (o : Oper) (ho : o.op = .slice 51 x (some y) none none) (W : World) :
    (execOp A.eval o).run Try.prog W = .ok (.value (.slice (slc a c k) (n - k) (c - k))) W := by
  unfold execOp
  simp only [ho, hx, hy, Option.map_none, Option.map_some]
  rw [Sem.run_bind, run_sliceAt_slice W _ _ _ _ _ und_chgs, run_slice_l W _ a n c und_chgs .i64 (k : Int) (by omega) (by omega), elem_chgs, sizeOf_chg]
  simp [Result.andThen, sliced, slc, Nat.mul_comm]
theorem flat_getC : ∀ (l : List Chg) (i j : Nat) (c : Chg), l[i]? = some c → j < 5 → (l.flatMap Chg.cells)[5 * i + j]? = c.cells[j]?
  | [], i, j, c, h, _ => by cases h
  | x :: l, 0, j, c, h, hj => by
    cases h
    rw [List.flatMap_cons, Nat.mul_zero, Nat.zero_add, List.getElem?_append_left (by simpa [Chg.cells] using hj)]
  | x :: l, i + 1, j, c, h, hj => by
    rw [List.flatMap_cons, List.getElem?_append_right (by simp [Chg.cells]; omega)]
    have e : 5 * (i + 1) + j - x.cells.length = 5 * i + j := by simp [Chg.cells]; omega
    rw [e]
    exact flat_getC l i j c (by simpa using h) hj
/-- a change's cells by its place -/
def chE (S : Dsk) (kk i : Nat) : List Value := match S.loose[kk + i]? with
  | some c => c.cells
  | none => []
theorem DK.itn {B d n c bx kk : Nat} {S S' : Dsk} {a : Option Addr} {W : World} (h : DK B d S' W) (hlv : S.lv = .slice a n c) (h1 : S'.lv = S.lv) (h2 : S'.loose = S.loose) (hkk : kk ≤ n) (hb : W.cell? ⟨bx, 0, none⟩ = some (.slice (slc a c kk) (n - kk) (c - kk))) : ItN bx (slc a c kk) (n - kk) (c - kk) (chE S kk) W := by
  refine ⟨hb, fun i hi => ?_⟩
  have hl := h.rest.hl
  rw [h1, h2, hlv] at hl
  rcases hl.2 with ⟨e1, e2⟩ | ⟨g, cap, cur, e1, hB, hg, hn, hm, hs, ht⟩
  · have := (Value.slice.inj e1).2.1
    omega
  · obtain ⟨e2, e3, e4⟩ := Value.slice.inj e1
    subst e2 e4
    have hlen : kk + i < S.loose.length := by omega
    have hc : chE S kk i = (S.loose[kk + i]).cells := by unfold chE; rw [List.getElem?_eq_getElem hlen]
    have hne : ¬ c = kk := by omega
    refine ⟨g, 5 * kk, by unfold slc; rw [if_neg hne, Option.map_some, Addr.add_mid, Nat.zero_add], by rw [hc]; rfl, fun j v hj => ?_⟩
    have hj5 : j < 5 := by
      have := (List.getElem?_eq_some_iff.1 hj).1
      rw [hc] at this
      exact this
    rw [hc] at hj
    have hf := flat_getC S.loose (kk + i) j _ (List.getElem?_eq_getElem hlen) hj5
    rw [← ht, List.getElem?_take, if_pos (by omega), hj] at hf
    rw [show 5 * kk + 5 * i + j = 5 * (kk + i) + j by omega, cell_of_row W g _ cur _ _ hg, ← Array.getElem?_toList]
    exact hf
theorem Mov.keepL {S S' : Dsk} {d D : Nat} {w W W' : World} (h : Mov S d S' w W) (hk : KeepL D W W') (hD : w.heap.size ≤ D) : Mov S d S' w W' :=
  ⟨hk.os.trans h.os, hk.tape.trans h.tape, hk.output.trans h.output, Nat.le_trans h.size hk.size, fun k h1 h2 => (hk.blk k (by omega) (by omega)).trans (h.block k h1 h2), h.own⟩
/-- so far as the changes have been taken back -/
structure CI (B d b : Nat) (S : Dsk) (f : Fil) (sure : Nat) (part : Int) (w : World) (n kk : Nat) (la : Option Addr) (lc R : Nat) (W : World) : Prop where
  box : W.cell? ⟨R, 0, none⟩ = some (.pointer (some ⟨d, 0, none⟩))
  prt : W.cell? ⟨R + 1, 0, none⟩ = some (.int .i64 part)
  bx : W.cell? ⟨R + 2, 0, none⟩ = some (.slice (slc la lc kk) (n - kk) (lc - kk))
  size : R + 3 ≤ W.heap.size
  ex : ∃ S' v t, DK B d S' W ∧ Mov S d S' w W ∧ (∀ k, S'.own d k → S.own d k) ∧ S'.lv = S.lv ∧ S'.loose = S.loose ∧ S'.D = S.D ∧ S'.fl b = some ⟨f.nm, v, f.zs.take t⟩ ∧ sure ≤ t ∧ t ≤ f.zs.length
theorem CI.keepL {B d b : Nat} {S : Dsk} {f : Fil} {sure : Nat} {part : Int} {w : World} {n kk : Nat} {la : Option Addr} {lc R : Nat} {W W' : World} (hR : w.heap.size = R) (hw : DK B d S w) (h : CI B d b S f sure part w n kk la lc R W) (hk : KeepL (R + 3) W W') : CI B d b S f sure part w n kk la lc R W' := by
  obtain ⟨S', v, t, h1, h2, h3, h4⟩ := h.ex
  have hn : ∀ k, S'.own d k → k ≠ R + 3 ∧ k ≠ R + 4 := fun k ho => by have := (hw.ownLt (h3 k ho)).2; omega
  exact ⟨(hk.cell (a := ⟨R, 0, none⟩) (by show R ≠ R + 3; omega) (by show R ≠ R + 4; omega)).trans h.box, (hk.cell (a := ⟨R + 1, 0, none⟩) (by show R + 1 ≠ R + 3; omega) (by show R + 1 ≠ R + 4; omega)).trans h.prt,
    (hk.cell (a := ⟨R + 2, 0, none⟩) (by show R + 2 ≠ R + 3; omega) (by show R + 2 ≠ R + 4; omega)).trans h.bx, Nat.le_trans h.size hk.size, S', v, t, h1.keep fun k ho => hk.blk k (hn k ho).1 (hn k ho).2, h2.keepL hk (by omega), h3, h4⟩
theorem CI.later {B d b : Nat} {S : Dsk} {f : Fil} {sure : Nat} {part : Int} {w : World} {n kk : Nat} {la : Option Addr} {lc R : Nat} {W W' : World} (h : CI B d b S f sure part w n kk la lc R W) (hb : Below W.heap.size W W') : CI B d b S f sure part w n kk la lc R W' := by
  obtain ⟨S', v, t, h1, h2, h3, h4⟩ := h.ex
  have hsz := h.size
  exact ⟨(hb.cell (p := ⟨R, 0, none⟩) (by show R < _; omega)).trans h.box, (hb.cell (p := ⟨R + 1, 0, none⟩) (by show R + 1 < _; omega)).trans h.prt, (hb.cell (p := ⟨R + 2, 0, none⟩) (by show R + 2 < _; omega)).trans h.bx, Nat.le_trans hsz hb.size, S', v, t, h1.below hb, h2.trans (Mov.ofBelow hb), h3, h4⟩
/-- a round: the change's box beside -/
def CM (B d b : Nat) (S : Dsk) (f : Fil) (sure : Nat) (part : Int) (w : World) (n kk : Nat) (la : Option Addr) (lc R : Nat) (X : Nat) (z : Int) (W : World) : Prop :=
  R + 4 < X ∧ (W.cell? ⟨X, 0, none⟩ = some (.int .i64 1) ∧ W.cell? ⟨X, 1, none⟩ = some (.pointer (some ⟨b, 0, none⟩)) ∧ W.cell? ⟨X, 2, none⟩ = some (.int .i64 z) ∧ W.cell? ⟨X, 3, none⟩ = some (.string ⟨#[]⟩) ∧ W.cell? ⟨X, 4, none⟩ = some (.pointer none)) ∧ CI B d b S f sure part w n kk la lc R W
theorem CM.keepL {B d b : Nat} {S : Dsk} {f : Fil} {sure : Nat} {part : Int} {w : World} {n kk : Nat} {la : Option Addr} {lc R X : Nat} {z : Int} {W W' : World} (hR : w.heap.size = R) (hw : DK B d S w) (h : CM B d b S f sure part w n kk la lc R X z W) (hk : KeepL (R + 3) W W') : CM B d b S f sure part w n kk la lc R X z W' := by
  obtain ⟨h0, ⟨a0, a1, a2, a3, a4⟩, h2⟩ := h
  have k : ∀ j, W'.cell? ⟨X, j, none⟩ = W.cell? ⟨X, j, none⟩ := fun j => hk.cell (a := ⟨X, j, none⟩) (by show X ≠ R + 3; omega) (by show X ≠ R + 4; omega)
  exact ⟨h0, ⟨(k _).trans a0, (k _).trans a1, (k _).trans a2, (k _).trans a3, (k _).trans a4⟩, h2.keepL hR hw hk⟩
/-- behind a crash -/
def Crashed (B d b : Nat) (S : Dsk) (f : Fil) (sure : Nat) (w w' : World) : Prop := ∃ S' v t, DK B d S' w' ∧ Mov S d S' w w' ∧ sure ≤ t ∧ t ≤ f.zs.length ∧ S'.fl b = some ⟨f.nm, v, f.zs.take t⟩ ∧ S'.loose = [] ∧ S'.down = false ∧ S'.fuse = -1 ∧ S'.D = S.D
end Go.Proofs.Ytihbgigledmliaa
