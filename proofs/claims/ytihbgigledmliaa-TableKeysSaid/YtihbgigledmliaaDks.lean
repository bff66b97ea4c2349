/-
  A disk in memory is the document's: each call but Names and Crash.
-/
import Derived.Test.YtihbgigledmliaaDknq
import Derived.Test.YtihbgigledmliaaDkrv
namespace Go.Proofs.Ytihbgigledmliaa
open Go.RowKit Go.Maps
set_option linter.unusedVariables false
set_option maxRecDepth 100000 in
set_option maxHeartbeats 8000000 in
theorem dappend_power {B d : Nat} {S : Dsk} {w : World} (h : DK B d S w) (s : ByteArray) (hs : s.size ≤ maxLen) (pa : Option Addr) (n c : Nat) (hd : S.down = false) {b : Nat} (ha : S.at s = some b) (hl : n ≤ 1048576) (hc : ¬ wrap64 (S.room - S.used) < (n : Int)) (hf : S.fuse = 0) : Calls Try.prog 57 #[.pointer (some ⟨d, 0, none⟩), .string s, .slice pa n c] w fun e w' => e = .returned (.int .i64 5) ∧ DK B d { S with down := true } w' ∧ Mov S d { S with down := true } w w' := by
  have HF := Lib.hid (dfind_c h s hs)
  rw [show S.find s = (some b, 0) from by unfold Dsk.find; rw [hd, ha]; rfl] at HF
  simp only [ptrOf, Option.map_some] at HF
  have i1 : ¬ (1048576 : Int) < (n : Int) := by omega
  have hfit : decide (wrap64 (S.room - S.used) < (n : Int)) = false := decide_eq_false hc
  clear hc
  have hst : S.step = ({ S with down := true }, 5) := by
    unfold Dsk.step
    rw [if_pos hf]
  have HST := Lib.hid (dstep_c (h.below (Below.refl _ _).drew))
  rw [hst] at HST
  go_enter Try.func57, Try.ntmps57
  go_wp2_with fail
  refine HF.out.mono ?_
  rintro e1 w1 ⟨rfl, rfl⟩
  go_wp2_with fail
  (try dsimp only [Act.put, List.setIfInBounds_toArray, List.set_cons_zero, List.set_cons_succ])
  have HS := Lib.hid (show World.cell? _ ⟨d, 0, none⟩ = some (.int .i64 S.room) ∧ World.cell? _ ⟨d, 2, none⟩ = some (.int .i64 S.used) from ⟨(h.below (Below.refl _ _).drew).cells.1, (h.below (Below.refl _ _).drew).cells.2.2.1⟩)
  have HL0 := Lib.hid (fun W (hW : World.cell? W ⟨d, 0, none⟩ = some (.int .i64 S.room) ∧ World.cell? W ⟨d, 2, none⟩ = some (.int .i64 S.used)) => run_cell_i W ⟨d, 0, none⟩ _ hW.1)
  have HL2 := Lib.hid (fun W (hW : World.cell? W ⟨d, 0, none⟩ = some (.int .i64 S.room) ∧ World.cell? W ⟨d, 2, none⟩ = some (.int .i64 S.used)) => run_cell_i W ⟨d, 2, none⟩ _ hW.2)
  refine anyH_begin (S := fun W => W.cell? ⟨d, 0, none⟩ = some (.int .i64 S.room) ∧ W.cell? ⟨d, 2, none⟩ = some (.int .i64 S.used)) (by kernel_rfl) ?_
  refine anyH_pureG 0 (d := 25) (op := .move (.tmp 2)) (gd := none) (.slice pa n c) (by rfl) (fun o ho => wanted_plain ho _) (by kernel_rfl) (by kernel_rfl) (by kernel_rfl) (fun _ _ _ h => h) (fun o ho W hW => by unfold execOp; simp only [ho]; go_simp) HS.out ?_
  simp only [Act.put, List.setIfInBounds_toArray, List.set_cons_zero, List.set_cons_succ]
  refine anyH_pureG 1 (d := 26) (op := .call { callee := .builtin .len, args := #[(.tmp 25)], argTypes := #[41] }) (gd := none) (.int .i64 (n : Int)) (by rfl) (fun o ho => wanted_plain ho _) (by kernel_rfl) (by kernel_rfl) (by kernel_rfl) (fun _ _ _ h => h) (fun o ho W hW => by unfold execOp; simp only [ho]; go_simp) HS.out ?_
  simp only [Act.put, List.setIfInBounds_toArray, List.set_cons_zero, List.set_cons_succ]
  refine anyH_pureG 2 (d := 27) (op := .move (.tmp 0)) (gd := none) (.pointer (some ⟨d, 0, none⟩)) (by rfl) (fun o ho => wanted_plain ho _) (by kernel_rfl) (by kernel_rfl) (by kernel_rfl) (fun _ _ _ h => h) (fun o ho W hW => by unfold execOp; simp only [ho]; go_simp) HS.out ?_
  simp only [Act.put, List.setIfInBounds_toArray, List.set_cons_zero, List.set_cons_succ]
  refine anyH_pureG 3 (d := 28) (op := .nilCheck (.tmp 27)) (gd := none) (.pointer (some ⟨d, 0, none⟩)) (by rfl) (fun o ho => wanted_plain ho _) (by kernel_rfl) (by kernel_rfl) (by kernel_rfl) (fun _ _ _ h => h) (fun o ho W hW => by unfold execOp; simp only [ho]; go_simp) HS.out ?_
  simp only [Act.put, List.setIfInBounds_toArray, List.set_cons_zero, List.set_cons_succ]
  refine anyH_pureG 4 (d := 29) (op := .fieldAddr 53 (.tmp 28) 0) (gd := none) (.pointer (some ⟨d, 0, none⟩)) (by rfl) (fun o ho => wanted_plain ho _) (by kernel_rfl) (by kernel_rfl) (by kernel_rfl) (fun _ _ _ h => h) (fun o ho W hW => by unfold execOp; simp only [ho]; go_simp) HS.out ?_
  simp only [Act.put, List.setIfInBounds_toArray, List.set_cons_zero, List.set_cons_succ]
  refine anyH_loadG 5 (d := 30) (ty := 3) (x := (.tmp 29)) (gd := none) (p := .pointer (some ⟨d, 0, none⟩)) (.int .i64 S.room) (by rfl) (fun o ho => wanted_plain ho _) (by kernel_rfl) (by kernel_rfl) (by kernel_rfl) (fun _ _ _ h => h) (by rfl) HL0.out HS.out ?_
  simp only [Act.put, List.setIfInBounds_toArray, List.set_cons_zero, List.set_cons_succ]
  refine anyH_pureG 6 (d := 31) (op := .move (.tmp 0)) (gd := none) (.pointer (some ⟨d, 0, none⟩)) (by rfl) (fun o ho => wanted_plain ho _) (by kernel_rfl) (by kernel_rfl) (by kernel_rfl) (fun _ _ _ h => h) (fun o ho W hW => by unfold execOp; simp only [ho]; go_simp) HS.out ?_
  simp only [Act.put, List.setIfInBounds_toArray, List.set_cons_zero, List.set_cons_succ]
  refine anyH_pureG 7 (d := 32) (op := .nilCheck (.tmp 31)) (gd := none) (.pointer (some ⟨d, 0, none⟩)) (by rfl) (fun o ho => wanted_plain ho _) (by kernel_rfl) (by kernel_rfl) (by kernel_rfl) (fun _ _ _ h => h) (fun o ho W hW => by unfold execOp; simp only [ho]; go_simp) HS.out ?_
  simp only [Act.put, List.setIfInBounds_toArray, List.set_cons_zero, List.set_cons_succ]
  refine anyH_pureG 8 (d := 33) (op := .fieldAddr 53 (.tmp 32) 2) (gd := none) (.pointer (some ⟨d, 2, none⟩)) (by rfl) (fun o ho => wanted_plain ho _) (by kernel_rfl) (by kernel_rfl) (by kernel_rfl) (fun _ _ _ h => h) (fun o ho W hW => by unfold execOp; simp only [ho]; go_simp) HS.out ?_
  simp only [Act.put, List.setIfInBounds_toArray, List.set_cons_zero, List.set_cons_succ]
  refine anyH_loadG 9 (d := 34) (ty := 3) (x := (.tmp 33)) (gd := none) (p := .pointer (some ⟨d, 2, none⟩)) (.int .i64 S.used) (by rfl) (fun o ho => wanted_plain ho _) (by kernel_rfl) (by kernel_rfl) (by kernel_rfl) (fun _ _ _ h => h) (by rfl) HL2.out HS.out ?_
  simp only [Act.put, List.setIfInBounds_toArray, List.set_cons_zero, List.set_cons_succ]
  refine anyH_pureG 10 (d := 35) (op := .binOp .sub 3 (.tmp 30) (.tmp 34) 3) (gd := none) (.int .i64 (wrap64 (S.room - S.used))) (by rfl) (fun o ho => wanted_plain ho _) (by kernel_rfl) (by kernel_rfl) (by kernel_rfl) (fun _ _ _ h => h) (fun o ho W hW => by unfold execOp; simp only [ho]; go_simp; rw [IntKind.wrap_i64]; unfold wrap64; rfl) HS.out ?_
  simp only [Act.put, List.setIfInBounds_toArray, List.set_cons_zero, List.set_cons_succ]
  refine anyH_pureG 11 (d := 36) (op := .binOp .gtr 3 (.tmp 26) (.tmp 35) 3) (gd := none) (.bool false) (by rfl) (fun o ho => wanted_plain ho _) (by kernel_rfl) (by kernel_rfl) (by kernel_rfl) (fun _ _ _ h => h) (fun o ho W hW => by unfold execOp; simp only [ho]; go_simp; try exact hfit) HS.out ?_
  simp only [Act.put, List.setIfInBounds_toArray, List.set_cons_zero, List.set_cons_succ]
  refine anyH_pureG 12 (d := 24) (op := .assign (.tmp 36)) (gd := none) (.bool false) (by rfl) (fun o ho => wanted_plain ho _) (by kernel_rfl) (by kernel_rfl) (by kernel_rfl) (fun _ _ _ h => h) (fun o ho W hW => by unfold execOp; simp only [ho]; go_simp) HS.out ?_
  simp only [Act.put, List.setIfInBounds_toArray, List.set_cons_zero, List.set_cons_succ]
  refine wpAnyH_done (by kernel_rfl) ?_ _
  clear HS HL0 HL2 hfit
  go_wp2_with fail
  refine HST.out.mono ?_
  rintro e3 w3 ⟨rfl, hk3, hm3⟩
  have HM3 := Lib.hid ((Mov.ofBelow (Below.refl _ _).drew).trans hm3)
  have HK3 := Lib.hid hk3
  clear h hk3 hm3 HST HF
  go_wp2_with fail
  go_ret
  exact ⟨rfl, HK3.out, HM3.out⟩
set_option maxRecDepth 100000 in
set_option maxHeartbeats 8000000 in
theorem dread_no {B d : Nat} {S : Dsk} {w : World} (h : DK B d S w) (s : ByteArray) (hs : s.size ≤ maxLen) (x n : Int) (hn : (S.find s).2 ≠ 0) : Calls Try.prog 46 #[.pointer (some ⟨d, 0, none⟩), .string s, .int .i64 x, .int .i64 n] w fun e w' => e = .returned (.tuple #[.slice none 0 0, .int .i64 (S.find s).2]) ∧ w' = w := by
  have HF := Lib.hid (dfind_c h s hs)
  have hn' : ((S.find s).2 == 0) = false := beq_eq_false_iff_ne.2 hn
  clear h
  obtain ⟨k, hx⟩ : ∃ k, k = (S.find s).2 := ⟨_, rfl⟩
  obtain ⟨y, hy⟩ : ∃ y, y = ptrOf (S.find s).1 := ⟨_, rfl⟩
  rw [← hx] at HF hn hn' ⊢
  rw [← hy] at HF
  clear hx
  have hy' : ∃ z, y = .pointer z := ⟨_, hy⟩
  obtain ⟨z, rfl⟩ := hy'
  clear hy
  go_enter Try.func46, Try.ntmps46
  go_wp2_with fail
  refine HF.out.mono ?_
  rintro e1 w1 ⟨rfl, rfl⟩
  go_wp2_with fail
  go_ret2
  exact ⟨rfl, rfl⟩
set_option maxRecDepth 100000 in
set_option maxHeartbeats 8000000 in
theorem dread_bad {B d : Nat} {S : Dsk} {w : World} (h : DK B d S w) (s : ByteArray) (hs : s.size ≤ maxLen) (x n : Int) (hd : S.down = false) {b : Nat} (ha : S.at s = some b) (hb : x < 0 ∨ n < 0) : Calls Try.prog 46 #[.pointer (some ⟨d, 0, none⟩), .string s, .int .i64 x, .int .i64 n] w fun e w' => e = .returned (.tuple #[.slice none 0 0, .int .i64 1]) ∧ w' = w := by
  have HF := Lib.hid (dfind_c h s hs)
  rw [show S.find s = (some b, 0) from by unfold Dsk.find; rw [hd, ha]; rfl] at HF
  simp only [ptrOf, Option.map_some] at HF
  clear h
  by_cases i1 : x < 0
  · clear hb
    go_enter Try.func46, Try.ntmps46
    go_wp2_with fail
    refine HF.out.mono ?_
    rintro e1 w1 ⟨rfl, rfl⟩
    go_wp2_with fail
    go_ret2
    exact ⟨rfl, rfl⟩
  · have i2 : n < 0 := by omega
    clear hb
    go_enter Try.func46, Try.ntmps46
    go_wp2_with fail
    refine HF.out.mono ?_
    rintro e1 w1 ⟨rfl, rfl⟩
    go_wp2_with fail
    go_ret2
    exact ⟨rfl, rfl⟩
theorem Ad.step_no {A : Ad} {c : DCh} {x : Int} (hd : A.down = false) (hm : A.may c = x) (hx : x ≠ 0) : A.step c = (A, x) := by
  unfold Ad.step
  rw [hd, hm, if_pos hx]; rfl
theorem Ad.step_off {A : Ad} {c : DCh} (hd : A.down = false) (hm : A.may c = 0) (hf : A.fuse = 0) : A.step c = (A.off, 5) := by
  unfold Ad.step
  rw [hd, hm, if_neg (by simp), if_pos hf]; rfl
theorem Ad.step_did {A : Ad} {c : DCh} (hd : A.down = false) (hm : A.may c = 0) (hf : A.fuse ≠ 0) : A.step c = (A.did c, 0) := by
  unfold Ad.step
  rw [hd, hm, if_neg (by simp), if_neg hf]; rfl
theorem Ad.step_down {A : Ad} (c : DCh) (hd : A.down = true) : A.step c = (A, 5) := by unfold Ad.step; rw [if_pos hd]
theorem RA.none {N : Nat} {S : Dsk} {A : Ad} (r : RA N S A) {s : ByteArray} (h : S.at s = none) : lookF A.now s = none := by rw [r.look, h]; rfl
theorem RA.has {N : Nat} {S : Dsk} {A : Ad} (r : RA N S A) {s : ByteArray} {b : Nat} {f : Fil} (h : S.at s = some b) (hf : S.fl b = some f) : lookF A.now s = some f.zs := by rw [r.look, h, Option.map_some, Dsk.zs_of hf]
theorem down_cases (A : Ad) : A.down = true ∨ A.down = false := by cases A.down <;> simp
theorem isNm_cases (s : ByteArray) : isNm s = true ∨ isNm s = false := by cases isNm s <;> simp
theorem acreate {B d N : Nat} {S : Dsk} {A : Ad} {w : World} (h : DK B d S w) (r : RA N S A) (s : ByteArray) (hs : s.size ≤ maxLen) (hN : N < 1000000000) : Calls Try.prog 48 #[.pointer (some ⟨d, 0, none⟩), .string s] w fun e w' => e = .returned (.int .i64 (A.step ⟨0, s, ⟨#[]⟩, []⟩).2) ∧ Did B d (N + 3) S w (A.step ⟨0, s, ⟨#[]⟩, []⟩).1 w' := by
  rcases down_cases A with hd | hd
  · rw [Ad.step_down _ hd]
    refine (dcreate_down h s hs (r.down.trans hd)).mono ?_
    rintro e w' ⟨rfl, rfl⟩
    exact ⟨rfl, Did.same h r 3⟩
  have hdS := r.down.trans hd
  have hbig := r.big
  rcases (isNm_cases s).symm with hn | hn
  · rw [Ad.step_no hd (x := 1) (by unfold Ad.may; rw [if_pos rfl, if_pos hn]) (by decide)]
    refine (dcreate_bad h s hs hdS hn).mono ?_
    rintro e w' ⟨rfl, rfl⟩
    exact ⟨rfl, Did.same h r 3⟩
  cases ha : S.at s with
  | some b =>
    obtain ⟨f, hf, hfs⟩ := h.rest.at ha
    rw [Ad.step_no hd (x := 7) (by unfold Ad.may; rw [if_pos rfl, if_neg (by rw [hn]; decide), r.has ha hf]; rfl) (by decide)]
    refine (dcreate_twice h s hs hdS hn ha).mono ?_
    rintro e w' ⟨rfl, rfl⟩
    exact ⟨rfl, Did.same h r 3⟩
  | none =>
    have hlk := r.none ha
    by_cases hz : 4096 ≤ A.now.length
    · rw [Ad.step_no hd (x := 4) (by unfold Ad.may; rw [if_pos rfl, if_neg (by rw [hn]; decide), if_neg (by rw [hlk]; decide), if_pos hz]) (by decide)]
      refine (dcreate_full h s hs hdS hn ha (by rw [r.size]; exact hz)).mono ?_
      rintro e w' ⟨rfl, rfl⟩
      exact ⟨rfl, Did.same h r 3⟩
    have hm : A.may ⟨0, s, ⟨#[]⟩, []⟩ = 0 := by unfold Ad.may; rw [if_pos rfl, if_neg (by rw [hn]; decide), if_neg (by rw [hlk]; decide), if_neg hz]
    by_cases hf : A.fuse = 0
    · rw [Ad.step_off hd hm hf]
      refine (dcreate_power h s hs hdS hn ha (by rw [r.size]; omega) (r.fuse0.2 hf)).mono ?_
      rintro e w' ⟨rfl, k1, k2⟩
      exact ⟨rfl, Did.off k1 r k2 3⟩
    · rw [Ad.step_did hd hm hf]
      have hfS : S.fuse ≠ 0 := fun e => hf (r.fuse0.1 e)
      refine (dcreate_ok h s hs hdS hn ha (by rw [r.size]; omega) hfS (by omega) (by omega)).mono ?_
      rintro e w' ⟨rfl, b, m, v, hb, k1, k2⟩
      exact ⟨rfl, _, k1, r.create h s hn ha hfS b m v hb, k2⟩
theorem find_none {S : Dsk} {s : ByteArray} (hd : S.down = false) (ha : S.at s = none) : S.find s = (none, 6) := by unfold Dsk.find; rw [hd, ha]; rfl
theorem find_down {S : Dsk} {s : ByteArray} (hd : S.down = true) : S.find s = (none, 5) := by unfold Dsk.find; rw [hd]; rfl
theorem aappend {B d N : Nat} {S : Dsk} {A : Ad} {w : World} (h : DK B d S w) (r : RA N S A) (s : ByteArray) (hs : s.size ≤ maxLen) (pa : Option Addr) (n c : Nat) (ps : List Nat) (hr : RdN S d w pa n c ps) (hN : N < 1000000000) : Calls Try.prog 57 #[.pointer (some ⟨d, 0, none⟩), .string s, .slice pa n c] w fun e w' => e = .returned (.int .i64 (A.step ⟨1, s, ⟨#[]⟩, ps⟩).2) ∧ Did B d (N + 3) S w (A.step ⟨1, s, ⟨#[]⟩, ps⟩).1 w' := by
  have hpl : ps.length = n := hr.rd.1
  have hbig := r.big
  rcases down_cases A with hd | hd
  · rw [Ad.step_down _ hd]
    have hf := find_down (s := s) (r.down.trans hd)
    refine (dappend_no h s hs pa n c (by rw [hf]; decide)).mono ?_
    rw [hf]
    rintro e w' ⟨rfl, rfl⟩
    exact ⟨rfl, Did.same h r 3⟩
  have hdS := r.down.trans hd
  cases ha : S.at s with
  | none =>
    rw [Ad.step_no hd (x := 6) (by unfold Ad.may; rw [if_neg (show ¬ (1 : Nat) = 0 by decide), r.none ha]; rfl) (by decide)]
    have hf := find_none hdS ha
    refine (dappend_no h s hs pa n c (by rw [hf]; decide)).mono ?_
    rw [hf]
    rintro e w' ⟨rfl, rfl⟩
    exact ⟨rfl, Did.same h r 3⟩
  | some b =>
    obtain ⟨f, hfl, hfs⟩ := h.rest.at ha
    have hlk := r.has ha hfl
    have m0 : A.may ⟨1, s, ⟨#[]⟩, ps⟩ = (if 1048576 < ps.length then 8 else if A.room - (usedF A.now : Int) < (ps.length : Int) then 4 else 0) := by
      unfold Ad.may
      rw [if_neg (show ¬ (1 : Nat) = 0 by decide), if_neg (by rw [hlk]; simp), if_pos rfl]
    by_cases hl : 1048576 < n
    · rw [Ad.step_no hd (x := 8) (by rw [m0, if_pos (by omega)]) (by decide)]
      refine (dappend_long h s hs pa n c hdS ha hl).mono ?_
      rintro e w' ⟨rfl, rfl⟩
      exact ⟨rfl, Did.same h r 3⟩
    have hu := r.uR
    have hr1 := r.r1
    have hr0 := r.r0
    have hw : wrap64 (S.room - S.used) = A.room - (usedF A.now : Int) := by rw [r.room, r.used, wrap64_id (by omega) (by omega)]
    by_cases hc : A.room - (usedF A.now : Int) < (n : Int)
    · rw [Ad.step_no hd (x := 4) (by rw [m0, if_neg (by omega), if_pos (by omega)]) (by decide)]
      refine (dappend_full h s hs pa n c hdS ha (by omega) (by rw [hw]; exact hc)).mono ?_
      rintro e w' ⟨rfl, hb⟩
      exact ⟨rfl, S, h.below hb, r.mono (by omega), Mov.ofBelow hb⟩
    have hm : A.may ⟨1, s, ⟨#[]⟩, ps⟩ = 0 := by rw [m0, if_neg (by omega), if_neg (by omega)]
    by_cases hf : A.fuse = 0
    · rw [Ad.step_off hd hm hf]
      refine (dappend_power h s hs pa n c hdS ha (by omega) (by rw [hw]; exact hc) (r.fuse0.2 hf)).mono ?_
      rintro e w' ⟨rfl, k1, k2⟩
      exact ⟨rfl, Did.off k1 r k2 3⟩
    · rw [Ad.step_did hd hm hf]
      have hfS : S.fuse ≠ 0 := fun e => hf (r.fuse0.1 e)
      refine (dappend_ok h s hs pa n c ps hdS ha hfl (by omega) (by rw [hw]; exact hc) hfS (by omega) (by have := r.zsl b f hfl; omega) hr).mono ?_
      rintro e w' ⟨rfl, v, v', k1, k2⟩
      exact ⟨rfl, _, k1, r.append s ha hfl ps (by omega) (by omega) hfS v v', k2⟩
theorem aremove {B d N : Nat} {S : Dsk} {A : Ad} {w : World} (h : DK B d S w) (r : RA N S A) (s : ByteArray) (hs : s.size ≤ maxLen) (hN : N < 1000000000) : Calls Try.prog 93 #[.pointer (some ⟨d, 0, none⟩), .string s] w fun e w' => e = .returned (.int .i64 (A.step ⟨2, s, ⟨#[]⟩, []⟩).2) ∧ Did B d (N + 3) S w (A.step ⟨2, s, ⟨#[]⟩, []⟩).1 w' := by
  have hbig := r.big
  rcases down_cases A with hd | hd
  · rw [Ad.step_down _ hd]
    have hf := find_down (s := s) (r.down.trans hd)
    refine (dremove_no h s hs (by rw [hf]; decide)).mono ?_
    rw [hf]
    rintro e w' ⟨rfl, rfl⟩
    exact ⟨rfl, Did.same h r 3⟩
  have hdS := r.down.trans hd
  cases ha : S.at s with
  | none =>
    rw [Ad.step_no hd (x := 6) (by unfold Ad.may; rw [if_neg (show ¬ (2 : Nat) = 0 by decide), r.none ha]; rfl) (by decide)]
    have hf := find_none hdS ha
    refine (dremove_no h s hs (by rw [hf]; decide)).mono ?_
    rw [hf]
    rintro e w' ⟨rfl, rfl⟩
    exact ⟨rfl, Did.same h r 3⟩
  | some b =>
    obtain ⟨f, hfl, hfs⟩ := h.rest.at ha
    have hlk := r.has ha hfl
    have hm : A.may ⟨2, s, ⟨#[]⟩, []⟩ = 0 := by
      unfold Ad.may
      rw [if_neg (show ¬ (2 : Nat) = 0 by decide), if_neg (by rw [hlk]; simp), if_neg (show ¬ (2 : Nat) = 1 by decide), if_neg (fun k => absurd k.1 (show ¬ (2 : Nat) = 3 by decide))]
    by_cases hf : A.fuse = 0
    · rw [Ad.step_off hd hm hf]
      refine (dremove_power h s hs hdS ha (r.fuse0.2 hf)).mono ?_
      rintro e w' ⟨rfl, k1, k2⟩
      exact ⟨rfl, Did.off k1 r k2 3⟩
    · rw [Ad.step_did hd hm hf]
      have hfS : S.fuse ≠ 0 := fun e => hf (r.fuse0.1 e)
      refine (dremove_ok h s hs hdS ha hfl hfS (by omega)).mono ?_
      rintro e w' ⟨rfl, v, k1, k2⟩
      exact ⟨rfl, _, k1, r.remove s ha hfl hfs hfS v, k2⟩
theorem arename {B d N : Nat} {S : Dsk} {A : Ad} {w : World} (h : DK B d S w) (r : RA N S A) (s t : ByteArray) (hs : s.size ≤ maxLen) (ht : t.size ≤ maxLen) (hN : N < 1000000000) : Calls Try.prog 80 #[.pointer (some ⟨d, 0, none⟩), .string s, .string t] w fun e w' => e = .returned (.int .i64 (A.step ⟨3, s, t, []⟩).2) ∧ Did B d (N + 3) S w (A.step ⟨3, s, t, []⟩).1 w' := by
  have hbig := r.big
  rcases down_cases A with hd | hd
  · rw [Ad.step_down _ hd]
    have hf := find_down (s := s) (r.down.trans hd)
    refine (drename_no h s t hs ht (by rw [hf]; decide)).mono ?_
    rw [hf]
    rintro e w' ⟨rfl, rfl⟩
    exact ⟨rfl, Did.same h r 3⟩
  have hdS := r.down.trans hd
  cases ha : S.at s with
  | none =>
    rw [Ad.step_no hd (x := 6) (by unfold Ad.may; rw [if_neg (show ¬ (3 : Nat) = 0 by decide), r.none ha]; rfl) (by decide)]
    have hf := find_none hdS ha
    refine (drename_no h s t hs ht (by rw [hf]; decide)).mono ?_
    rw [hf]
    rintro e w' ⟨rfl, rfl⟩
    exact ⟨rfl, Did.same h r 3⟩
  | some b =>
    obtain ⟨f, hfl, hfs⟩ := h.rest.at ha
    have hlk := r.has ha hfl
    have m0 : A.may ⟨3, s, t, []⟩ = (if (3 : Nat) = 3 ∧ isNm t = false then 1 else 0) := by
      unfold Ad.may
      rw [if_neg (show ¬ (3 : Nat) = 0 by decide), if_neg (by rw [hlk]; simp), if_neg (show ¬ (3 : Nat) = 1 by decide)]
    rcases (isNm_cases t).symm with hn | hn
    · rw [Ad.step_no hd (x := 1) (by rw [m0, if_pos ⟨rfl, hn⟩]) (by decide)]
      refine (drename_bad h s t hs ht hdS ha hn).mono ?_
      rintro e w' ⟨rfl, rfl⟩
      exact ⟨rfl, Did.same h r 3⟩
    have hm : A.may ⟨3, s, t, []⟩ = 0 := by rw [m0, if_neg (fun k => by rw [hn] at k; exact absurd k.2 (by decide))]
    by_cases hf : A.fuse = 0
    · rw [Ad.step_off hd hm hf]
      refine (drename_power h s t hs ht hdS ha hn (r.fuse0.2 hf)).mono ?_
      rintro e w' ⟨rfl, k1, k2⟩
      exact ⟨rfl, Did.off k1 r k2 3⟩
    · rw [Ad.step_did hd hm hf]
      have hfS : S.fuse ≠ 0 := fun e => hf (r.fuse0.1 e)
      cases hx : (S.drop f).at t with
      | none =>
        refine (drename_ok h s t hs ht hdS ha hfl hn hfS (by omega) (by omega) hx).mono ?_
        rintro e w' ⟨rfl, m, v, k1, k2⟩
        exact ⟨rfl, _, k1, r.rename s t hn ha hfl hfs hfS _ _ m v (.inl ⟨rfl, rfl, hx⟩), k2⟩
      | some x =>
        have hx' : S.at t = some x := by
          rw [at_drop] at hx
          split at hx
          · cases hx
          · exact hx
        obtain ⟨g, hg, hgn⟩ := h.rest.at hx'
        refine (drename_over h s t hs ht hdS ha hfl hn hfS (by omega) (by omega) hx hg).mono ?_
        rintro e w' ⟨rfl, m, v, k1, k2⟩
        exact ⟨rfl, _, k1, r.rename s t hn ha hfl hfs hfS _ _ m v (.inr ⟨x, g, rfl, rfl, hx, hg, hgn⟩), k2⟩
theorem async {B d N : Nat} {S : Dsk} {A : Ad} {w : World} (h : DK B d S w) (r : RA N S A) : Calls Try.prog 50 #[.pointer (some ⟨d, 0, none⟩)] w fun e w' => e = .returned (.int .i64 A.sync.2) ∧ Did B d N S w A.sync.1 w' := by
  rcases down_cases A with hd | hd
  · rw [show A.sync = (A, 5) by unfold Ad.sync; rw [if_pos hd]]
    refine (dsync_down h (r.down.trans hd)).mono ?_
    rintro e w' ⟨rfl, rfl⟩
    exact ⟨rfl, Did.same h r 0⟩
  have hdS := r.down.trans hd
  by_cases hf : A.fuse = 0
  · rw [show A.sync = (A.off, 5) by unfold Ad.sync; rw [hd, if_pos hf]; rfl]
    refine (dsync_power h hdS (r.fuse0.2 hf)).mono ?_
    rintro e w' ⟨rfl, k1, k2⟩
    exact ⟨rfl, Did.off k1 r k2 0⟩
  · rw [show A.sync = ({ A.spent with sure := A.now, loose := [] }, 0) by unfold Ad.sync; rw [hd, if_neg hf]; rfl]
    have hfS : S.fuse ≠ 0 := fun e => hf (r.fuse0.1 e)
    refine (dsync_ok h hdS hfS).mono ?_
    rintro e w' ⟨rfl, k1, k2⟩
    exact ⟨rfl, _, k1, r.sync hfS, k2⟩
def Ad.fused (A : Ad) (n : Int) : Ad × Int := if A.down then (A, 5) else ({ A with fuse := max n (-1) }, 0)
theorem RA.loose {N : Nat} {S : Dsk} {A : Ad} (r : RA N S A) : S.loose.length = A.loose.length := by
  have := r.chn.len
  rwa [List.length_reverse, List.length_reverse] at this
theorem anewS (room : Int) (h0 : 0 ≤ room) (h1 : room ≤ 67108864) : RA 0 (newS room) ⟨room, -1, false, [], [], []⟩ :=
  ⟨rfl, h0, h1, rfl, by show (-1 : Int) ≤ _; omega, rfl, rfl, rfl, ⟨tidy_empty, fun s => rfl⟩, .nil ⟨fun s => rfl, fun s b h => (by cases h), List.Pairwise.nil⟩ (by show (0 : Nat) ≤ _; omega), by show 0 + 2 * 0 ≤ 0; omega, fun b f h => (by cases h), fun c h => (by cases h), fun b f h => (by cases h)⟩
end Go.Proofs.Ytihbgigledmliaa
