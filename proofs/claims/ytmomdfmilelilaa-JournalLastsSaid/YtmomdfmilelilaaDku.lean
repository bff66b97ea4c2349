/-
  A disk in memory: undo.
-/
import Derived.Test.YtmomdfmilelilaaDkr
import Derived.Test.YtmomdfmilelilaaDkx
namespace Go.Proofs.Ytmomdfmilelilaa
open Go.RowKit Go.Maps
set_option linter.unusedVariables false
theorem Own.cutTo {w : World} {B len cap k : Nat} {a : Option Addr} {zs : List Nat} (h : Own w B (.slice a len cap) zs) (hl : zs.length = len) (hk : k ≤ len) : Own w B (.slice a k cap) (zs.take k) := by
  have hkl : (zs.take k).length = k := by rw [List.length_take]; omega
  refine ⟨by rw [cellsOf_length, Nat.mul_one], ?_⟩
  rw [hkl]
  rcases h.2 with ⟨h1, h2⟩ | ⟨g, c, cur, h1, h2, h3, h4, h5, h6, h7⟩
  · obtain ⟨e1, e2, e3⟩ := Value.slice.inj h1
    subst e1 e2 e3
    exact .inl ⟨by rw [show k = 0 by omega], by omega⟩
  · obtain ⟨e1, e2, e3⟩ := Value.slice.inj h1
    subst e1 e3
    refine .inr ⟨g, cap, cur, rfl, h2, h3, by omega, h5, h6, ?_⟩
    rw [Nat.mul_one] at h7 ⊢
    rw [show cellsOf (zs.take k) = (cellsOf zs).take k by unfold cellsOf; rw [List.map_take], ← h7, List.take_take, Nat.min_eq_left (by omega)]
/-- what undo of an Append leaves: k of the file's bytes -/
def Dsk.cutf (S : Dsk) (b : Nat) (f : Fil) (v : Value) (k : Nat) : Dsk := { (S.file b ⟨f.nm, v, f.zs.take k⟩) with used := wrap64 (S.used - ((f.zs.length - k : Nat) : Int)) }
theorem run_cell_pf (W : World) (a : Addr) (v : Option Addr) (hc : W.cell? a = some (.pointer v)) : (Instr.loadAt 88 (.pointer (some a))).run Try.prog W = .ok (.pointer v) W := by go_simp
theorem exec_headD {a : Option Addr} {len cap k : Nat} (hk : k ≤ cap) {A : Act} {x y : Operand} (hx : A.eval x = .slice a len cap) (hy : A.eval y = .int .i64 (k : Int)) (o : Oper) (ho : o.op = .slice 32 x none (some y) none) (W : World) :
    (execOp A.eval o).run Try.prog W = .ok (.value (.slice a k cap)) W := by
  unfold execOp
  simp only [ho, hx, hy, Option.map_none, Option.map_some]
  rw [Sem.run_bind, run_headAt W a len cap k hk]
  rfl
set_option maxRecDepth 100000 in
set_option maxHeartbeats 8000000 in
theorem dundo_app {B d b : Nat} {S : Dsk} {f : Fil} {w : World} (h : DK B d S w) (hf : S.fl b = some f) (z stay : Int) (nm : ByteArray) (rp : Option Addr) (k : Nat) (hz0 : 0 ≤ z) (hs0 : 0 ≤ stay) (hz1 : z ≤ 1000000000000) (hs1 : stay ≤ 1000000000000) (hfz : f.zs.length ≤ 1000000000000) (hk : min (f.zs.length : Int) (z + stay) = (k : Int)) :
    Calls Try.prog 46 #[.pointer (some ⟨d, 0, none⟩), .agg #[.int .i64 1, .pointer (some ⟨b, 0, none⟩), .int .i64 z, .string nm, .pointer rp], .int .i64 stay] w fun e w' => e = .returned (.tuple #[]) ∧ ∃ v, v.ownBlock = f.row.ownBlock ∧ DK B d (S.cutf b f v k) w' ∧ Mov S d (S.cutf b f v k) w w' := by
  obtain ⟨ra, rc, hrow, hrl, -, -⟩ := ((h.rest.hf b f hf).2.2.1).rd (h.rest.hf b f hf).2.2.2
  have hkl : k ≤ f.zs.length := by omega
  have hkr : k ≤ rc := by omega
  obtain ⟨g, hgk⟩ : ∃ g, g = f.zs.length - k := ⟨_, rfl⟩
  have hg : max ((f.zs.length : Int) - z - stay) 0 = (g : Int) := by omega
  have hw1 : IntKind.i64.wrap ((f.zs.length : Int) - z) = (f.zs.length : Int) - z := by rw [IntKind.wrap_i64]; omega
  have hw2 : IntKind.i64.wrap ((f.zs.length : Int) - z - stay) = (f.zs.length : Int) - z - stay := by rw [IntKind.wrap_i64]; omega
  have hw3 : IntKind.i64.wrap ((f.zs.length : Int) - (g : Int)) = (k : Int) := by rw [IntKind.wrap_i64]; omega
  have HGK := Lib.hid hgk
  clear hgk
  obtain ⟨X, hX⟩ : ∃ X, X = w.heap.size := ⟨_, rfl⟩
  have hXb : X ≠ b := by have := (h.rest.kind (.inr (.inl ⟨f, hf⟩))).2.1; omega
  obtain ⟨w1, hw⟩ : ∃ w1, w1 = w.alloc (.cells #[.int .i64 1, .pointer (some ⟨b, 0, none⟩), .int .i64 z, .string nm, .pointer rp] 90) := ⟨_, rfl⟩
  have hh : w1.heap[X]? = some (.cells #[.int .i64 1, .pointer (some ⟨b, 0, none⟩), .int .i64 z, .string nm, .pointer rp] 90 (0, 0)) := by rw [hw, hX]; exact heap_alloc_new w _
  have b0 : w1.cell? ⟨X, 0, none⟩ = some (.int .i64 1) := (cell_of_row w1 X 0 _ _ _ hh).trans rfl
  have b1 : w1.cell? ⟨X, 1, none⟩ = some (.pointer (some ⟨b, 0, none⟩)) := (cell_of_row w1 X 1 _ _ _ hh).trans rfl
  have b2 : w1.cell? ⟨X, 2, none⟩ = some (.int .i64 z) := (cell_of_row w1 X 2 _ _ _ hh).trans rfl
  have hk1 : DK B d S w1 := by rw [hw]; exact h.alloc _
  have HM1 := Lib.hid (show Mov S d S w w1 from by rw [hw]; exact Mov.ofBelow ((Below.refl _ _).alloc (Nat.le_refl _) _))
  have HK1 := Lib.hid hk1
  have HXB := Lib.hid hXb
  have HF := Lib.hid hf
  have HROW := Lib.hid hrow
  clear hh hk1 h hXb hf hrow hk
  go_enter Try.func46, Try.ntmps46
  go_upto_region 1 with fail
  rw [← hX]
  rw [← hw]
  clear hX hw
  go_wp2_with fail
  (try dsimp only [Act.put, List.setIfInBounds_toArray, List.set_cons_zero, List.set_cons_succ])
  have HS := Lib.hid (show World.cell? (World.drew w1) ⟨X, 1, none⟩ = some (.pointer (some ⟨b, 0, none⟩)) ∧ World.cell? (World.drew w1) ⟨X, 2, none⟩ = some (.int .i64 z) ∧ World.cell? (World.drew w1) ⟨b, 1, none⟩ = some (.slice ra f.zs.length rc) from ⟨b1, b2, (HK1.out.rest.fcells HF.out).2.trans (congrArg some HROW.out)⟩)
  have HL1 := Lib.hid (fun W (hW : World.cell? W ⟨X, 1, none⟩ = some (.pointer (some ⟨b, 0, none⟩)) ∧ World.cell? W ⟨X, 2, none⟩ = some (.int .i64 z) ∧ World.cell? W ⟨b, 1, none⟩ = some (.slice ra f.zs.length rc)) => run_cell_pf W ⟨X, 1, none⟩ _ hW.1)
  have HL2 := Lib.hid (fun W (hW : World.cell? W ⟨X, 1, none⟩ = some (.pointer (some ⟨b, 0, none⟩)) ∧ World.cell? W ⟨X, 2, none⟩ = some (.int .i64 z) ∧ World.cell? W ⟨b, 1, none⟩ = some (.slice ra f.zs.length rc)) => run_cell_i W ⟨X, 2, none⟩ _ hW.2.1)
  have HL3 := Lib.hid (fun W (hW : World.cell? W ⟨X, 1, none⟩ = some (.pointer (some ⟨b, 0, none⟩)) ∧ World.cell? W ⟨X, 2, none⟩ = some (.int .i64 z) ∧ World.cell? W ⟨b, 1, none⟩ = some (.slice ra f.zs.length rc)) => run_cell_b W ⟨b, 1, none⟩ ra f.zs.length rc hW.2.2)
  refine anyH_begin (S := fun W => World.cell? W ⟨X, 1, none⟩ = some (.pointer (some ⟨b, 0, none⟩)) ∧ World.cell? W ⟨X, 2, none⟩ = some (.int .i64 z) ∧ World.cell? W ⟨b, 1, none⟩ = some (.slice ra f.zs.length rc)) (by kernel_rfl) ?_
  refine anyH_pureG 0 (d := 17) (op := .fieldAddr 90 (.tmp 4) 1) (gd := none) (.pointer (some ⟨X, 1, none⟩)) (by rfl) (fun o ho => wanted_plain ho _) (by kernel_rfl) (by kernel_rfl) (by kernel_rfl) (fun _ _ _ h => h) (fun o ho W hW => by unfold execOp; simp only [ho]; go_simp) HS.out ?_
  simp only [Act.put, List.setIfInBounds_toArray, List.set_cons_zero, List.set_cons_succ]
  refine anyH_loadG 1 (d := 18) (ty := 88) (x := (.tmp 17)) (gd := none) (p := .pointer (some ⟨X, 1, none⟩)) (.pointer (some ⟨b, 0, none⟩)) (by rfl) (fun o ho => wanted_plain ho _) (by kernel_rfl) (by kernel_rfl) (by kernel_rfl) (fun _ _ _ h => h) (by rfl) HL1.out HS.out ?_
  simp only [Act.put, List.setIfInBounds_toArray, List.set_cons_zero, List.set_cons_succ]
  refine anyH_pureG 2 (d := 19) (op := .nilCheck (.tmp 18)) (gd := none) (.pointer (some ⟨b, 0, none⟩)) (by rfl) (fun o ho => wanted_plain ho _) (by kernel_rfl) (by kernel_rfl) (by kernel_rfl) (fun _ _ _ h => h) (fun o ho W hW => by unfold execOp; simp only [ho]; go_simp) HS.out ?_
  simp only [Act.put, List.setIfInBounds_toArray, List.set_cons_zero, List.set_cons_succ]
  refine anyH_pureG 3 (d := 20) (op := .fieldAddr 125 (.tmp 19) 1) (gd := none) (.pointer (some ⟨b, 1, none⟩)) (by rfl) (fun o ho => wanted_plain ho _) (by kernel_rfl) (by kernel_rfl) (by kernel_rfl) (fun _ _ _ h => h) (fun o ho W hW => by unfold execOp; simp only [ho]; go_simp) HS.out ?_
  simp only [Act.put, List.setIfInBounds_toArray, List.set_cons_zero, List.set_cons_succ]
  refine anyH_loadG 4 (d := 21) (ty := 32) (x := (.tmp 20)) (gd := none) (p := .pointer (some ⟨b, 1, none⟩)) (.slice ra f.zs.length rc) (by rfl) (fun o ho => wanted_plain ho _) (by kernel_rfl) (by kernel_rfl) (by kernel_rfl) (fun _ _ _ h => h) (by rfl) HL3.out HS.out ?_
  simp only [Act.put, List.setIfInBounds_toArray, List.set_cons_zero, List.set_cons_succ]
  refine anyH_pureG 5 (d := 22) (op := .call { callee := .builtin .len, args := #[(.tmp 21)], argTypes := #[32] }) (gd := none) (.int .i64 (f.zs.length : Int)) (by rfl) (fun o ho => wanted_plain ho _) (by kernel_rfl) (by kernel_rfl) (by kernel_rfl) (fun _ _ _ h => h) (fun o ho W hW => by unfold execOp; simp only [ho]; go_simp) HS.out ?_
  simp only [Act.put, List.setIfInBounds_toArray, List.set_cons_zero, List.set_cons_succ]
  refine anyH_pureG 6 (d := 23) (op := .fieldAddr 90 (.tmp 4) 2) (gd := none) (.pointer (some ⟨X, 2, none⟩)) (by rfl) (fun o ho => wanted_plain ho _) (by kernel_rfl) (by kernel_rfl) (by kernel_rfl) (fun _ _ _ h => h) (fun o ho W hW => by unfold execOp; simp only [ho]; go_simp) HS.out ?_
  simp only [Act.put, List.setIfInBounds_toArray, List.set_cons_zero, List.set_cons_succ]
  refine anyH_loadG 7 (d := 24) (ty := 3) (x := (.tmp 23)) (gd := none) (p := .pointer (some ⟨X, 2, none⟩)) (.int .i64 z) (by rfl) (fun o ho => wanted_plain ho _) (by kernel_rfl) (by kernel_rfl) (by kernel_rfl) (fun _ _ _ h => h) (by rfl) HL2.out HS.out ?_
  simp only [Act.put, List.setIfInBounds_toArray, List.set_cons_zero, List.set_cons_succ]
  refine anyH_pureG 8 (d := 25) (op := .binOp .sub 3 (.tmp 22) (.tmp 24) 3) (gd := none) (.int .i64 ((f.zs.length : Int) - z)) (by rfl) (fun o ho => wanted_plain ho _) (by kernel_rfl) (by kernel_rfl) (by kernel_rfl) (fun _ _ _ h => h) (fun o ho W hW => by unfold execOp; simp only [ho]; go_simp; try exact hw1) HS.out ?_
  simp only [Act.put, List.setIfInBounds_toArray, List.set_cons_zero, List.set_cons_succ]
  refine anyH_pureG 9 (d := 26) (op := .move (.tmp 2)) (gd := none) (.int .i64 stay) (by rfl) (fun o ho => wanted_plain ho _) (by kernel_rfl) (by kernel_rfl) (by kernel_rfl) (fun _ _ _ h => h) (fun o ho W hW => by unfold execOp; simp only [ho]; go_simp) HS.out ?_
  simp only [Act.put, List.setIfInBounds_toArray, List.set_cons_zero, List.set_cons_succ]
  refine anyH_pureG 10 (d := 27) (op := .binOp .sub 3 (.tmp 25) (.tmp 26) 3) (gd := none) (.int .i64 ((f.zs.length : Int) - z - stay)) (by rfl) (fun o ho => wanted_plain ho _) (by kernel_rfl) (by kernel_rfl) (by kernel_rfl) (fun _ _ _ h => h) (fun o ho W hW => by unfold execOp; simp only [ho]; go_simp; try exact hw2) HS.out ?_
  simp only [Act.put, List.setIfInBounds_toArray, List.set_cons_zero, List.set_cons_succ]
  refine anyH_pureG 11 (d := 28) (op := .call { callee := .builtin .max, args := #[(.tmp 27), (.const (.int .i64 0))], argTypes := #[3, 3] }) (gd := none) (.int .i64 (g : Int)) (by rfl) (fun o ho => wanted_plain ho _) (by kernel_rfl) (by kernel_rfl) (by kernel_rfl) (fun _ _ _ h => h) (fun o ho W hW => by unfold execOp; simp only [ho]; go_simp; try exact hg) HS.out ?_
  simp only [Act.put, List.setIfInBounds_toArray, List.set_cons_zero, List.set_cons_succ]
  refine anyH_pureG 12 (d := 6) (op := .assign (.tmp 28)) (gd := none) (.int .i64 (g : Int)) (by rfl) (fun o ho => wanted_plain ho _) (by kernel_rfl) (by kernel_rfl) (by kernel_rfl) (fun _ _ _ h => h) (fun o ho W hW => by unfold execOp; simp only [ho]; go_simp) HS.out ?_
  simp only [Act.put, List.setIfInBounds_toArray, List.set_cons_zero, List.set_cons_succ]
  refine wpAnyH_done (by kernel_rfl) ?_ _
  clear HS HL1 HL2 HL3 hg hw1 hw2
  go_wp2_with fail
  (try dsimp only [Act.put, List.setIfInBounds_toArray, List.set_cons_zero, List.set_cons_succ])
  have HK2 := Lib.hid ((HK1.out.below (Below.refl _ _).drew).below (Below.refl _ _).drew)
  have HM2 := Lib.hid ((HM1.out.trans (Mov.ofBelow (S := S) (d := d) (Below.refl _ _).drew)).trans (Mov.ofBelow (S := S) (d := d) (Below.refl _ _).drew))
  have HS := Lib.hid (show World.cell? (World.drew (World.drew w1)) ⟨X, 1, none⟩ = some (.pointer (some ⟨b, 0, none⟩)) from b1)
  have HL1 := Lib.hid (fun W (hW : World.cell? W ⟨X, 1, none⟩ = some (.pointer (some ⟨b, 0, none⟩))) => run_cell_pf W ⟨X, 1, none⟩ _ hW)
  refine anyH_begin (S := fun W => World.cell? W ⟨X, 1, none⟩ = some (.pointer (some ⟨b, 0, none⟩))) (by kernel_rfl) ?_
  obtain ⟨w3, hw3'⟩ : ∃ w3, w3 = w1.drew.drew := ⟨_, rfl⟩
  rw [← hw3'] at HK2 HM2 HS ⊢
  have HLB := Lib.hid (run_cell_b w3 ⟨b, 1, none⟩ ra f.zs.length rc ((HK2.out.rest.fcells HF.out).2.trans (congrArg some HROW.out)))
  obtain ⟨g7, hk7, hm7⟩ := HK2.out.rowSet HF.out (v := .slice ra k rc) (zs' := f.zs.take k) (fun y hy => (HK2.out.rest.hf b f HF.out).2.2.2 y (List.mem_of_mem_take hy)) (by
    have ho := (HK2.out.rest.hf b f HF.out).2.2.1
    rw [HROW.out] at ho
    exact ho.cutTo rfl hkl) ⟨rfl, rfl, rfl, Nat.le_refl _, fun _ _ _ => rfl⟩ (.inl (by rw [HROW.out]; cases ra <;> rfl))
  have HTH := Lib.hid (show w3.there b 1 1 from fun j hj => by
    obtain rfl : j = 0 := by omega
    exact ⟨by rw [Nat.add_zero, g7.1]; rfl, g7.2⟩)
  have HK7 := Lib.hid hk7
  have HM7 := Lib.hid (HM2.out.trans hm7)
  clear hw3' b0 b1 b2 HK1 HM1 HK2 HM2 g7 hk7 hm7
  refine anyH_pureG 0 (d := 29) (op := .fieldAddr 90 (.tmp 4) 1) (gd := none) (.pointer (some ⟨X, 1, none⟩)) (by rfl) (fun o ho => wanted_plain ho _) (by kernel_rfl) (by kernel_rfl) (by kernel_rfl) (fun _ _ _ h => h) (fun o ho W hW => by unfold execOp; simp only [ho]; go_simp) HS.out ?_
  simp only [Act.put, List.setIfInBounds_toArray, List.set_cons_zero, List.set_cons_succ]
  refine anyH_loadG 1 (d := 30) (ty := 88) (x := (.tmp 29)) (gd := none) (p := .pointer (some ⟨X, 1, none⟩)) (.pointer (some ⟨b, 0, none⟩)) (by rfl) (fun o ho => wanted_plain ho _) (by kernel_rfl) (by kernel_rfl) (by kernel_rfl) (fun _ _ _ h => h) (by rfl) HL1.out HS.out ?_
  simp only [Act.put, List.setIfInBounds_toArray, List.set_cons_zero, List.set_cons_succ]
  refine anyH_pureG 2 (d := 31) (op := .fieldAddr 90 (.tmp 4) 1) (gd := none) (.pointer (some ⟨X, 1, none⟩)) (by rfl) (fun o ho => wanted_plain ho _) (by kernel_rfl) (by kernel_rfl) (by kernel_rfl) (fun _ _ _ h => h) (fun o ho W hW => by unfold execOp; simp only [ho]; go_simp) HS.out ?_
  simp only [Act.put, List.setIfInBounds_toArray, List.set_cons_zero, List.set_cons_succ]
  refine anyH_loadG 3 (d := 32) (ty := 88) (x := (.tmp 31)) (gd := none) (p := .pointer (some ⟨X, 1, none⟩)) (.pointer (some ⟨b, 0, none⟩)) (by rfl) (fun o ho => wanted_plain ho _) (by kernel_rfl) (by kernel_rfl) (by kernel_rfl) (fun _ _ _ h => h) (by rfl) HL1.out HS.out ?_
  simp only [Act.put, List.setIfInBounds_toArray, List.set_cons_zero, List.set_cons_succ]
  refine anyH_pureG 4 (d := 33) (op := .nilCheck (.tmp 32)) (gd := none) (.pointer (some ⟨b, 0, none⟩)) (by rfl) (fun o ho => wanted_plain ho _) (by kernel_rfl) (by kernel_rfl) (by kernel_rfl) (fun _ _ _ h => h) (fun o ho W hW => by unfold execOp; simp only [ho]; go_simp) HS.out ?_
  simp only [Act.put, List.setIfInBounds_toArray, List.set_cons_zero, List.set_cons_succ]
  refine anyH_pureG 5 (d := 34) (op := .fieldAddr 125 (.tmp 33) 1) (gd := none) (.pointer (some ⟨b, 1, none⟩)) (by rfl) (fun o ho => wanted_plain ho _) (by kernel_rfl) (by kernel_rfl) (by kernel_rfl) (fun _ _ _ h => h) (fun o ho W hW => by unfold execOp; simp only [ho]; go_simp) HS.out ?_
  simp only [Act.put, List.setIfInBounds_toArray, List.set_cons_zero, List.set_cons_succ]
  refine anyH_pureG 7 (d := 36) (op := .fieldAddr 90 (.tmp 4) 1) (gd := none) (.pointer (some ⟨X, 1, none⟩)) (by rfl) (fun o ho => wanted_plain ho _) (by kernel_rfl) (by kernel_rfl) (by kernel_rfl) (fun _ _ _ h => h) (fun o ho W hW => by unfold execOp; simp only [ho]; go_simp) HS.out ?_
  simp only [Act.put, List.setIfInBounds_toArray, List.set_cons_zero, List.set_cons_succ]
  refine anyH_loadG 8 (d := 37) (ty := 88) (x := (.tmp 36)) (gd := none) (p := .pointer (some ⟨X, 1, none⟩)) (.pointer (some ⟨b, 0, none⟩)) (by rfl) (fun o ho => wanted_plain ho _) (by kernel_rfl) (by kernel_rfl) (by kernel_rfl) (fun _ _ _ h => h) (by rfl) HL1.out HS.out ?_
  simp only [Act.put, List.setIfInBounds_toArray, List.set_cons_zero, List.set_cons_succ]
  refine anyH_pureG 9 (d := 38) (op := .nilCheck (.tmp 37)) (gd := none) (.pointer (some ⟨b, 0, none⟩)) (by rfl) (fun o ho => wanted_plain ho _) (by kernel_rfl) (by kernel_rfl) (by kernel_rfl) (fun _ _ _ h => h) (fun o ho W hW => by unfold execOp; simp only [ho]; go_simp) HS.out ?_
  simp only [Act.put, List.setIfInBounds_toArray, List.set_cons_zero, List.set_cons_succ]
  refine anyH_pureG 10 (d := 39) (op := .fieldAddr 125 (.tmp 38) 1) (gd := none) (.pointer (some ⟨b, 1, none⟩)) (by rfl) (fun o ho => wanted_plain ho _) (by kernel_rfl) (by kernel_rfl) (by kernel_rfl) (fun _ _ _ h => h) (fun o ho W hW => by unfold execOp; simp only [ho]; go_simp) HS.out ?_
  simp only [Act.put, List.setIfInBounds_toArray, List.set_cons_zero, List.set_cons_succ]
  refine anyH_pureG 13 (d := 42) (op := .move (.tmp 6)) (gd := none) (.int .i64 (g : Int)) (by rfl) (fun o ho => wanted_plain ho _) (by kernel_rfl) (by kernel_rfl) (by kernel_rfl) (fun _ _ _ h => h) (fun o ho W hW => by unfold execOp; simp only [ho]; go_simp) HS.out ?_
  simp only [Act.put, List.setIfInBounds_toArray, List.set_cons_zero, List.set_cons_succ]
  refine wpAnyH_all (rs := [6, 11]) (by kernel_rfl) (by simp) ?_
  intro q hq
  simp only [List.mem_cons, List.not_mem_nil, or_false] at hq
  rcases hq with rfl | rfl
  · refine op_atJ 6 (d := some 35) (op := .load 32 (.tmp 34)) (by rfl) ?_
    intro o6 hod6 hoo6
    refine wp_load_g 32 (.tmp 34) hoo6 (.pointer (some ⟨b, 1, none⟩)) (.slice ra f.zs.length rc) (by rfl) HLB.out ?_
    rw [hod6]
    clear hod6 hoo6
    simp only [Act.put, List.setIfInBounds_toArray, List.set_cons_zero, List.set_cons_succ]
    refine ⟨HS.out, ?_⟩
    refine wpAnyH_all (rs := [11]) (by kernel_rfl) (by simp) ?_
    intro k hk; simp only [List.mem_cons, List.not_mem_nil, or_false] at hk; subst hk
    refine op_atJ 11 (d := some 40) (op := .load 32 (.tmp 39)) (by rfl) ?_
    intro o11 hod11 hoo11
    refine wp_load_g 32 (.tmp 39) hoo11 (.pointer (some ⟨b, 1, none⟩)) (.slice ra f.zs.length rc) (by rfl) HLB.out ?_
    rw [hod11]
    clear hod11 hoo11
    simp only [Act.put, List.setIfInBounds_toArray, List.set_cons_zero, List.set_cons_succ]
    refine ⟨HS.out, ?_⟩
    refine anyH_pureG 12 (d := 41) (op := .call { callee := .builtin .len, args := #[(.tmp 40)], argTypes := #[32] }) (gd := none) (.int .i64 (f.zs.length : Int)) (by rfl) (fun o ho => wanted_plain ho _) (by kernel_rfl) (by kernel_rfl) (by kernel_rfl) (fun _ _ _ h => h) (fun o ho W hW => by unfold execOp; simp only [ho]; go_simp) HS.out ?_
    simp only [Act.put, List.setIfInBounds_toArray, List.set_cons_zero, List.set_cons_succ]
    refine anyH_pureG 14 (d := 43) (op := .binOp .sub 3 (.tmp 41) (.tmp 42) 3) (gd := none) (.int .i64 (k : Int)) (by rfl) (fun o ho => wanted_plain ho _) (by kernel_rfl) (by kernel_rfl) (by kernel_rfl) (fun _ _ _ h => h) (fun o ho W hW => by unfold execOp; simp only [ho]; go_simp; try exact hw3) HS.out ?_
    simp only [Act.put, List.setIfInBounds_toArray, List.set_cons_zero, List.set_cons_succ]
    refine anyH_pureG 15 (d := 44) (op := .slice 32 (.tmp 35) none (some (.tmp 43)) none) (gd := none) (.slice ra k rc) (by rfl) (fun o ho => wanted_plain ho _) (by kernel_rfl) (by kernel_rfl) (by kernel_rfl) (fun _ _ _ h => h) (fun o ho W hW => exec_headD (x := .tmp 35) (y := .tmp 43) hkr (by rfl) (by rfl) o ho W) HS.out ?_
    simp only [Act.put, List.setIfInBounds_toArray, List.set_cons_zero, List.set_cons_succ]
    refine anyH_pureG 16 (d := 45) (op := .nilCheck (.tmp 30)) (gd := none) (.pointer (some ⟨b, 0, none⟩)) (by rfl) (fun o ho => wanted_plain ho _) (by kernel_rfl) (by kernel_rfl) (by kernel_rfl) (fun _ _ _ h => h) (fun o ho W hW => by unfold execOp; simp only [ho]; go_simp) HS.out ?_
    simp only [Act.put, List.setIfInBounds_toArray, List.set_cons_zero, List.set_cons_succ]
    refine anyH_pureG 17 (d := 46) (op := .fieldAddr 125 (.tmp 45) 1) (gd := none) (.pointer (some ⟨b, 1, none⟩)) (by rfl) (fun o ho => wanted_plain ho _) (by kernel_rfl) (by kernel_rfl) (by kernel_rfl) (fun _ _ _ h => h) (fun o ho W hW => by unfold execOp; simp only [ho]; go_simp) HS.out ?_
    simp only [Act.put, List.setIfInBounds_toArray, List.set_cons_zero, List.set_cons_succ]
    refine wpAnyH_all (rs := [18]) (by kernel_rfl) (by simp) ?_
    intro k hk; simp only [List.mem_cons, List.not_mem_nil, or_false] at hk; subst hk
    refine op_atJ 18 (d := none) (op := .store 32 (.tmp 46) (.tmp 44)) (by rfl) ?_
    intro o0 hod hoo
    refine wp_store_one 32 (.tmp 46) (.tmp 44) hoo b 1 (.slice ra k rc) (by rfl) (by rfl) HTH.out (by kernel_rfl) (by rfl) (by rfl) ?_
    rw [hod]
    clear hod hoo
    simp only [Act.put, List.setIfInBounds_toArray, List.set_cons_zero, List.set_cons_succ]
    refine ⟨(World.cell?_setCell_other _ _ _ _ (by intro e; cases e; exact HXB.out rfl)).trans HS.out, ?_⟩
    refine wpAnyH_done (by kernel_rfl) ?_ _
    clear HS HLB HTH HL1
    obtain ⟨w8, hw8⟩ : ∃ w8, w8 = w3.setCells b 1 [.slice ra k rc] := ⟨_, rfl⟩
    have HK8 := Lib.hid (show DK B d (S.file b ⟨f.nm, .slice ra k rc, f.zs.take k⟩) w8 from by rw [hw8]; exact HK7.out)
    have HM8 := Lib.hid (show Mov S d (S.file b ⟨f.nm, .slice ra k rc, f.zs.take k⟩) _ w8 from by rw [hw8]; exact HM7.out)
    have c2 := HK8.out.cells.2.2.1
    have f2 := frozen_of_row _ d 2 _ _ HK8.out.hd
    rw [← hw8]
    clear hw8 HK7 HM7
    go_wp2_with fail
    go_end0
    obtain ⟨h8, h9, _⟩ := HK8.out.cellSet 2 (.int .i64 (wrap64 (S.used - (g : Int)))) { (S.file b ⟨f.nm, .slice ra k rc, f.zs.take k⟩) with used := wrap64 (S.used - (g : Int)) } rfl (by omega) rfl ⟨rfl, rfl, rfl⟩
    rw [HGK.out] at h8 h9 ⊢
    exact ⟨rfl, _, by rw [HROW.out]; cases ra <;> rfl, h8, HM8.out.trans h9⟩
  · refine op_atJ 11 (d := some 40) (op := .load 32 (.tmp 39)) (by rfl) ?_
    intro o11 hod11 hoo11
    refine wp_load_g 32 (.tmp 39) hoo11 (.pointer (some ⟨b, 1, none⟩)) (.slice ra f.zs.length rc) (by rfl) HLB.out ?_
    rw [hod11]
    clear hod11 hoo11
    simp only [Act.put, List.setIfInBounds_toArray, List.set_cons_zero, List.set_cons_succ]
    refine ⟨HS.out, ?_⟩
    refine anyH_pureG 12 (d := 41) (op := .call { callee := .builtin .len, args := #[(.tmp 40)], argTypes := #[32] }) (gd := none) (.int .i64 (f.zs.length : Int)) (by rfl) (fun o ho => wanted_plain ho _) (by kernel_rfl) (by kernel_rfl) (by kernel_rfl) (fun _ _ _ h => h) (fun o ho W hW => by unfold execOp; simp only [ho]; go_simp) HS.out ?_
    simp only [Act.put, List.setIfInBounds_toArray, List.set_cons_zero, List.set_cons_succ]
    refine anyH_pureG 14 (d := 43) (op := .binOp .sub 3 (.tmp 41) (.tmp 42) 3) (gd := none) (.int .i64 (k : Int)) (by rfl) (fun o ho => wanted_plain ho _) (by kernel_rfl) (by kernel_rfl) (by kernel_rfl) (fun _ _ _ h => h) (fun o ho W hW => by unfold execOp; simp only [ho]; go_simp; try exact hw3) HS.out ?_
    simp only [Act.put, List.setIfInBounds_toArray, List.set_cons_zero, List.set_cons_succ]
    refine wpAnyH_all (rs := [6]) (by kernel_rfl) (by simp) ?_
    intro k hk; simp only [List.mem_cons, List.not_mem_nil, or_false] at hk; subst hk
    refine op_atJ 6 (d := some 35) (op := .load 32 (.tmp 34)) (by rfl) ?_
    intro o6 hod6 hoo6
    refine wp_load_g 32 (.tmp 34) hoo6 (.pointer (some ⟨b, 1, none⟩)) (.slice ra f.zs.length rc) (by rfl) HLB.out ?_
    rw [hod6]
    clear hod6 hoo6
    simp only [Act.put, List.setIfInBounds_toArray, List.set_cons_zero, List.set_cons_succ]
    refine ⟨HS.out, ?_⟩
    refine anyH_pureG 15 (d := 44) (op := .slice 32 (.tmp 35) none (some (.tmp 43)) none) (gd := none) (.slice ra k rc) (by rfl) (fun o ho => wanted_plain ho _) (by kernel_rfl) (by kernel_rfl) (by kernel_rfl) (fun _ _ _ h => h) (fun o ho W hW => exec_headD (x := .tmp 35) (y := .tmp 43) hkr (by rfl) (by rfl) o ho W) HS.out ?_
    simp only [Act.put, List.setIfInBounds_toArray, List.set_cons_zero, List.set_cons_succ]
    refine anyH_pureG 16 (d := 45) (op := .nilCheck (.tmp 30)) (gd := none) (.pointer (some ⟨b, 0, none⟩)) (by rfl) (fun o ho => wanted_plain ho _) (by kernel_rfl) (by kernel_rfl) (by kernel_rfl) (fun _ _ _ h => h) (fun o ho W hW => by unfold execOp; simp only [ho]; go_simp) HS.out ?_
    simp only [Act.put, List.setIfInBounds_toArray, List.set_cons_zero, List.set_cons_succ]
    refine anyH_pureG 17 (d := 46) (op := .fieldAddr 125 (.tmp 45) 1) (gd := none) (.pointer (some ⟨b, 1, none⟩)) (by rfl) (fun o ho => wanted_plain ho _) (by kernel_rfl) (by kernel_rfl) (by kernel_rfl) (fun _ _ _ h => h) (fun o ho W hW => by unfold execOp; simp only [ho]; go_simp) HS.out ?_
    simp only [Act.put, List.setIfInBounds_toArray, List.set_cons_zero, List.set_cons_succ]
    refine wpAnyH_all (rs := [18]) (by kernel_rfl) (by simp) ?_
    intro k hk; simp only [List.mem_cons, List.not_mem_nil, or_false] at hk; subst hk
    refine op_atJ 18 (d := none) (op := .store 32 (.tmp 46) (.tmp 44)) (by rfl) ?_
    intro o0 hod hoo
    refine wp_store_one 32 (.tmp 46) (.tmp 44) hoo b 1 (.slice ra k rc) (by rfl) (by rfl) HTH.out (by kernel_rfl) (by rfl) (by rfl) ?_
    rw [hod]
    clear hod hoo
    simp only [Act.put, List.setIfInBounds_toArray, List.set_cons_zero, List.set_cons_succ]
    refine ⟨(World.cell?_setCell_other _ _ _ _ (by intro e; cases e; exact HXB.out rfl)).trans HS.out, ?_⟩
    refine wpAnyH_done (by kernel_rfl) ?_ _
    clear HS HLB HTH HL1
    obtain ⟨w8, hw8⟩ : ∃ w8, w8 = w3.setCells b 1 [.slice ra k rc] := ⟨_, rfl⟩
    have HK8 := Lib.hid (show DK B d (S.file b ⟨f.nm, .slice ra k rc, f.zs.take k⟩) w8 from by rw [hw8]; exact HK7.out)
    have HM8 := Lib.hid (show Mov S d (S.file b ⟨f.nm, .slice ra k rc, f.zs.take k⟩) _ w8 from by rw [hw8]; exact HM7.out)
    have c2 := HK8.out.cells.2.2.1
    have f2 := frozen_of_row _ d 2 _ _ HK8.out.hd
    rw [← hw8]
    clear hw8 HK7 HM7
    go_wp2_with fail
    go_end0
    obtain ⟨h8, h9, _⟩ := HK8.out.cellSet 2 (.int .i64 (wrap64 (S.used - (g : Int)))) { (S.file b ⟨f.nm, .slice ra k rc, f.zs.take k⟩) with used := wrap64 (S.used - (g : Int)) } rfl (by omega) rfl ⟨rfl, rfl, rfl⟩
    rw [HGK.out] at h8 h9 ⊢
    exact ⟨rfl, _, by rw [HROW.out]; cases ra <;> rfl, h8, HM8.out.trans h9⟩
end Go.Proofs.Ytmomdfmilelilaa
