/-
  The walk over rebuild.
-/
import Derived.Test.YtoknjhpdbigbhaaDoorChk
import Derived.Test.YtoknjhpdbigbhaaDoorAwt
import Derived.Test.YtoknjhpdbigbhaaDoorMkg
namespace Go.Proofs.YtoknjhpdbigbhaaDoor
open Go.RowKit
set_option linter.unusedVariables false
/-- both roots that a proof of just the right length tells -/
def bothS (old : List Nat) (m n : Nat) (whole : Bool) (way : Ds) : Option (List Nat × List Nat) := Mk.both nodeS old m n whole way
def RebRet (old : List Nat) (m n : Nat) (whole : Bool) (way : Ds) (w : World) (e : Ending) (w' : World) : Prop :=
  ∃ x y, D32 x ∧ D32 y ∧ e = .returned (.tuple #[.agg (cellsOf x).toArray, .agg (cellsOf y).toArray, .bool (bothS old m n whole way).isSome]) ∧ (∀ q, bothS old m n whole way = some q → (x, y) = q) ∧ Below w.heap.size w w'
def REH (n : Nat) : Prop := ∀ q, q < n → ∀ (old : List Nat) (m : Nat) (whole : Bool) (a : Option Addr) (l cap : Nat) (way : Ds) (w : World), 1 ≤ m → m ≤ q → D32 old → DR w a l way → l ≤ cap → cap ≤ 9223372036854775807 → Tab w →
  Calls Tryd.prog 33 #[.agg (cellsOf old).toArray, .int .i64 (m : Int), .int .i64 (q : Int), .bool whole, .slice a l cap] w (RebRet old m q whole way w)
theorem A3.drew {w W : World} {x y z : List Nat} (h : A3 w x y z W) : A3 w x y z W.drew := ⟨h.1.drew, h.2.1.drew, h.2.2.1.drew, h.2.2.2.drew⟩
theorem A3.only {w W W' : World} {x y z : List Nat} {g : Nat} (h : A3 w x y z W) (hg : w.heap.size + 1 + 1 < g) (ho : Only g W W') : A3 w x y z W' :=
  ⟨h.1.only ho (by omega), h.2.1.only ho (by omega), h.2.2.1.only ho (by omega), h.2.2.2.trans (ho.below (by omega) h.2.2.2.size)⟩
theorem A3.c2 {w W : World} {x y z : List Nat} (h : A3 w x y z W) (q : List Nat) (hl : q.length = y.length) : A3 w x q z (W.setCells (w.heap.size + 1) 0 (cellsOf q)) := by
  have o : Only (w.heap.size + 1) W (W.setCells (w.heap.size + 1) 0 (cellsOf q)) := Only.setCells _ _ (Only.refl _ _)
  exact ⟨h.1.only o (by omega), h.2.1.setAll hl, h.2.2.1.only o (by omega), h.2.2.2.trans (o.below (by omega) h.2.2.2.size)⟩
theorem A3.c3 {w W : World} {x y z : List Nat} (h : A3 w x y z W) (q : List Nat) (hl : q.length = z.length) : A3 w x y q (W.setCells (w.heap.size + 1 + 1) 0 (cellsOf q)) := by
  have o : Only (w.heap.size + 1 + 1) W (W.setCells (w.heap.size + 1 + 1) 0 (cellsOf q)) := Only.setCells _ _ (Only.refl _ _)
  exact ⟨h.1.only o (by omega), h.2.1.only o (by omega), h.2.2.1.setAll hl, h.2.2.2.trans (o.below (by omega) h.2.2.2.size)⟩
theorem only_cells (W : World) (g : Nat) (q : List Nat) : Only g W (W.setCells g 0 (cellsOf q)) := Only.setCells _ _ (Only.refl _ _)
/-- what stays while the two results are laid: the old root, the way, the sum beside -/
def RB (w : World) (old : List Nat) (a : Option Addr) (l : Nat) (way : Ds) (g : Option Nat) (z : List Nat) (W : World) : Prop :=
  (∃ x y, x.length = 32 ∧ y.length = 32 ∧ A3 w old x y W) ∧ DR W a l way ∧ ∀ b, g = some b → w.heap.size + 1 + 1 < b ∧ Brow W b 32 z
theorem RB.step {w W W' : World} {old : List Nat} {a : Option Addr} {l : Nat} {way : Ds} {g : Option Nat} {z : List Nat} (h : RB w old a l way g z W) (hb : Below W.heap.size W W') : RB w old a l way g z W' := by
  obtain ⟨⟨x, y, hx, hy, h1⟩, h2, h3⟩ := h
  exact ⟨⟨x, y, hx, hy, h1.below hb⟩, h2.below hb, fun b hg => ⟨(h3 b hg).1, (h3 b hg).2.below hb (h3 b hg).2.lt⟩⟩
theorem RB.old {w W : World} {old : List Nat} {a : Option Addr} {l : Nat} {way : Ds} {g : Option Nat} {z : List Nat} (h : RB w old a l way g z W) : W.rangeAt w.heap.size 0 (cellsOf old) := by
  obtain ⟨⟨x, y, _, _, h1⟩, _, _⟩ := h
  exact h1.1.range
theorem RB.bel {w W : World} {old : List Nat} {a : Option Addr} {l : Nat} {way : Ds} {g : Option Nat} {z : List Nat} (h : RB w old a l way g z W) : Below w.heap.size w W := by
  obtain ⟨⟨x, y, _, _, h1⟩, _, _⟩ := h
  exact h1.2.2.2
/-- a store to one of the two results -/
theorem RB.store {w W W' : World} {old x y : List Nat} {a : Option Addr} {l : Nat} {way : Ds} {g : Option Nat} {z : List Nat} {c : Nat} (h : RB w old a l way g z W) (h0 : DR w a l way) (hc : A3 w old x y W') (hx : x.length = 32) (hy : y.length = 32) (h1 : w.heap.size ≤ c) (h2 : c ≤ w.heap.size + 1 + 1) (ho : Only c W W') : RB w old a l way g z W' := by
  obtain ⟨_, hd, hg⟩ := h
  exact ⟨⟨x, y, hx, hy, hc⟩, hd.only h0 h1 ho, fun b hb => ⟨(hg b hb).1, (hg b hb).2.only ho (by have := (hg b hb).1; omega)⟩⟩
theorem results_two {fn : Func} {P : Program} {p q r : Tmp} {ty : TypeId} (h : fn.results = #[.cell p ty, .cell q ty, .tmp r]) (tmps : Array Value) (w : World) (g1 g2 : Nat) (t1 t2 : TypeId) (c1 c2 : Array Value) (f1 f2 : Nat × Nat) (d : TypeDesc) (b : Value)
    (hp : tmps.getD p undef = .pointer (some ⟨g1, 0, none⟩)) (hq : tmps.getD q undef = .pointer (some ⟨g2, 0, none⟩)) (hr : tmps.getD r undef = b) (hg1 : w.heap[g1]? = some (.cells c1 t1 f1)) (hg2 : w.heap[g2]? = some (.cells c2 t2 f2))
    (hu : P.underlying ty = some d) (hd : (match d with | .struct _ | .array _ _ => true | _ => false) = true) (hi1 : (P.info? ty).map (·.size) = some c1.size) (hi2 : (P.info? ty).map (·.size) = some c2.size) :
    (results fn tmps).run P w = .ok (.tuple #[.agg c1, .agg c2, b]) w := by
  have hp' : tmps[p]?.getD undef = .pointer (some ⟨g1, 0, none⟩) := by simpa using hp
  have hq' : tmps[q]?.getD undef = .pointer (some ⟨g2, 0, none⟩) := by simpa using hq
  have hr' : tmps[r]?.getD undef = b := by simpa using hr
  simp [results, h, hp', hq', hr', asAddr, run_loadVar_row w g1 t1 ty c1 f1 d hg1 hu hd hi1, run_loadVar_row w g2 t2 ty c2 f2 d hg2 hu hd hi2]
set_option maxRecDepth 100000 in
set_option maxHeartbeats 2000000 in
theorem reb_whole (n : Nat) (old : List Nat) (a : Option Addr) (l cap : Nat) (way : Ds) (w : World) (ho : D32 old) (hr : DR w a l way) (hlc : l ≤ cap) :
    Calls Tryd.prog 33 #[.agg (cellsOf old).toArray, .int .i64 (n : Int), .int .i64 (n : Int), .bool true, .slice a l cap] w (RebRet old n n true way w) := by
  have HX := Lib.hid ho
  have HR := Lib.hid hr
  have HXI := Lib.hid (info32 dtA ho)
  have HYI := Lib.hid (info32 dtA ho)
  have HXL := Lib.hid ho.1
  have HYL := Lib.hid ho.1
  obtain ⟨b, hb⟩ : ∃ b, b = decide (l = 0) := ⟨_, rfl⟩
  have hb1 : ((l : Int) == 0) = b := by rw [hb]; by_cases h : l = 0 <;> simp [h]
  have HW := Lib.hid (show (bothS old n n true way).isSome = b ∧ ∀ q, bothS old n n true way = some q → (old, old) = q from by
    unfold bothS
    rw [Mk.both_whole, hb]
    by_cases h0 : l = 0
    · subst h0
      rw [hr.zero, if_pos rfl]
      exact ⟨rfl, fun q hq => Option.some.inj hq⟩
    · rw [if_neg (fun h => h0 (by rw [← hr.1, h]; rfl))]
      exact ⟨by simp [h0], fun q hq => by cases hq⟩)
  clear ho hr hb
  go_enter Tryd.func33, Tryd.ntmps33
  go_upto_region 1 with fail
  refine gen_code (F := A3 w old zs32 zs32) (A3.new w old zs32 zs32) ?_
  intro wA hc
  have HC := Lib.hid hc.drew
  have HL1 := Lib.hid zs32_len
  have HL2 := Lib.hid zs32_len
  clear hc
  go_upto_region 2 with fail
  (try dsimp only [Act.put, List.setIfInBounds_toArray, List.set_cons_zero, List.set_cons_succ])
  have HS := Lib.hid (show RB w old a l way none [] wA.drew from ⟨⟨zs32, zs32, zs32_len, zs32_len, HC.out⟩, HR.out.below HC.out.2.2.2, fun b hb => by cases hb⟩)
  have HLO := Lib.hid (fun W (hW : RB w old a l way none [] W) => run_dload dtA W w.heap.size 0 old HX.out hW.old)
  refine anyH_begin (S := RB w old a l way none []) (by kernel_rfl) ?_
  refine anyH_loadG 0 (d := 22) (ty := 32) (x := (.tmp 5)) (gd := none) (p := .pointer (some ⟨w.heap.size, 0, none⟩)) (.agg (cellsOf old).toArray) (by rfl) (fun o ho => wanted_plain ho _) (by kernel_rfl) (by kernel_rfl) (by kernel_rfl) (fun _ _ _ h => h) (by rfl) HLO.out HS.out ?_
  simp only [Act.put, List.setIfInBounds_toArray, List.set_cons_zero, List.set_cons_succ]
  refine anyH_loadG 1 (d := 23) (ty := 32) (x := (.tmp 5)) (gd := none) (p := .pointer (some ⟨w.heap.size, 0, none⟩)) (.agg (cellsOf old).toArray) (by rfl) (fun o ho => wanted_plain ho _) (by kernel_rfl) (by kernel_rfl) (by kernel_rfl) (fun _ _ _ h => h) (by rfl) HLO.out HS.out ?_
  simp only [Act.put, List.setIfInBounds_toArray, List.set_cons_zero, List.set_cons_succ]
  refine anyH_pureG 2 (d := 24) (op := .move (.tmp 4)) (gd := none) (.slice a l cap) (by rfl) (fun o ho => wanted_plain ho _) (by kernel_rfl) (by kernel_rfl) (by kernel_rfl) (fun _ _ _ h => h) (fun o ho W hW => by unfold execOp; simp only [ho]; go_simp) HS.out ?_
  simp only [Act.put, List.setIfInBounds_toArray, List.set_cons_zero, List.set_cons_succ]
  refine anyH_pureG 3 (d := 25) (op := .call { callee := .builtin .len, args := #[(.tmp 24)], argTypes := #[28] }) (gd := none) (.int .i64 (l : Int)) (by rfl) (fun o ho => wanted_plain ho _) (by kernel_rfl) (by kernel_rfl) (by kernel_rfl) (fun _ _ _ h => h) (fun o ho W hW => by unfold execOp; simp only [ho]; go_simp) HS.out ?_
  simp only [Act.put, List.setIfInBounds_toArray, List.set_cons_zero, List.set_cons_succ]
  refine anyH_pureG 4 (d := 26) (op := .binOp .eql 3 (.tmp 25) (.const (.int .i64 0)) 3) (gd := none) (.bool b) (by rfl) (fun o ho => wanted_plain ho _) (by kernel_rfl) (by kernel_rfl) (by kernel_rfl) (fun _ _ _ h => h) (fun o ho W hW => by unfold execOp; simp only [ho]; go_simp) HS.out ?_
  simp only [Act.put, List.setIfInBounds_toArray, List.set_cons_zero, List.set_cons_succ]
  have HT1 := Lib.hid (HC.out.2.1.there _ (show (cellsOf old).toArray.size = _ from (cellsOf_size _).trans (HXL.out.trans HL1.out.symm)))
  refine anyH_op 5 (d := none) (op := .store 32 (.tmp 10) (.tmp 22)) (by kernel_rfl) (by rfl) ?_
  intro o1 hod hoo
  refine wp_store_mid 32 (.tmp 10) (.tmp 22) hoo (w.heap.size + 1) 0 (cellsOf old).toArray (by rfl) (by rfl) HT1.out HXI.out (cellsOf_all _) ?_
  rw [hod, List.toList_toArray]
  have HC1 := Lib.hid (HC.out.c2 old (HXL.out.trans HL1.out.symm))
  have HS1 := Lib.hid (show RB w old a l way none [] _ from HS.out.store HR.out HC1.out HXL.out HL2.out (by omega) (by omega) (only_cells _ _ _))
  refine ⟨HS1.out, ?_⟩
  clear HS HT1 hod hoo HC
  simp only [Act.put]
  have HT2 := Lib.hid (HC1.out.2.2.1.there _ (show (cellsOf old).toArray.size = _ from (cellsOf_size _).trans (HYL.out.trans HL2.out.symm)))
  refine anyH_op 6 (d := none) (op := .store 32 (.tmp 11) (.tmp 23)) (by kernel_rfl) (by rfl) ?_
  intro o1 hod hoo
  refine wp_store_mid 32 (.tmp 11) (.tmp 23) hoo (w.heap.size + 1 + 1) 0 (cellsOf old).toArray (by rfl) (by rfl) HT2.out HYI.out (cellsOf_all _) ?_
  rw [hod, List.toList_toArray]
  have HC2 := Lib.hid (HC1.out.c3 old (HYL.out.trans HL2.out.symm))
  have HS2 := Lib.hid (show RB w old a l way none [] _ from HS1.out.store HR.out HC2.out HXL.out HYL.out (by omega) (by omega) (only_cells _ _ _))
  refine ⟨HS2.out, ?_⟩
  clear HS1 HT2 hod hoo HC1
  simp only [Act.put]
  refine anyH_pureG 7 (d := 12) (op := .assign (.tmp 26)) (gd := none) (.bool b) (by rfl) (fun o ho => wanted_plain ho _) (by kernel_rfl) (by kernel_rfl) (by kernel_rfl) (fun _ _ _ h => h) (fun o ho W hW => by unfold execOp; simp only [ho]; go_simp) HS2.out ?_
  simp only [Act.put, List.setIfInBounds_toArray, List.set_cons_zero, List.set_cons_succ]
  refine wpAnyH_done (by kernel_rfl) ?_ _
  refine gen_exit (F := A3 w old old old) HC2.out ?_
  intro wF hf
  have HF := Lib.hid hf
  clear hf HC2 HS2
  go_wp2
  refine bodyPost_ret (results_two (by rfl) _ _ (w.heap.size + 1) (w.heap.size + 1 + 1) _ _ (cellsOf old).toArray (cellsOf old).toArray (0, 0) (0, 0) _ (.bool b) (by rfl) (by rfl) (by rfl) HF.out.2.1 HF.out.2.2.1 Tryd.underlying32 (by rfl) HXI.out HYI.out) ?_ ?_
  · rfl
  · exact ⟨old, old, HX.out, HX.out, by rw [HW.out.1], HW.out.2, HF.out.2.2.2⟩
set_option maxRecDepth 100000 in
set_option maxHeartbeats 2000000 in
theorem reb_nil (m n : Nat) (whole : Bool) (old : List Nat) (a : Option Addr) (cap : Nat) (w : World) (h1 : 1 ≤ m) (hm : m ≤ n) (h : m ≠ n ∨ whole = false) (ho : D32 old) :
    Calls Tryd.prog 33 #[.agg (cellsOf old).toArray, .int .i64 (m : Int), .int .i64 (n : Int), .bool whole, .slice a 0 cap] w (RebRet old m n whole [] w) := by
  have hz : D32 zs32 := ⟨zs32_len, by decide⟩
  have HI := Lib.hid (info32 dtA hz)
  have HW := Lib.hid (show bothS old m n whole [] = none from Mk.both_nil _ _ _ _ _ h1 hm h)
  have HZ := Lib.hid hz
  clear ho hz
  by_cases he : m = n
  · subst he
    obtain rfl : whole = false := h.resolve_left (fun h => h rfl)
    clear h
    go_enter Tryd.func33, Tryd.ntmps33
    go_upto_region 1 with fail
    refine gen_code (F := A3 w old zs32 zs32) (A3.new w old zs32 zs32) ?_
    intro wA hc
    have HC := Lib.hid hc
    clear hc
    go_wp2_with (first | (refine wpList_store_row (by rfl) 32 _ _ (by rfl) (w.heap.size + 1) (cellsOf zs32).toArray (by rfl) (by rfl) 32 (cellsOf zs32).toArray HC.out.2.1 HI.out (by rfl) (cellsOf_all _) ?_; refine gen_world (F := A3 w old zs32 zs32) (HC.out.set2 zs32) ?_; intro wB hc; have HC1 := Lib.hid hc; clear hc HC) | (refine wpList_store_row (by rfl) 32 _ _ (by rfl) (w.heap.size + 1 + 1) (cellsOf zs32).toArray (by rfl) (by rfl) 32 (cellsOf zs32).toArray HC1.out.2.2.1 HI.out (by rfl) (cellsOf_all _) ?_; refine gen_world (F := A3 w old zs32 zs32) (HC1.out.set3 zs32) ?_; intro wC hc; have HC2 := Lib.hid hc; clear hc HC1))
    refine bodyPost_ret (results_two (by rfl) _ _ (w.heap.size + 1) (w.heap.size + 1 + 1) _ _ (cellsOf zs32).toArray (cellsOf zs32).toArray (0, 0) (0, 0) _ (.bool false) (by rfl) (by rfl) (by rfl) HC2.out.2.1 HC2.out.2.2.1 Tryd.underlying32 (by rfl) HI.out HI.out) ?_ ?_
    · rfl
    · exact ⟨zs32, zs32, HZ.out, HZ.out, by rw [HW.out]; rfl, (fun q hq => by rw [HW.out] at hq; cases hq), HC2.out.2.2.2⟩
  · have q0 : ¬ (m : Int) = (n : Int) := by omega
    clear h
    go_enter Tryd.func33, Tryd.ntmps33
    go_upto_region 1 with fail
    refine gen_code (F := A3 w old zs32 zs32) (A3.new w old zs32 zs32) ?_
    intro wA hc
    have HC := Lib.hid hc
    clear hc
    go_wp2_with (first | (refine wpList_store_row (by rfl) 32 _ _ (by rfl) (w.heap.size + 1) (cellsOf zs32).toArray (by rfl) (by rfl) 32 (cellsOf zs32).toArray HC.out.2.1 HI.out (by rfl) (cellsOf_all _) ?_; refine gen_world (F := A3 w old zs32 zs32) (HC.out.set2 zs32) ?_; intro wB hc; have HC1 := Lib.hid hc; clear hc HC) | (refine wpList_store_row (by rfl) 32 _ _ (by rfl) (w.heap.size + 1 + 1) (cellsOf zs32).toArray (by rfl) (by rfl) 32 (cellsOf zs32).toArray HC1.out.2.2.1 HI.out (by rfl) (cellsOf_all _) ?_; refine gen_world (F := A3 w old zs32 zs32) (HC1.out.set3 zs32) ?_; intro wC hc; have HC2 := Lib.hid hc; clear hc HC1))
    refine bodyPost_ret (results_two (by rfl) _ _ (w.heap.size + 1) (w.heap.size + 1 + 1) _ _ (cellsOf zs32).toArray (cellsOf zs32).toArray (0, 0) (0, 0) _ (.bool false) (by rfl) (by rfl) (by rfl) HC2.out.2.1 HC2.out.2.2.1 Tryd.underlying32 (by rfl) HI.out HI.out) ?_ ?_
    · rfl
    · exact ⟨zs32, zs32, HZ.out, HZ.out, by rw [HW.out]; rfl, (fun q hq => by rw [HW.out] at hq; cases hq), HC2.out.2.2.2⟩
set_option maxRecDepth 100000 in
set_option maxHeartbeats 8000000 in
theorem reb_one (m : Nat) (old : List Nat) (a : Option Addr) (l cap : Nat) (way : Ds) (w : World) (ho : D32 old) (hr : DR w a (l + 1) way) (hlc : l + 1 ≤ cap) (hcm : cap ≤ 9223372036854775807) :
    Calls Tryd.prog 33 #[.agg (cellsOf old).toArray, .int .i64 (m : Int), .int .i64 (m : Int), .bool false, .slice a (l + 1) cap] w (RebRet old m m false way w) := by
  obtain ⟨b, o, rfl, _, _⟩ := hr.at l (by omega)
  obtain ⟨z, hz⟩ : ∃ z, z = way.getD l [] := ⟨_, rfl⟩
  have HZ := Lib.hid (show D32 z from by rw [hz]; exact D32.get hr.2.1 l (by rw [hr.1]; omega))
  have HOLD := Lib.hid ho
  have HR := Lib.hid hr
  have HZI := Lib.hid (info32 dtA HZ.out)
  have HZZ := Lib.hid (zsize HZ.out)
  have kI := fun W => run_dindex dtA W b o (l + 1) cap l (by omega)
  have HLZ0 := Lib.hid (show ∀ W, DR W (some ⟨b, o, none⟩) (l + 1) way → (Instr.loadAt 32 (.pointer (some ⟨b, o + l * 32, none⟩))).run Tryd.prog W = .ok (.agg (cellsOf z).toArray) W from fun W hW => run_dload dtA W b (o + l * 32) z HZ.out (by
    obtain ⟨b', o', h1, _, h3⟩ := hW.at l (by omega)
    simp only [Option.some.injEq, Addr.mk.injEq, and_true] at h1
    obtain ⟨rfl, rfl⟩ := h1
    rw [hz]
    exact h3))
  have HXI := Lib.hid (info32 dtA HZ.out)
  have HYI := Lib.hid (info32 dtA HZ.out)
  have HXL := Lib.hid HZ.out.1
  have HYL := Lib.hid HZ.out.1
  obtain ⟨c, hc⟩ : ∃ c, c = decide (l = 0) := ⟨_, rfl⟩
  have hc1 : ((l : Int) == 0) = c := by rw [hc]; by_cases h : l = 0 <;> simp [h]
  have HW := Lib.hid (show (bothS old m m false way).isSome = c ∧ ∀ q, bothS old m m false way = some q → (z, z) = q from by
    unfold bothS
    rw [Mk.both_part, hc]
    match way, hr.1, hz with
    | [x], hl, hz =>
      obtain rfl : l = 0 := by simp at hl; omega
      obtain rfl : z = x := hz
      exact ⟨rfl, fun q hq => Option.some.inj hq⟩
    | x :: y :: r, hl, hz =>
      have h0 : ¬ l = 0 := by simp at hl; omega
      exact ⟨by simp [h0], fun q hq => by cases hq⟩)
  clear ho hr hz hc
  go_enter Tryd.func33, Tryd.ntmps33
  go_upto_region 1 with fail
  refine gen_code (F := A3 w old zs32 zs32) (A3.new w old zs32 zs32) ?_
  intro wA hc
  have HC := Lib.hid hc
  clear hc
  have HLZ := Lib.hid (HLZ0.out wA (HR.out.below HC.out.2.2.2))
  have K1 := Lib.hid (fun (O : Obj) (hO : O = .cells (cellsOf zs32).toArray 32 (0, 0)) => show A3 w old zs32 zs32 ((wA.alloc O).setRow wA.heap.size (cellsOf z).toArray) ∧ Brow ((wA.alloc O).setRow wA.heap.size (cellsOf z).toArray) wA.heap.size 32 z from by
    subst hO
    have hb : Below wA.heap.size wA ((wA.alloc (.cells (cellsOf zs32).toArray 32 (0, 0))).setRow wA.heap.size (cellsOf z).toArray) := ((Below.refl _ _).alloc (Nat.le_refl _) _).setRow (Nat.le_refl _) _
    exact ⟨HC.out.below hb, (Brow.new wA 32 zs32).setRow⟩)
  have hg : w.heap.size + 1 + 1 < wA.heap.size := HC.out.2.2.1.lt
  go_upto_region 7 with (first | (refine wpList_loadg 32 _ (by rfl) (by rfl) (.pointer (some ⟨b, o + l * 32, none⟩)) (by rfl) (.agg (cellsOf z).toArray) HLZ.out ?_) | (refine wpList_store_row (by rfl) 32 _ _ (by rfl) wA.heap.size (cellsOf z).toArray (by rfl) (by rfl) 32 (cellsOf zs32).toArray (by exact heap_new _ _) HZI.out HZZ.out (cellsOf_all _) ?_))
  obtain ⟨g, hge⟩ : ∃ g, g = wA.heap.size := ⟨_, rfl⟩
  rw [← hge] at K1 hg ⊢
  refine gen_code (F := fun W => A3 w old zs32 zs32 W ∧ Brow W g 32 z) (by rw [hge]; rw [hge] at K1; exact K1.out _ rfl) ?_
  rintro wB ⟨hc, hz1⟩
  have HC := Lib.hid hc.drew
  have HL1 := Lib.hid zs32_len
  have HL2 := Lib.hid zs32_len
  have HS := Lib.hid (show RB w old (some ⟨b, o, none⟩) (l + 1) way (some g) z wB.drew from ⟨⟨zs32, zs32, zs32_len, zs32_len, hc.drew⟩, HR.out.below hc.drew.2.2.2, fun c hc2 => by cases hc2; exact ⟨hg, hz1.drew⟩⟩)
  have HLG := Lib.hid (fun W (hW : RB w old (some ⟨b, o, none⟩) (l + 1) way (some g) z W) => run_dload dtA W g 0 z HZ.out (hW.2.2 g rfl).2.range)
  have HLO := Lib.hid (fun W (hW : RB w old (some ⟨b, o, none⟩) (l + 1) way (some g) z W) => run_dload dtA W w.heap.size 0 old HOLD.out hW.old)
  clear hc hz1 K1 HLZ HLZ0 kI hge
  go_upto_region 8 with fail
  (try dsimp only [Act.put, List.setIfInBounds_toArray, List.set_cons_zero, List.set_cons_succ])
  refine anyH_begin (S := RB w old (some ⟨b, o, none⟩) (l + 1) way (some g) z) (by kernel_rfl) ?_
  refine anyH_loadG 0 (d := 42) (ty := 32) (x := (.tmp 14)) (gd := none) (p := .pointer (some ⟨g, 0, none⟩)) (.agg (cellsOf z).toArray) (by rfl) (fun o ho => wanted_plain ho _) (by kernel_rfl) (by kernel_rfl) (by kernel_rfl) (fun _ _ _ h => h) (by rfl) HLG.out HS.out ?_
  simp only [Act.put, List.setIfInBounds_toArray, List.set_cons_zero, List.set_cons_succ]
  refine anyH_loadG 1 (d := 43) (ty := 32) (x := (.tmp 14)) (gd := none) (p := .pointer (some ⟨g, 0, none⟩)) (.agg (cellsOf z).toArray) (by rfl) (fun o ho => wanted_plain ho _) (by kernel_rfl) (by kernel_rfl) (by kernel_rfl) (fun _ _ _ h => h) (by rfl) HLG.out HS.out ?_
  simp only [Act.put, List.setIfInBounds_toArray, List.set_cons_zero, List.set_cons_succ]
  refine anyH_pureG 2 (d := 44) (op := .move (.tmp 13)) (gd := none) (.int .i64 (l : Int)) (by rfl) (fun o ho => wanted_plain ho _) (by kernel_rfl) (by kernel_rfl) (by kernel_rfl) (fun _ _ _ h => h) (fun o ho W hW => by unfold execOp; simp only [ho]; go_simp) HS.out ?_
  simp only [Act.put, List.setIfInBounds_toArray, List.set_cons_zero, List.set_cons_succ]
  refine anyH_pureG 3 (d := 45) (op := .binOp .eql 3 (.tmp 44) (.const (.int .i64 0)) 3) (gd := none) (.bool c) (by rfl) (fun o ho => wanted_plain ho _) (by kernel_rfl) (by kernel_rfl) (by kernel_rfl) (fun _ _ _ h => h) (fun o ho W hW => by unfold execOp; simp only [ho]; go_simp) HS.out ?_
  simp only [Act.put, List.setIfInBounds_toArray, List.set_cons_zero, List.set_cons_succ]
  have HT1 := Lib.hid (HC.out.2.1.there _ (show (cellsOf z).toArray.size = _ from (cellsOf_size _).trans (HXL.out.trans HL1.out.symm)))
  refine anyH_op 4 (d := none) (op := .store 32 (.tmp 10) (.tmp 42)) (by kernel_rfl) (by rfl) ?_
  intro o1 hod hoo
  refine wp_store_mid 32 (.tmp 10) (.tmp 42) hoo (w.heap.size + 1) 0 (cellsOf z).toArray (by rfl) (by rfl) HT1.out HXI.out (cellsOf_all _) ?_
  rw [hod, List.toList_toArray]
  have HC1 := Lib.hid (HC.out.c2 z (HXL.out.trans HL1.out.symm))
  have HS1 := Lib.hid (show RB w old (some ⟨b, o, none⟩) (l + 1) way (some g) z _ from HS.out.store HR.out HC1.out HXL.out HL2.out (by omega) (by omega) (only_cells _ _ _))
  refine ⟨HS1.out, ?_⟩
  clear HS HT1 hod hoo HC
  simp only [Act.put]
  have HT2 := Lib.hid (HC1.out.2.2.1.there _ (show (cellsOf z).toArray.size = _ from (cellsOf_size _).trans (HYL.out.trans HL2.out.symm)))
  refine anyH_op 5 (d := none) (op := .store 32 (.tmp 11) (.tmp 43)) (by kernel_rfl) (by rfl) ?_
  intro o1 hod hoo
  refine wp_store_mid 32 (.tmp 11) (.tmp 43) hoo (w.heap.size + 1 + 1) 0 (cellsOf z).toArray (by rfl) (by rfl) HT2.out HYI.out (cellsOf_all _) ?_
  rw [hod, List.toList_toArray]
  have HC2 := Lib.hid (HC1.out.c3 z (HYL.out.trans HL2.out.symm))
  have HS2 := Lib.hid (show RB w old (some ⟨b, o, none⟩) (l + 1) way (some g) z _ from HS1.out.store HR.out HC2.out HXL.out HYL.out (by omega) (by omega) (only_cells _ _ _))
  refine ⟨HS2.out, ?_⟩
  clear HS1 HT2 hod hoo HC1
  simp only [Act.put]
  refine anyH_pureG 6 (d := 12) (op := .assign (.tmp 45)) (gd := none) (.bool c) (by rfl) (fun o ho => wanted_plain ho _) (by kernel_rfl) (by kernel_rfl) (by kernel_rfl) (fun _ _ _ h => h) (fun o ho W hW => by unfold execOp; simp only [ho]; go_simp) HS2.out ?_
  simp only [Act.put, List.setIfInBounds_toArray, List.set_cons_zero, List.set_cons_succ]
  refine wpAnyH_done (by kernel_rfl) ?_ _
  refine gen_exit (F := A3 w old z z) HC2.out ?_
  intro wF hf
  have HF := Lib.hid hf
  clear hf HC2 HS2
  go_wp2
  refine bodyPost_ret (results_two (by rfl) _ _ (w.heap.size + 1) (w.heap.size + 1 + 1) _ _ (cellsOf z).toArray (cellsOf z).toArray (0, 0) (0, 0) _ (.bool c) (by rfl) (by rfl) (by rfl) HF.out.2.1 HF.out.2.2.1 Tryd.underlying32 (by rfl) HXI.out HYI.out) ?_ ?_
  · rfl
  · exact ⟨z, z, HZ.out, HZ.out, by rw [HW.out.1], HW.out.2, HF.out.2.2.2⟩
set_option maxRecDepth 100000 in
set_option maxHeartbeats 8000000 in
theorem reb_l (n k m : Nat) (whole : Bool) (ih : REH n) (old : List Nat) (a : Option Addr) (l cap : Nat) (way : Ds) (w : World) (ho : D32 old) (hr : DR w a (l + 1) way) (hlc : l + 1 ≤ cap) (hcm : cap ≤ 9223372036854775807) (ht : Tab w) (h1 : 1 ≤ m) (hm : m < n) (hn : n ≤ 9223372036854775807) (hk : Mk.half n = k) (hik : m ≤ k) :
    Calls Tryd.prog 33 #[.agg (cellsOf old).toArray, .int .i64 (m : Int), .int .i64 (n : Int), .bool whole, .slice a (l + 1) cap] w (RebRet old m n whole way w) := by
  obtain ⟨b, o, rfl, _, _⟩ := hr.at l (by omega)
  obtain ⟨z, hz⟩ : ∃ z, z = way.getD l [] := ⟨_, rfl⟩
  have HZ := Lib.hid (show D32 z from by rw [hz]; exact D32.get hr.2.1 l (by rw [hr.1]; omega))
  have HOLD := Lib.hid ho
  have HR := Lib.hid hr
  have HZI := Lib.hid (info32 dtA HZ.out)
  have HZZ := Lib.hid (zsize HZ.out)
  have kI := fun W => run_dindex dtA W b o (l + 1) cap l (by omega)
  have HLZ0 := Lib.hid (show ∀ W, DR W (some ⟨b, o, none⟩) (l + 1) way → (Instr.loadAt 32 (.pointer (some ⟨b, o + l * 32, none⟩))).run Tryd.prog W = .ok (.agg (cellsOf z).toArray) W from fun W hW => run_dload dtA W b (o + l * 32) z HZ.out (by
    obtain ⟨b', o', h1, _, h3⟩ := hW.at l (by omega)
    simp only [Option.some.injEq, Addr.mk.injEq, and_true] at h1
    obtain ⟨rfl, rfl⟩ := h1
    rw [hz]
    exact h3))
  have hk0 : 0 < k := by rw [← hk]; exact Mk.half_pos n
  have hkn : k < n := by rw [← hk]; exact Mk.half_lt n (by omega)
  have HH := Lib.hid (fun W => split_c n W (by omega) (by omega))
  rw [hk] at HH
  have q0 : ¬ (m : Int) = (n : Int) := by omega
  have q2 : (m : Int) ≤ (k : Int) := by omega
  have HT := Lib.hid ht
  have hpos := ht.pos
  obtain ⟨c, hc⟩ : ∃ c, c = (bothS old m k whole (way.take l)).isSome := ⟨_, rfl⟩
  have HIN := Lib.hid (show ∀ W, DR W (some ⟨b, o, none⟩) (l + 1) way → Tab W → Calls Tryd.prog 33 #[.agg (cellsOf old).toArray, .int .i64 (m : Int), .int .i64 (k : Int), .bool whole, .slice (some ⟨b, o, none⟩) l cap] W (fun e w' => ∃ x y, D32 x ∧ D32 y ∧ e = .returned (.tuple #[.agg (cellsOf x).toArray, .agg (cellsOf y).toArray, .bool c]) ∧ (∀ q, bothS old m k whole (way.take l) = some q → (x, y) = q) ∧ Below W.heap.size W w') from fun W hW hT => by rw [hc]; exact ih k (by omega) old m whole _ l cap _ W (by omega) (by omega) ho (hW.take l (by omega)) (by omega) hcm hT)
  have HFIN := Lib.hid (show ∀ x y, (∀ q, bothS old m k whole (way.take l) = some q → (x, y) = q) → (bothS old m n whole way).isSome = c ∧ ∀ q, bothS old m n whole way = some q → (x, nodeS y z) = q from fun x y hx => by
    have e : bothS old m n whole way = (bothS old m k whole (way.take l)).map fun q => (q.1, nodeS q.2 z) := by
      conv => lhs; rw [way_snoc hr.1]
      rw [hz, ← hk]; exact Mk.both_left _ _ _ _ _ _ _ h1 hm (by rw [hk]; exact hik)
    rw [e, hc]
    refine ⟨by simp, fun q hq => ?_⟩
    obtain ⟨q', h1, h3⟩ := Option.map_eq_some_iff.1 hq
    rw [← h3, ← hx q' h1])
  clear ho hr hz hc ht ih hk
  go_enter Tryd.func33, Tryd.ntmps33
  go_upto_region 1 with fail
  refine gen_code (F := A3 w old zs32 zs32) (A3.new w old zs32 zs32) ?_
  intro wA hc
  have HC := Lib.hid hc
  clear hc
  have HLZ := Lib.hid (HLZ0.out wA (HR.out.below HC.out.2.2.2))
  have K1 := Lib.hid (fun (O : Obj) (hO : O = .cells (cellsOf zs32).toArray 32 (0, 0)) => show A3 w old zs32 zs32 ((wA.alloc O).setRow wA.heap.size (cellsOf z).toArray) ∧ Brow ((wA.alloc O).setRow wA.heap.size (cellsOf z).toArray) wA.heap.size 32 z from by
    subst hO
    have hb : Below wA.heap.size wA ((wA.alloc (.cells (cellsOf zs32).toArray 32 (0, 0))).setRow wA.heap.size (cellsOf z).toArray) := ((Below.refl _ _).alloc (Nat.le_refl _) _).setRow (Nat.le_refl _) _
    exact ⟨HC.out.below hb, (Brow.new wA 32 zs32).setRow⟩)
  have hg : w.heap.size + 1 + 1 < wA.heap.size := HC.out.2.2.1.lt
  go_upto_region 7 with (first | (refine wpList_loadg 32 _ (by rfl) (by rfl) (.pointer (some ⟨b, o + l * 32, none⟩)) (by rfl) (.agg (cellsOf z).toArray) HLZ.out ?_) | (refine wpList_store_row (by rfl) 32 _ _ (by rfl) wA.heap.size (cellsOf z).toArray (by rfl) (by rfl) 32 (cellsOf zs32).toArray (by exact heap_new _ _) HZI.out HZZ.out (cellsOf_all _) ?_))
  obtain ⟨g, hge⟩ : ∃ g, g = wA.heap.size := ⟨_, rfl⟩
  rw [← hge] at K1 hg ⊢
  refine gen_code (F := fun W => A3 w old zs32 zs32 W ∧ Brow W g 32 z) (by rw [hge]; rw [hge] at K1; exact K1.out _ rfl) ?_
  rintro wB ⟨hc, hz1⟩
  have HC := Lib.hid hc.drew
  have HL1 := Lib.hid zs32_len
  have HL2 := Lib.hid zs32_len
  have HS := Lib.hid (show RB w old (some ⟨b, o, none⟩) (l + 1) way (some g) z wB.drew from ⟨⟨zs32, zs32, zs32_len, zs32_len, hc.drew⟩, HR.out.below hc.drew.2.2.2, fun c hc2 => by cases hc2; exact ⟨hg, hz1.drew⟩⟩)
  have HLG := Lib.hid (fun W (hW : RB w old (some ⟨b, o, none⟩) (l + 1) way (some g) z W) => run_dload dtA W g 0 z HZ.out (hW.2.2 g rfl).2.range)
  have HLO := Lib.hid (fun W (hW : RB w old (some ⟨b, o, none⟩) (l + 1) way (some g) z W) => run_dload dtA W w.heap.size 0 old HOLD.out hW.old)
  clear hc hz1 K1 HLZ HLZ0 kI hge
  go_upto_region 11 with (first | (go_at_call 40; refine (HH.out _).mono ?_; rintro e wb ⟨rfl, rfl⟩))
  (try dsimp only [Act.put, List.setIfInBounds_toArray, List.set_cons_zero, List.set_cons_succ])
  refine anyH_begin (S := RB w old (some ⟨b, o, none⟩) (l + 1) way (some g) z) (by kernel_rfl) ?_
  refine anyH_loadG 0 (d := 52) (ty := 32) (x := (.tmp 5)) (gd := none) (p := .pointer (some ⟨w.heap.size, 0, none⟩)) (.agg (cellsOf old).toArray) (by rfl) (fun o ho => wanted_plain ho _) (by kernel_rfl) (by kernel_rfl) (by kernel_rfl) (fun _ _ _ h => h) (by rfl) HLO.out HS.out ?_
  simp only [Act.put, List.setIfInBounds_toArray, List.set_cons_zero, List.set_cons_succ]
  refine anyH_pureG 1 (d := 53) (op := .move (.tmp 1)) (gd := none) (.int .i64 (m : Int)) (by rfl) (fun o ho => wanted_plain ho _) (by kernel_rfl) (by kernel_rfl) (by kernel_rfl) (fun _ _ _ h => h) (fun o ho W hW => by unfold execOp; simp only [ho]; go_simp) HS.out ?_
  simp only [Act.put, List.setIfInBounds_toArray, List.set_cons_zero, List.set_cons_succ]
  refine anyH_pureG 2 (d := 54) (op := .move (.tmp 15)) (gd := none) (.int .i64 (k : Int)) (by rfl) (fun o ho => wanted_plain ho _) (by kernel_rfl) (by kernel_rfl) (by kernel_rfl) (fun _ _ _ h => h) (fun o ho W hW => by unfold execOp; simp only [ho]; go_simp) HS.out ?_
  simp only [Act.put, List.setIfInBounds_toArray, List.set_cons_zero, List.set_cons_succ]
  refine anyH_pureG 3 (d := 55) (op := .move (.tmp 3)) (gd := none) (.bool whole) (by rfl) (fun o ho => wanted_plain ho _) (by kernel_rfl) (by kernel_rfl) (by kernel_rfl) (fun _ _ _ h => h) (fun o ho W hW => by unfold execOp; simp only [ho]; go_simp) HS.out ?_
  simp only [Act.put, List.setIfInBounds_toArray, List.set_cons_zero, List.set_cons_succ]
  refine anyH_pureG 4 (d := 56) (op := .move (.tmp 4)) (gd := none) (.slice (some ⟨b, o, none⟩) (l + 1) cap) (by rfl) (fun o ho => wanted_plain ho _) (by kernel_rfl) (by kernel_rfl) (by kernel_rfl) (fun _ _ _ h => h) (fun o ho W hW => by unfold execOp; simp only [ho]; go_simp) HS.out ?_
  simp only [Act.put, List.setIfInBounds_toArray, List.set_cons_zero, List.set_cons_succ]
  refine anyH_pureG 5 (d := 57) (op := .move (.tmp 13)) (gd := none) (.int .i64 (l : Int)) (by rfl) (fun o ho => wanted_plain ho _) (by kernel_rfl) (by kernel_rfl) (by kernel_rfl) (fun _ _ _ h => h) (fun o ho W hW => by unfold execOp; simp only [ho]; go_simp) HS.out ?_
  simp only [Act.put, List.setIfInBounds_toArray, List.set_cons_zero, List.set_cons_succ]
  refine anyH_dhead dtA 6 (d := 58) (x := .tmp 56) (y := .tmp 57) (some ⟨b, o, none⟩) (l + 1) cap l (by omega) (by rfl) (by kernel_rfl) (by kernel_rfl) (by kernel_rfl) (fun _ _ _ h => h) (by rfl) (by rfl) HS.out ?_
  simp only [Act.put, List.setIfInBounds_toArray, List.set_cons_zero, List.set_cons_succ]
  refine anyH_callG 7 (d := some 59) (f := 33) (xs := #[(.tmp 52), (.tmp 53), (.tmp 54), (.tmp 55), (.tmp 58)]) (ts := #[32, 3, 3, 4, 28]) (gd := none) (vs := #[.agg (cellsOf old).toArray, .int .i64 (m : Int), .int .i64 (k : Int), .bool whole, .slice (some ⟨b, o, none⟩) l cap]) (by kernel_rfl) (by rfl) (fun o ho => wanted_plain ho _) (by go_simp) (by go_simp) (HIN.out _ HS.out.2.1 (HT.out.below HS.out.bel hpos)) ?_
  rintro e w1 ⟨x, y, hx, hy, rfl, hxe, hb1⟩
  refine ⟨_, rfl, HS.out.step hb1, fun hS1 => ?_⟩
  have HS := Lib.hid hS1
  have HC := Lib.hid (HC.out.below hb1)
  have HX := Lib.hid hx
  have HY := Lib.hid hy
  have HXE := Lib.hid hxe
  have HXI := Lib.hid (info32 dtA hx)
  have HYI := Lib.hid (info32 dtA hy)
  have HXL := Lib.hid hx.1
  have HYL := Lib.hid hy.1
  clear hS1 hb1 hx hy hxe
  simp only [Act.put, List.setIfInBounds_toArray, List.set_cons_zero, List.set_cons_succ]
  refine anyH_pureG 8 (d := 51) (op := .move (.tmp 59)) (gd := none) (.tuple #[.agg (cellsOf x).toArray, .agg (cellsOf y).toArray, .bool c]) (by rfl) (fun o ho => wanted_plain ho _) (by kernel_rfl) (by kernel_rfl) (by kernel_rfl) (fun _ _ _ h => h) (fun o ho W hW => by unfold execOp; simp only [ho]; go_simp) HS.out ?_
  simp only [Act.put, List.setIfInBounds_toArray, List.set_cons_zero, List.set_cons_succ]
  refine anyH_pureG 9 (d := 60) (op := .extract (.tmp 51) 0) (gd := none) (.agg (cellsOf x).toArray) (by rfl) (fun o ho => wanted_plain ho _) (by kernel_rfl) (by kernel_rfl) (by kernel_rfl) (fun _ _ _ h => h) (fun o ho W hW => by unfold execOp; simp only [ho]; go_simp) HS.out ?_
  simp only [Act.put, List.setIfInBounds_toArray, List.set_cons_zero, List.set_cons_succ]
  refine anyH_pureG 10 (d := 61) (op := .extract (.tmp 51) 1) (gd := none) (.agg (cellsOf y).toArray) (by rfl) (fun o ho => wanted_plain ho _) (by kernel_rfl) (by kernel_rfl) (by kernel_rfl) (fun _ _ _ h => h) (fun o ho W hW => by unfold execOp; simp only [ho]; go_simp) HS.out ?_
  simp only [Act.put, List.setIfInBounds_toArray, List.set_cons_zero, List.set_cons_succ]
  refine anyH_pureG 11 (d := 62) (op := .extract (.tmp 51) 2) (gd := none) (.bool c) (by rfl) (fun o ho => wanted_plain ho _) (by kernel_rfl) (by kernel_rfl) (by kernel_rfl) (fun _ _ _ h => h) (fun o ho W hW => by unfold execOp; simp only [ho]; go_simp) HS.out ?_
  simp only [Act.put, List.setIfInBounds_toArray, List.set_cons_zero, List.set_cons_succ]
  have HT1 := Lib.hid (HC.out.2.1.there _ (show (cellsOf x).toArray.size = _ from (cellsOf_size _).trans (HXL.out.trans HL1.out.symm)))
  refine anyH_op 12 (d := none) (op := .store 32 (.tmp 10) (.tmp 60)) (by kernel_rfl) (by rfl) ?_
  intro o1 hod hoo
  refine wp_store_mid 32 (.tmp 10) (.tmp 60) hoo (w.heap.size + 1) 0 (cellsOf x).toArray (by rfl) (by rfl) HT1.out HXI.out (cellsOf_all _) ?_
  rw [hod, List.toList_toArray]
  have HC1 := Lib.hid (HC.out.c2 x (HXL.out.trans HL1.out.symm))
  have HS1 := Lib.hid (show RB w old (some ⟨b, o, none⟩) (l + 1) way (some g) z _ from HS.out.store HR.out HC1.out HXL.out HL2.out (by omega) (by omega) (only_cells _ _ _))
  refine ⟨HS1.out, ?_⟩
  clear HS HT1 hod hoo HC
  simp only [Act.put]
  have HT2 := Lib.hid (HC1.out.2.2.1.there _ (show (cellsOf y).toArray.size = _ from (cellsOf_size _).trans (HYL.out.trans HL2.out.symm)))
  refine anyH_op 13 (d := none) (op := .store 32 (.tmp 11) (.tmp 61)) (by kernel_rfl) (by rfl) ?_
  intro o1 hod hoo
  refine wp_store_mid 32 (.tmp 11) (.tmp 61) hoo (w.heap.size + 1 + 1) 0 (cellsOf y).toArray (by rfl) (by rfl) HT2.out HYI.out (cellsOf_all _) ?_
  rw [hod, List.toList_toArray]
  have HC2 := Lib.hid (HC1.out.c3 y (HYL.out.trans HL2.out.symm))
  have HS2 := Lib.hid (show RB w old (some ⟨b, o, none⟩) (l + 1) way (some g) z _ from HS1.out.store HR.out HC2.out HXL.out HYL.out (by omega) (by omega) (only_cells _ _ _))
  refine ⟨HS2.out, ?_⟩
  clear HS1 HT2 hod hoo HC1
  simp only [Act.put]
  refine anyH_pureG 14 (d := 12) (op := .assign (.tmp 62)) (gd := none) (.bool c) (by rfl) (fun o ho => wanted_plain ho _) (by kernel_rfl) (by kernel_rfl) (by kernel_rfl) (fun _ _ _ h => h) (fun o ho W hW => by unfold execOp; simp only [ho]; go_simp) HS2.out ?_
  simp only [Act.put, List.setIfInBounds_toArray, List.set_cons_zero, List.set_cons_succ]
  refine wpAnyH_done (by kernel_rfl) ?_ _
  refine gen_exit (F := fun W => A3 w old x y W ∧ RB w old (some ⟨b, o, none⟩) (l + 1) way (some g) z W) ⟨HC2.out, HS2.out⟩ ?_
  rintro wE ⟨hc, hs⟩
  clear HC2 HS2 HL1 HL2
  have HC := Lib.hid hc.drew
  have HS := Lib.hid (show RB w old (some ⟨b, o, none⟩) (l + 1) way (some g) z wE.drew from ⟨⟨x, y, HXL.out, HYL.out, hc.drew⟩, hs.2.1, fun c hc2 => ⟨(hs.2.2 c hc2).1, (hs.2.2 c hc2).2.drew⟩⟩)
  have HL1 := Lib.hid HXL.out
  have HL2 := Lib.hid HYL.out
  clear hc hs
  go_upto_region 12 with fail
  (try dsimp only [Act.put, List.setIfInBounds_toArray, List.set_cons_zero, List.set_cons_succ])
  obtain ⟨NY, hN⟩ : ∃ N, N = nodeS y z := ⟨_, rfl⟩
  have HNE := Lib.hid hN
  have HND := Lib.hid (show D32 NY from by rw [hN]; exact d32_sum _)
  have HNODE := Lib.hid (show ∀ W, RB w old (some ⟨b, o, none⟩) (l + 1) way (some g) z W → Calls Tryd.prog 26 #[.agg (cellsOf y).toArray, .agg (cellsOf z).toArray] W (DigRet NY W) from fun W hW => by rw [hN]; exact node_c y z W HY.out HZ.out (HT.out.below hW.bel hpos))
  have HPOST := Lib.hid (show (bothS old m n whole way).isSome = c ∧ ∀ q, bothS old m n whole way = some q → (x, NY) = q from by rw [hN]; exact HFIN.out x y HXE.out)
  have HYI2 := Lib.hid (info32 dtA HND.out)
  have HYL2 := Lib.hid HND.out.1
  clear hN
  refine anyH_begin (S := RB w old (some ⟨b, o, none⟩) (l + 1) way (some g) z) (by kernel_rfl) ?_
  refine anyH_loadG 2 (d := 65) (ty := 32) (x := (.tmp 14)) (gd := none) (p := .pointer (some ⟨g, 0, none⟩)) (.agg (cellsOf z).toArray) (by rfl) (fun o ho => wanted_plain ho _) (by kernel_rfl) (by kernel_rfl) (by kernel_rfl) (fun _ _ _ h => h) (by rfl) HLG.out HS.out ?_
  simp only [Act.put, List.setIfInBounds_toArray, List.set_cons_zero, List.set_cons_succ]
  refine anyH_pureG 4 (d := 67) (op := .move (.tmp 12)) (gd := none) (.bool c) (by rfl) (fun o ho => wanted_plain ho _) (by kernel_rfl) (by kernel_rfl) (by kernel_rfl) (fun _ _ _ h => h) (fun o ho W hW => by unfold execOp; simp only [ho]; go_simp) HS.out ?_
  simp only [Act.put, List.setIfInBounds_toArray, List.set_cons_zero, List.set_cons_succ]
  refine anyH_two 0 1 (d1 := (some 63)) (op1 := .load 32 (.tmp 10)) (d2 := (some 64)) (op2 := .load 32 (.tmp 11)) (by kernel_rfl) (by rfl) (by rfl) ?_ ?_
  · intro o1 hod hoo
    refine wp_load_row 32 (.tmp 10) hoo (w.heap.size + 1) (by rfl) _ (cellsOf x).toArray (0, 0) _ HC.out.2.1 Tryd.underlying32 (by rfl) HXI.out ?_
    rw [hod]
    refine ⟨HS.out, ?_⟩
    clear hod hoo
    simp only [Act.put, List.setIfInBounds_toArray, List.set_cons_zero, List.set_cons_succ]
    refine anyH_op 1 (d := (some 64)) (op := .load 32 (.tmp 11)) (by kernel_rfl) (by rfl) ?_
    intro o1 hod hoo
    refine wp_load_row 32 (.tmp 11) hoo (w.heap.size + 1 + 1) (by rfl) _ (cellsOf y).toArray (0, 0) _ HC.out.2.2.1 Tryd.underlying32 (by rfl) HYI.out ?_
    rw [hod]
    refine ⟨HS.out, ?_⟩
    clear hod hoo
    simp only [Act.put, List.setIfInBounds_toArray, List.set_cons_zero, List.set_cons_succ]
    refine anyH_op 3 (d := (some 66)) (op := .call { callee := .value (.func 26), args := #[(.tmp 64), (.tmp 65)], argTypes := #[32, 32] }) (by kernel_rfl) (by rfl) ?_
    intro o1 hod hoo
    refine wp_call_fn (R := _) hoo (vs := #[.agg (cellsOf y).toArray, .agg (cellsOf z).toArray]) (by go_simp) (by go_simp) (HNODE.out _ HS.out) ?_
    rintro e w9 ⟨rfl, hb9⟩
    refine ⟨_, rfl, HS.out.step hb9, ?_⟩
    rw [hod]
    have HS := Lib.hid (HS.out.step hb9)
    have HC := Lib.hid (HC.out.below hb9)
    clear hod hoo hb9
    simp only [Act.put, List.setIfInBounds_toArray, List.set_cons_zero, List.set_cons_succ]
    have HYI := HYI2
    have HYL := HYL2
    have HT1 := Lib.hid (HC.out.2.1.there _ (show (cellsOf x).toArray.size = _ from (cellsOf_size _).trans (HXL.out.trans HL1.out.symm)))
    refine anyH_op 5 (d := none) (op := .store 32 (.tmp 10) (.tmp 63)) (by kernel_rfl) (by rfl) ?_
    intro o1 hod hoo
    refine wp_store_mid 32 (.tmp 10) (.tmp 63) hoo (w.heap.size + 1) 0 (cellsOf x).toArray (by rfl) (by rfl) HT1.out HXI.out (cellsOf_all _) ?_
    rw [hod, List.toList_toArray]
    have HC1 := Lib.hid (HC.out.c2 x (HXL.out.trans HL1.out.symm))
    have HS1 := Lib.hid (show RB w old (some ⟨b, o, none⟩) (l + 1) way (some g) z _ from HS.out.store HR.out HC1.out HXL.out HL2.out (by omega) (by omega) (only_cells _ _ _))
    refine ⟨HS1.out, ?_⟩
    clear HS HT1 hod hoo HC
    simp only [Act.put]
    have HT2 := Lib.hid (HC1.out.2.2.1.there _ (show (cellsOf NY).toArray.size = _ from (cellsOf_size _).trans (HYL.out.trans HL2.out.symm)))
    refine anyH_op 6 (d := none) (op := .store 32 (.tmp 11) (.tmp 66)) (by kernel_rfl) (by rfl) ?_
    intro o1 hod hoo
    refine wp_store_mid 32 (.tmp 11) (.tmp 66) hoo (w.heap.size + 1 + 1) 0 (cellsOf NY).toArray (by rfl) (by rfl) HT2.out HYI.out (cellsOf_all _) ?_
    rw [hod, List.toList_toArray]
    have HC2 := Lib.hid (HC1.out.c3 NY (HYL.out.trans HL2.out.symm))
    have HS2 := Lib.hid (show RB w old (some ⟨b, o, none⟩) (l + 1) way (some g) z _ from HS1.out.store HR.out HC2.out HXL.out HYL.out (by omega) (by omega) (only_cells _ _ _))
    refine ⟨HS2.out, ?_⟩
    clear HS1 HT2 hod hoo HC1
    simp only [Act.put]
    refine anyH_pureG 7 (d := 12) (op := .assign (.tmp 67)) (gd := none) (.bool c) (by rfl) (fun o ho => wanted_plain ho _) (by kernel_rfl) (by kernel_rfl) (by kernel_rfl) (fun _ _ _ h => h) (fun o ho W hW => by unfold execOp; simp only [ho]; go_simp) HS2.out ?_
    simp only [Act.put, List.setIfInBounds_toArray, List.set_cons_zero, List.set_cons_succ]
    refine wpAnyH_done (by kernel_rfl) ?_ _
    refine gen_exit (F := A3 w old x NY) HC2.out ?_
    intro wF hf
    have HF := Lib.hid hf
    clear hf HC2 HS2
    go_wp2
    refine bodyPost_ret (results_two (by rfl) _ _ (w.heap.size + 1) (w.heap.size + 1 + 1) _ _ (cellsOf x).toArray (cellsOf NY).toArray (0, 0) (0, 0) _ (.bool c) (by rfl) (by rfl) (by rfl) HF.out.2.1 HF.out.2.2.1 Tryd.underlying32 (by rfl) HXI.out HYI.out) ?_ ?_
    · rfl
    · exact ⟨x, NY, HX.out, HND.out, by rw [HPOST.out.1], HPOST.out.2, HF.out.2.2.2⟩
  · intro o1 hod hoo
    refine wp_load_row 32 (.tmp 11) hoo (w.heap.size + 1 + 1) (by rfl) _ (cellsOf y).toArray (0, 0) _ HC.out.2.2.1 Tryd.underlying32 (by rfl) HYI.out ?_
    rw [hod]
    refine ⟨HS.out, ?_⟩
    clear hod hoo
    simp only [Act.put, List.setIfInBounds_toArray, List.set_cons_zero, List.set_cons_succ]
    refine anyH_two 0 3 (d1 := (some 63)) (op1 := .load 32 (.tmp 10)) (d2 := (some 66)) (op2 := .call { callee := .value (.func 26), args := #[(.tmp 64), (.tmp 65)], argTypes := #[32, 32] }) (by kernel_rfl) (by rfl) (by rfl) ?_ ?_
    · intro o1 hod hoo
      refine wp_load_row 32 (.tmp 10) hoo (w.heap.size + 1) (by rfl) _ (cellsOf x).toArray (0, 0) _ HC.out.2.1 Tryd.underlying32 (by rfl) HXI.out ?_
      rw [hod]
      refine ⟨HS.out, ?_⟩
      clear hod hoo
      simp only [Act.put, List.setIfInBounds_toArray, List.set_cons_zero, List.set_cons_succ]
      refine anyH_op 3 (d := (some 66)) (op := .call { callee := .value (.func 26), args := #[(.tmp 64), (.tmp 65)], argTypes := #[32, 32] }) (by kernel_rfl) (by rfl) ?_
      intro o1 hod hoo
      refine wp_call_fn (R := _) hoo (vs := #[.agg (cellsOf y).toArray, .agg (cellsOf z).toArray]) (by go_simp) (by go_simp) (HNODE.out _ HS.out) ?_
      rintro e w9 ⟨rfl, hb9⟩
      refine ⟨_, rfl, HS.out.step hb9, ?_⟩
      rw [hod]
      have HS := Lib.hid (HS.out.step hb9)
      have HC := Lib.hid (HC.out.below hb9)
      clear hod hoo hb9
      simp only [Act.put, List.setIfInBounds_toArray, List.set_cons_zero, List.set_cons_succ]
      have HYI := HYI2
      have HYL := HYL2
      have HT1 := Lib.hid (HC.out.2.1.there _ (show (cellsOf x).toArray.size = _ from (cellsOf_size _).trans (HXL.out.trans HL1.out.symm)))
      refine anyH_op 5 (d := none) (op := .store 32 (.tmp 10) (.tmp 63)) (by kernel_rfl) (by rfl) ?_
      intro o1 hod hoo
      refine wp_store_mid 32 (.tmp 10) (.tmp 63) hoo (w.heap.size + 1) 0 (cellsOf x).toArray (by rfl) (by rfl) HT1.out HXI.out (cellsOf_all _) ?_
      rw [hod, List.toList_toArray]
      have HC1 := Lib.hid (HC.out.c2 x (HXL.out.trans HL1.out.symm))
      have HS1 := Lib.hid (show RB w old (some ⟨b, o, none⟩) (l + 1) way (some g) z _ from HS.out.store HR.out HC1.out HXL.out HL2.out (by omega) (by omega) (only_cells _ _ _))
      refine ⟨HS1.out, ?_⟩
      clear HS HT1 hod hoo HC
      simp only [Act.put]
      have HT2 := Lib.hid (HC1.out.2.2.1.there _ (show (cellsOf NY).toArray.size = _ from (cellsOf_size _).trans (HYL.out.trans HL2.out.symm)))
      refine anyH_op 6 (d := none) (op := .store 32 (.tmp 11) (.tmp 66)) (by kernel_rfl) (by rfl) ?_
      intro o1 hod hoo
      refine wp_store_mid 32 (.tmp 11) (.tmp 66) hoo (w.heap.size + 1 + 1) 0 (cellsOf NY).toArray (by rfl) (by rfl) HT2.out HYI.out (cellsOf_all _) ?_
      rw [hod, List.toList_toArray]
      have HC2 := Lib.hid (HC1.out.c3 NY (HYL.out.trans HL2.out.symm))
      have HS2 := Lib.hid (show RB w old (some ⟨b, o, none⟩) (l + 1) way (some g) z _ from HS1.out.store HR.out HC2.out HXL.out HYL.out (by omega) (by omega) (only_cells _ _ _))
      refine ⟨HS2.out, ?_⟩
      clear HS1 HT2 hod hoo HC1
      simp only [Act.put]
      refine anyH_pureG 7 (d := 12) (op := .assign (.tmp 67)) (gd := none) (.bool c) (by rfl) (fun o ho => wanted_plain ho _) (by kernel_rfl) (by kernel_rfl) (by kernel_rfl) (fun _ _ _ h => h) (fun o ho W hW => by unfold execOp; simp only [ho]; go_simp) HS2.out ?_
      simp only [Act.put, List.setIfInBounds_toArray, List.set_cons_zero, List.set_cons_succ]
      refine wpAnyH_done (by kernel_rfl) ?_ _
      refine gen_exit (F := A3 w old x NY) HC2.out ?_
      intro wF hf
      have HF := Lib.hid hf
      clear hf HC2 HS2
      go_wp2
      refine bodyPost_ret (results_two (by rfl) _ _ (w.heap.size + 1) (w.heap.size + 1 + 1) _ _ (cellsOf x).toArray (cellsOf NY).toArray (0, 0) (0, 0) _ (.bool c) (by rfl) (by rfl) (by rfl) HF.out.2.1 HF.out.2.2.1 Tryd.underlying32 (by rfl) HXI.out HYI.out) ?_ ?_
      · rfl
      · exact ⟨x, NY, HX.out, HND.out, by rw [HPOST.out.1], HPOST.out.2, HF.out.2.2.2⟩
    · intro o1 hod hoo
      refine wp_call_fn (R := _) hoo (vs := #[.agg (cellsOf y).toArray, .agg (cellsOf z).toArray]) (by go_simp) (by go_simp) (HNODE.out _ HS.out) ?_
      rintro e w9 ⟨rfl, hb9⟩
      refine ⟨_, rfl, HS.out.step hb9, ?_⟩
      rw [hod]
      have HS := Lib.hid (HS.out.step hb9)
      have HC := Lib.hid (HC.out.below hb9)
      clear hod hoo hb9
      simp only [Act.put, List.setIfInBounds_toArray, List.set_cons_zero, List.set_cons_succ]
      refine anyH_op 0 (d := (some 63)) (op := .load 32 (.tmp 10)) (by kernel_rfl) (by rfl) ?_
      intro o1 hod hoo
      refine wp_load_row 32 (.tmp 10) hoo (w.heap.size + 1) (by rfl) _ (cellsOf x).toArray (0, 0) _ HC.out.2.1 Tryd.underlying32 (by rfl) HXI.out ?_
      rw [hod]
      refine ⟨HS.out, ?_⟩
      clear hod hoo
      simp only [Act.put, List.setIfInBounds_toArray, List.set_cons_zero, List.set_cons_succ]
      have HYI := HYI2
      have HYL := HYL2
      have HT1 := Lib.hid (HC.out.2.1.there _ (show (cellsOf x).toArray.size = _ from (cellsOf_size _).trans (HXL.out.trans HL1.out.symm)))
      refine anyH_op 5 (d := none) (op := .store 32 (.tmp 10) (.tmp 63)) (by kernel_rfl) (by rfl) ?_
      intro o1 hod hoo
      refine wp_store_mid 32 (.tmp 10) (.tmp 63) hoo (w.heap.size + 1) 0 (cellsOf x).toArray (by rfl) (by rfl) HT1.out HXI.out (cellsOf_all _) ?_
      rw [hod, List.toList_toArray]
      have HC1 := Lib.hid (HC.out.c2 x (HXL.out.trans HL1.out.symm))
      have HS1 := Lib.hid (show RB w old (some ⟨b, o, none⟩) (l + 1) way (some g) z _ from HS.out.store HR.out HC1.out HXL.out HL2.out (by omega) (by omega) (only_cells _ _ _))
      refine ⟨HS1.out, ?_⟩
      clear HS HT1 hod hoo HC
      simp only [Act.put]
      have HT2 := Lib.hid (HC1.out.2.2.1.there _ (show (cellsOf NY).toArray.size = _ from (cellsOf_size _).trans (HYL.out.trans HL2.out.symm)))
      refine anyH_op 6 (d := none) (op := .store 32 (.tmp 11) (.tmp 66)) (by kernel_rfl) (by rfl) ?_
      intro o1 hod hoo
      refine wp_store_mid 32 (.tmp 11) (.tmp 66) hoo (w.heap.size + 1 + 1) 0 (cellsOf NY).toArray (by rfl) (by rfl) HT2.out HYI.out (cellsOf_all _) ?_
      rw [hod, List.toList_toArray]
      have HC2 := Lib.hid (HC1.out.c3 NY (HYL.out.trans HL2.out.symm))
      have HS2 := Lib.hid (show RB w old (some ⟨b, o, none⟩) (l + 1) way (some g) z _ from HS1.out.store HR.out HC2.out HXL.out HYL.out (by omega) (by omega) (only_cells _ _ _))
      refine ⟨HS2.out, ?_⟩
      clear HS1 HT2 hod hoo HC1
      simp only [Act.put]
      refine anyH_pureG 7 (d := 12) (op := .assign (.tmp 67)) (gd := none) (.bool c) (by rfl) (fun o ho => wanted_plain ho _) (by kernel_rfl) (by kernel_rfl) (by kernel_rfl) (fun _ _ _ h => h) (fun o ho W hW => by unfold execOp; simp only [ho]; go_simp) HS2.out ?_
      simp only [Act.put, List.setIfInBounds_toArray, List.set_cons_zero, List.set_cons_succ]
      refine wpAnyH_done (by kernel_rfl) ?_ _
      refine gen_exit (F := A3 w old x NY) HC2.out ?_
      intro wF hf
      have HF := Lib.hid hf
      clear hf HC2 HS2
      go_wp2
      refine bodyPost_ret (results_two (by rfl) _ _ (w.heap.size + 1) (w.heap.size + 1 + 1) _ _ (cellsOf x).toArray (cellsOf NY).toArray (0, 0) (0, 0) _ (.bool c) (by rfl) (by rfl) (by rfl) HF.out.2.1 HF.out.2.2.1 Tryd.underlying32 (by rfl) HXI.out HYI.out) ?_ ?_
      · rfl
      · exact ⟨x, NY, HX.out, HND.out, by rw [HPOST.out.1], HPOST.out.2, HF.out.2.2.2⟩
set_option maxRecDepth 100000 in
set_option maxHeartbeats 8000000 in
theorem reb_r (n k m : Nat) (whole : Bool) (ih : REH n) (old : List Nat) (a : Option Addr) (l cap : Nat) (way : Ds) (w : World) (ho : D32 old) (hr : DR w a (l + 1) way) (hlc : l + 1 ≤ cap) (hcm : cap ≤ 9223372036854775807) (ht : Tab w) (h1 : 1 ≤ m) (hm : m < n) (hn : n ≤ 9223372036854775807) (hk : Mk.half n = k) (hik : ¬ m ≤ k) :
    Calls Tryd.prog 33 #[.agg (cellsOf old).toArray, .int .i64 (m : Int), .int .i64 (n : Int), .bool whole, .slice a (l + 1) cap] w (RebRet old m n whole way w) := by
  obtain ⟨b, o, rfl, _, _⟩ := hr.at l (by omega)
  obtain ⟨z, hz⟩ : ∃ z, z = way.getD l [] := ⟨_, rfl⟩
  have HZ := Lib.hid (show D32 z from by rw [hz]; exact D32.get hr.2.1 l (by rw [hr.1]; omega))
  have HOLD := Lib.hid ho
  have HR := Lib.hid hr
  have HZI := Lib.hid (info32 dtA HZ.out)
  have HZZ := Lib.hid (zsize HZ.out)
  have kI := fun W => run_dindex dtA W b o (l + 1) cap l (by omega)
  have HLZ0 := Lib.hid (show ∀ W, DR W (some ⟨b, o, none⟩) (l + 1) way → (Instr.loadAt 32 (.pointer (some ⟨b, o + l * 32, none⟩))).run Tryd.prog W = .ok (.agg (cellsOf z).toArray) W from fun W hW => run_dload dtA W b (o + l * 32) z HZ.out (by
    obtain ⟨b', o', h1, _, h3⟩ := hW.at l (by omega)
    simp only [Option.some.injEq, Addr.mk.injEq, and_true] at h1
    obtain ⟨rfl, rfl⟩ := h1
    rw [hz]
    exact h3))
  have hk0 : 0 < k := by rw [← hk]; exact Mk.half_pos n
  have hkn : k < n := by rw [← hk]; exact Mk.half_lt n (by omega)
  have HH := Lib.hid (fun W => split_c n W (by omega) (by omega))
  rw [hk] at HH
  have q0 : ¬ (m : Int) = (n : Int) := by omega
  have q2 : ¬ (m : Int) ≤ (k : Int) := by omega
  have HT := Lib.hid ht
  have hpos := ht.pos
  obtain ⟨c, hc⟩ : ∃ c, c = (bothS old (m - k) (n - k) false (way.take l)).isSome := ⟨_, rfl⟩
  have HIN := Lib.hid (show ∀ W, DR W (some ⟨b, o, none⟩) (l + 1) way → Tab W → Calls Tryd.prog 33 #[.agg (cellsOf old).toArray, .int .i64 ((m - k : Nat) : Int), .int .i64 ((n - k : Nat) : Int), .bool false, .slice (some ⟨b, o, none⟩) l cap] W (fun e w' => ∃ x y, D32 x ∧ D32 y ∧ e = .returned (.tuple #[.agg (cellsOf x).toArray, .agg (cellsOf y).toArray, .bool c]) ∧ (∀ q, bothS old (m - k) (n - k) false (way.take l) = some q → (x, y) = q) ∧ Below W.heap.size W w') from fun W hW hT => by rw [hc]; exact ih (n - k) (by omega) old (m - k) false _ l cap _ W (by omega) (by omega) ho (hW.take l (by omega)) (by omega) hcm hT)
  have HFIN := Lib.hid (show ∀ x y, (∀ q, bothS old (m - k) (n - k) false (way.take l) = some q → (x, y) = q) → (bothS old m n whole way).isSome = c ∧ ∀ q, bothS old m n whole way = some q → (nodeS z x, nodeS z y) = q from fun x y hx => by
    have e : bothS old m n whole way = (bothS old (m - k) (n - k) false (way.take l)).map fun q => (nodeS z q.1, nodeS z q.2) := by
      conv => lhs; rw [way_snoc hr.1]
      rw [hz, ← hk]; exact Mk.both_right _ _ _ _ _ _ _ h1 hm (by rw [hk]; exact hik)
    rw [e, hc]
    refine ⟨by simp, fun q hq => ?_⟩
    obtain ⟨q', h1, h3⟩ := Option.map_eq_some_iff.1 hq
    rw [← h3, ← hx q' h1])
  clear ho hr hz hc ht ih hk
  go_enter Tryd.func33, Tryd.ntmps33
  go_upto_region 1 with fail
  refine gen_code (F := A3 w old zs32 zs32) (A3.new w old zs32 zs32) ?_
  intro wA hc
  have HC := Lib.hid hc
  clear hc
  have HLZ := Lib.hid (HLZ0.out wA (HR.out.below HC.out.2.2.2))
  have K1 := Lib.hid (fun (O : Obj) (hO : O = .cells (cellsOf zs32).toArray 32 (0, 0)) => show A3 w old zs32 zs32 ((wA.alloc O).setRow wA.heap.size (cellsOf z).toArray) ∧ Brow ((wA.alloc O).setRow wA.heap.size (cellsOf z).toArray) wA.heap.size 32 z from by
    subst hO
    have hb : Below wA.heap.size wA ((wA.alloc (.cells (cellsOf zs32).toArray 32 (0, 0))).setRow wA.heap.size (cellsOf z).toArray) := ((Below.refl _ _).alloc (Nat.le_refl _) _).setRow (Nat.le_refl _) _
    exact ⟨HC.out.below hb, (Brow.new wA 32 zs32).setRow⟩)
  have hg : w.heap.size + 1 + 1 < wA.heap.size := HC.out.2.2.1.lt
  go_upto_region 7 with (first | (refine wpList_loadg 32 _ (by rfl) (by rfl) (.pointer (some ⟨b, o + l * 32, none⟩)) (by rfl) (.agg (cellsOf z).toArray) HLZ.out ?_) | (refine wpList_store_row (by rfl) 32 _ _ (by rfl) wA.heap.size (cellsOf z).toArray (by rfl) (by rfl) 32 (cellsOf zs32).toArray (by exact heap_new _ _) HZI.out HZZ.out (cellsOf_all _) ?_))
  obtain ⟨g, hge⟩ : ∃ g, g = wA.heap.size := ⟨_, rfl⟩
  rw [← hge] at K1 hg ⊢
  refine gen_code (F := fun W => A3 w old zs32 zs32 W ∧ Brow W g 32 z) (by rw [hge]; rw [hge] at K1; exact K1.out _ rfl) ?_
  rintro wB ⟨hc, hz1⟩
  have HC := Lib.hid hc.drew
  have HL1 := Lib.hid zs32_len
  have HL2 := Lib.hid zs32_len
  have HS := Lib.hid (show RB w old (some ⟨b, o, none⟩) (l + 1) way (some g) z wB.drew from ⟨⟨zs32, zs32, zs32_len, zs32_len, hc.drew⟩, HR.out.below hc.drew.2.2.2, fun c hc2 => by cases hc2; exact ⟨hg, hz1.drew⟩⟩)
  have HLG := Lib.hid (fun W (hW : RB w old (some ⟨b, o, none⟩) (l + 1) way (some g) z W) => run_dload dtA W g 0 z HZ.out (hW.2.2 g rfl).2.range)
  have HLO := Lib.hid (fun W (hW : RB w old (some ⟨b, o, none⟩) (l + 1) way (some g) z W) => run_dload dtA W w.heap.size 0 old HOLD.out hW.old)
  clear hc hz1 K1 HLZ HLZ0 kI hge
  go_upto_region 13 with (first | (go_at_call 40; refine (HH.out _).mono ?_; rintro e wb ⟨rfl, rfl⟩))
  (try dsimp only [Act.put, List.setIfInBounds_toArray, List.set_cons_zero, List.set_cons_succ])
  refine anyH_begin (S := RB w old (some ⟨b, o, none⟩) (l + 1) way (some g) z) (by kernel_rfl) ?_
  refine anyH_loadG 0 (d := 69) (ty := 32) (x := (.tmp 5)) (gd := none) (p := .pointer (some ⟨w.heap.size, 0, none⟩)) (.agg (cellsOf old).toArray) (by rfl) (fun o ho => wanted_plain ho _) (by kernel_rfl) (by kernel_rfl) (by kernel_rfl) (fun _ _ _ h => h) (by rfl) HLO.out HS.out ?_
  simp only [Act.put, List.setIfInBounds_toArray, List.set_cons_zero, List.set_cons_succ]
  refine anyH_pureG 1 (d := 70) (op := .move (.tmp 1)) (gd := none) (.int .i64 (m : Int)) (by rfl) (fun o ho => wanted_plain ho _) (by kernel_rfl) (by kernel_rfl) (by kernel_rfl) (fun _ _ _ h => h) (fun o ho W hW => by unfold execOp; simp only [ho]; go_simp) HS.out ?_
  simp only [Act.put, List.setIfInBounds_toArray, List.set_cons_zero, List.set_cons_succ]
  refine anyH_pureG 2 (d := 71) (op := .move (.tmp 15)) (gd := none) (.int .i64 (k : Int)) (by rfl) (fun o ho => wanted_plain ho _) (by kernel_rfl) (by kernel_rfl) (by kernel_rfl) (fun _ _ _ h => h) (fun o ho W hW => by unfold execOp; simp only [ho]; go_simp) HS.out ?_
  simp only [Act.put, List.setIfInBounds_toArray, List.set_cons_zero, List.set_cons_succ]
  refine anyH_pureG 3 (d := 72) (op := .binOp .sub 3 (.tmp 70) (.tmp 71) 3) (gd := none) (.int .i64 ((m - k : Nat) : Int)) (by rfl) (fun o ho => wanted_plain ho _) (by kernel_rfl) (by kernel_rfl) (by kernel_rfl) (fun _ _ _ h => h) (fun o ho W hW => by unfold execOp; simp only [ho]; rw [show ((m - k : Nat) : Int) = (m : Int) - (k : Int) by omega]; go_simp; rw [IntKind.wrap_i64]; omega) HS.out ?_
  simp only [Act.put, List.setIfInBounds_toArray, List.set_cons_zero, List.set_cons_succ]
  refine anyH_pureG 4 (d := 73) (op := .move (.tmp 2)) (gd := none) (.int .i64 (n : Int)) (by rfl) (fun o ho => wanted_plain ho _) (by kernel_rfl) (by kernel_rfl) (by kernel_rfl) (fun _ _ _ h => h) (fun o ho W hW => by unfold execOp; simp only [ho]; go_simp) HS.out ?_
  simp only [Act.put, List.setIfInBounds_toArray, List.set_cons_zero, List.set_cons_succ]
  refine anyH_pureG 5 (d := 74) (op := .move (.tmp 15)) (gd := none) (.int .i64 (k : Int)) (by rfl) (fun o ho => wanted_plain ho _) (by kernel_rfl) (by kernel_rfl) (by kernel_rfl) (fun _ _ _ h => h) (fun o ho W hW => by unfold execOp; simp only [ho]; go_simp) HS.out ?_
  simp only [Act.put, List.setIfInBounds_toArray, List.set_cons_zero, List.set_cons_succ]
  refine anyH_pureG 6 (d := 75) (op := .binOp .sub 3 (.tmp 73) (.tmp 74) 3) (gd := none) (.int .i64 ((n - k : Nat) : Int)) (by rfl) (fun o ho => wanted_plain ho _) (by kernel_rfl) (by kernel_rfl) (by kernel_rfl) (fun _ _ _ h => h) (fun o ho W hW => by unfold execOp; simp only [ho]; rw [show ((n - k : Nat) : Int) = (n : Int) - (k : Int) by omega]; go_simp; rw [IntKind.wrap_i64]; omega) HS.out ?_
  simp only [Act.put, List.setIfInBounds_toArray, List.set_cons_zero, List.set_cons_succ]
  refine anyH_pureG 7 (d := 76) (op := .move (.tmp 4)) (gd := none) (.slice (some ⟨b, o, none⟩) (l + 1) cap) (by rfl) (fun o ho => wanted_plain ho _) (by kernel_rfl) (by kernel_rfl) (by kernel_rfl) (fun _ _ _ h => h) (fun o ho W hW => by unfold execOp; simp only [ho]; go_simp) HS.out ?_
  simp only [Act.put, List.setIfInBounds_toArray, List.set_cons_zero, List.set_cons_succ]
  refine anyH_pureG 8 (d := 77) (op := .move (.tmp 13)) (gd := none) (.int .i64 (l : Int)) (by rfl) (fun o ho => wanted_plain ho _) (by kernel_rfl) (by kernel_rfl) (by kernel_rfl) (fun _ _ _ h => h) (fun o ho W hW => by unfold execOp; simp only [ho]; go_simp) HS.out ?_
  simp only [Act.put, List.setIfInBounds_toArray, List.set_cons_zero, List.set_cons_succ]
  refine anyH_dhead dtA 9 (d := 78) (x := .tmp 76) (y := .tmp 77) (some ⟨b, o, none⟩) (l + 1) cap l (by omega) (by rfl) (by kernel_rfl) (by kernel_rfl) (by kernel_rfl) (fun _ _ _ h => h) (by rfl) (by rfl) HS.out ?_
  simp only [Act.put, List.setIfInBounds_toArray, List.set_cons_zero, List.set_cons_succ]
  refine anyH_callG 10 (d := some 79) (f := 33) (xs := #[(.tmp 69), (.tmp 72), (.tmp 75), (.const (.bool false)), (.tmp 78)]) (ts := #[32, 3, 3, 4, 28]) (gd := none) (vs := #[.agg (cellsOf old).toArray, .int .i64 ((m - k : Nat) : Int), .int .i64 ((n - k : Nat) : Int), (.bool false), .slice (some ⟨b, o, none⟩) l cap]) (by kernel_rfl) (by rfl) (fun o ho => wanted_plain ho _) (by go_simp) (by go_simp) (HIN.out _ HS.out.2.1 (HT.out.below HS.out.bel hpos)) ?_
  rintro e w1 ⟨x, y, hx, hy, rfl, hxe, hb1⟩
  refine ⟨_, rfl, HS.out.step hb1, fun hS1 => ?_⟩
  have HS := Lib.hid hS1
  have HC := Lib.hid (HC.out.below hb1)
  have HX := Lib.hid hx
  have HY := Lib.hid hy
  have HXE := Lib.hid hxe
  have HXI := Lib.hid (info32 dtA hx)
  have HYI := Lib.hid (info32 dtA hy)
  have HXL := Lib.hid hx.1
  have HYL := Lib.hid hy.1
  clear hS1 hb1 hx hy hxe
  simp only [Act.put, List.setIfInBounds_toArray, List.set_cons_zero, List.set_cons_succ]
  refine anyH_pureG 11 (d := 68) (op := .move (.tmp 79)) (gd := none) (.tuple #[.agg (cellsOf x).toArray, .agg (cellsOf y).toArray, .bool c]) (by rfl) (fun o ho => wanted_plain ho _) (by kernel_rfl) (by kernel_rfl) (by kernel_rfl) (fun _ _ _ h => h) (fun o ho W hW => by unfold execOp; simp only [ho]; go_simp) HS.out ?_
  simp only [Act.put, List.setIfInBounds_toArray, List.set_cons_zero, List.set_cons_succ]
  refine anyH_pureG 12 (d := 80) (op := .extract (.tmp 68) 0) (gd := none) (.agg (cellsOf x).toArray) (by rfl) (fun o ho => wanted_plain ho _) (by kernel_rfl) (by kernel_rfl) (by kernel_rfl) (fun _ _ _ h => h) (fun o ho W hW => by unfold execOp; simp only [ho]; go_simp) HS.out ?_
  simp only [Act.put, List.setIfInBounds_toArray, List.set_cons_zero, List.set_cons_succ]
  refine anyH_pureG 13 (d := 81) (op := .extract (.tmp 68) 1) (gd := none) (.agg (cellsOf y).toArray) (by rfl) (fun o ho => wanted_plain ho _) (by kernel_rfl) (by kernel_rfl) (by kernel_rfl) (fun _ _ _ h => h) (fun o ho W hW => by unfold execOp; simp only [ho]; go_simp) HS.out ?_
  simp only [Act.put, List.setIfInBounds_toArray, List.set_cons_zero, List.set_cons_succ]
  refine anyH_pureG 14 (d := 82) (op := .extract (.tmp 68) 2) (gd := none) (.bool c) (by rfl) (fun o ho => wanted_plain ho _) (by kernel_rfl) (by kernel_rfl) (by kernel_rfl) (fun _ _ _ h => h) (fun o ho W hW => by unfold execOp; simp only [ho]; go_simp) HS.out ?_
  simp only [Act.put, List.setIfInBounds_toArray, List.set_cons_zero, List.set_cons_succ]
  have HT1 := Lib.hid (HC.out.2.1.there _ (show (cellsOf x).toArray.size = _ from (cellsOf_size _).trans (HXL.out.trans HL1.out.symm)))
  refine anyH_op 15 (d := none) (op := .store 32 (.tmp 10) (.tmp 80)) (by kernel_rfl) (by rfl) ?_
  intro o1 hod hoo
  refine wp_store_mid 32 (.tmp 10) (.tmp 80) hoo (w.heap.size + 1) 0 (cellsOf x).toArray (by rfl) (by rfl) HT1.out HXI.out (cellsOf_all _) ?_
  rw [hod, List.toList_toArray]
  have HC1 := Lib.hid (HC.out.c2 x (HXL.out.trans HL1.out.symm))
  have HS1 := Lib.hid (show RB w old (some ⟨b, o, none⟩) (l + 1) way (some g) z _ from HS.out.store HR.out HC1.out HXL.out HL2.out (by omega) (by omega) (only_cells _ _ _))
  refine ⟨HS1.out, ?_⟩
  clear HS HT1 hod hoo HC
  simp only [Act.put]
  have HT2 := Lib.hid (HC1.out.2.2.1.there _ (show (cellsOf y).toArray.size = _ from (cellsOf_size _).trans (HYL.out.trans HL2.out.symm)))
  refine anyH_op 16 (d := none) (op := .store 32 (.tmp 11) (.tmp 81)) (by kernel_rfl) (by rfl) ?_
  intro o1 hod hoo
  refine wp_store_mid 32 (.tmp 11) (.tmp 81) hoo (w.heap.size + 1 + 1) 0 (cellsOf y).toArray (by rfl) (by rfl) HT2.out HYI.out (cellsOf_all _) ?_
  rw [hod, List.toList_toArray]
  have HC2 := Lib.hid (HC1.out.c3 y (HYL.out.trans HL2.out.symm))
  have HS2 := Lib.hid (show RB w old (some ⟨b, o, none⟩) (l + 1) way (some g) z _ from HS1.out.store HR.out HC2.out HXL.out HYL.out (by omega) (by omega) (only_cells _ _ _))
  refine ⟨HS2.out, ?_⟩
  clear HS1 HT2 hod hoo HC1
  simp only [Act.put]
  refine anyH_pureG 17 (d := 12) (op := .assign (.tmp 82)) (gd := none) (.bool c) (by rfl) (fun o ho => wanted_plain ho _) (by kernel_rfl) (by kernel_rfl) (by kernel_rfl) (fun _ _ _ h => h) (fun o ho W hW => by unfold execOp; simp only [ho]; go_simp) HS2.out ?_
  simp only [Act.put, List.setIfInBounds_toArray, List.set_cons_zero, List.set_cons_succ]
  refine wpAnyH_done (by kernel_rfl) ?_ _
  refine gen_exit (F := fun W => A3 w old x y W ∧ RB w old (some ⟨b, o, none⟩) (l + 1) way (some g) z W) ⟨HC2.out, HS2.out⟩ ?_
  rintro wE ⟨hc, hs⟩
  clear HC2 HS2 HL1 HL2
  have HC := Lib.hid hc.drew
  have HS := Lib.hid (show RB w old (some ⟨b, o, none⟩) (l + 1) way (some g) z wE.drew from ⟨⟨x, y, HXL.out, HYL.out, hc.drew⟩, hs.2.1, fun c hc2 => ⟨(hs.2.2 c hc2).1, (hs.2.2 c hc2).2.drew⟩⟩)
  have HL1 := Lib.hid HXL.out
  have HL2 := Lib.hid HYL.out
  clear hc hs
  go_upto_region 14 with fail
  (try dsimp only [Act.put, List.setIfInBounds_toArray, List.set_cons_zero, List.set_cons_succ])
  obtain ⟨NX, hNX⟩ : ∃ N, N = nodeS z x := ⟨_, rfl⟩
  obtain ⟨NY, hNY⟩ : ∃ N, N = nodeS z y := ⟨_, rfl⟩
  have HNDX := Lib.hid (show D32 NX from by rw [hNX]; exact d32_sum _)
  have HNDY := Lib.hid (show D32 NY from by rw [hNY]; exact d32_sum _)
  have HNODX := Lib.hid (show ∀ W, RB w old (some ⟨b, o, none⟩) (l + 1) way (some g) z W → Calls Tryd.prog 26 #[.agg (cellsOf z).toArray, .agg (cellsOf x).toArray] W (DigRet NX W) from fun W hW => by rw [hNX]; exact node_c z x W HZ.out HX.out (HT.out.below hW.bel hpos))
  have HNODY := Lib.hid (show ∀ W, RB w old (some ⟨b, o, none⟩) (l + 1) way (some g) z W → Calls Tryd.prog 26 #[.agg (cellsOf z).toArray, .agg (cellsOf y).toArray] W (DigRet NY W) from fun W hW => by rw [hNY]; exact node_c z y W HZ.out HY.out (HT.out.below hW.bel hpos))
  have HPOST := Lib.hid (show (bothS old m n whole way).isSome = c ∧ ∀ q, bothS old m n whole way = some q → (NX, NY) = q from by rw [hNX, hNY]; exact HFIN.out x y HXE.out)
  have HXI2 := Lib.hid (info32 dtA HNDX.out)
  have HXL2 := Lib.hid HNDX.out.1
  have HYI2 := Lib.hid (info32 dtA HNDY.out)
  have HYL2 := Lib.hid HNDY.out.1
  clear hNX hNY
  refine anyH_begin (S := RB w old (some ⟨b, o, none⟩) (l + 1) way (some g) z) (by kernel_rfl) ?_
  refine anyH_loadG 0 (d := 83) (ty := 32) (x := (.tmp 14)) (gd := none) (p := .pointer (some ⟨g, 0, none⟩)) (.agg (cellsOf z).toArray) (by rfl) (fun o ho => wanted_plain ho _) (by kernel_rfl) (by kernel_rfl) (by kernel_rfl) (fun _ _ _ h => h) (by rfl) HLG.out HS.out ?_
  simp only [Act.put, List.setIfInBounds_toArray, List.set_cons_zero, List.set_cons_succ]
  refine anyH_loadG 3 (d := 86) (ty := 32) (x := (.tmp 14)) (gd := none) (p := .pointer (some ⟨g, 0, none⟩)) (.agg (cellsOf z).toArray) (by rfl) (fun o ho => wanted_plain ho _) (by kernel_rfl) (by kernel_rfl) (by kernel_rfl) (fun _ _ _ h => h) (by rfl) HLG.out HS.out ?_
  simp only [Act.put, List.setIfInBounds_toArray, List.set_cons_zero, List.set_cons_succ]
  refine anyH_pureG 6 (d := 89) (op := .move (.tmp 12)) (gd := none) (.bool c) (by rfl) (fun o ho => wanted_plain ho _) (by kernel_rfl) (by kernel_rfl) (by kernel_rfl) (fun _ _ _ h => h) (fun o ho W hW => by unfold execOp; simp only [ho]; go_simp) HS.out ?_
  simp only [Act.put, List.setIfInBounds_toArray, List.set_cons_zero, List.set_cons_succ]
  refine anyH_two 1 4 (d1 := (some 84)) (op1 := .load 32 (.tmp 10)) (d2 := (some 87)) (op2 := .load 32 (.tmp 11)) (by kernel_rfl) (by rfl) (by rfl) ?_ ?_
  · intro o1 hod hoo
    refine wp_load_row 32 (.tmp 10) hoo (w.heap.size + 1) (by rfl) _ (cellsOf x).toArray (0, 0) _ HC.out.2.1 Tryd.underlying32 (by rfl) HXI.out ?_
    rw [hod]
    refine ⟨HS.out, ?_⟩
    clear hod hoo
    simp only [Act.put, List.setIfInBounds_toArray, List.set_cons_zero, List.set_cons_succ]
    refine anyH_two 2 4 (d1 := (some 85)) (op1 := .call { callee := .value (.func 26), args := #[(.tmp 83), (.tmp 84)], argTypes := #[32, 32] }) (d2 := (some 87)) (op2 := .load 32 (.tmp 11)) (by kernel_rfl) (by rfl) (by rfl) ?_ ?_
    · intro o1 hod hoo
      refine wp_call_fn (R := _) hoo (vs := #[.agg (cellsOf z).toArray, .agg (cellsOf x).toArray]) (by go_simp) (by go_simp) (HNODX.out _ HS.out) ?_
      rintro e w9 ⟨rfl, hb9⟩
      refine ⟨_, rfl, HS.out.step hb9, ?_⟩
      rw [hod]
      have HS := Lib.hid (HS.out.step hb9)
      have HC := Lib.hid (HC.out.below hb9)
      clear hod hoo hb9
      simp only [Act.put, List.setIfInBounds_toArray, List.set_cons_zero, List.set_cons_succ]
      refine anyH_op 4 (d := (some 87)) (op := .load 32 (.tmp 11)) (by kernel_rfl) (by rfl) ?_
      intro o1 hod hoo
      refine wp_load_row 32 (.tmp 11) hoo (w.heap.size + 1 + 1) (by rfl) _ (cellsOf y).toArray (0, 0) _ HC.out.2.2.1 Tryd.underlying32 (by rfl) HYI.out ?_
      rw [hod]
      refine ⟨HS.out, ?_⟩
      clear hod hoo
      simp only [Act.put, List.setIfInBounds_toArray, List.set_cons_zero, List.set_cons_succ]
      refine anyH_op 5 (d := (some 88)) (op := .call { callee := .value (.func 26), args := #[(.tmp 86), (.tmp 87)], argTypes := #[32, 32] }) (by kernel_rfl) (by rfl) ?_
      intro o1 hod hoo
      refine wp_call_fn (R := _) hoo (vs := #[.agg (cellsOf z).toArray, .agg (cellsOf y).toArray]) (by go_simp) (by go_simp) (HNODY.out _ HS.out) ?_
      rintro e w9 ⟨rfl, hb9⟩
      refine ⟨_, rfl, HS.out.step hb9, ?_⟩
      rw [hod]
      have HS := Lib.hid (HS.out.step hb9)
      have HC := Lib.hid (HC.out.below hb9)
      clear hod hoo hb9
      simp only [Act.put, List.setIfInBounds_toArray, List.set_cons_zero, List.set_cons_succ]
      have HXI := HXI2
      have HXL := HXL2
      have HYI := HYI2
      have HYL := HYL2
      have HT1 := Lib.hid (HC.out.2.1.there _ (show (cellsOf NX).toArray.size = _ from (cellsOf_size _).trans (HXL.out.trans HL1.out.symm)))
      refine anyH_op 7 (d := none) (op := .store 32 (.tmp 10) (.tmp 85)) (by kernel_rfl) (by rfl) ?_
      intro o1 hod hoo
      refine wp_store_mid 32 (.tmp 10) (.tmp 85) hoo (w.heap.size + 1) 0 (cellsOf NX).toArray (by rfl) (by rfl) HT1.out HXI.out (cellsOf_all _) ?_
      rw [hod, List.toList_toArray]
      have HC1 := Lib.hid (HC.out.c2 NX (HXL.out.trans HL1.out.symm))
      have HS1 := Lib.hid (show RB w old (some ⟨b, o, none⟩) (l + 1) way (some g) z _ from HS.out.store HR.out HC1.out HXL.out HL2.out (by omega) (by omega) (only_cells _ _ _))
      refine ⟨HS1.out, ?_⟩
      clear HS HT1 hod hoo HC
      simp only [Act.put]
      have HT2 := Lib.hid (HC1.out.2.2.1.there _ (show (cellsOf NY).toArray.size = _ from (cellsOf_size _).trans (HYL.out.trans HL2.out.symm)))
      refine anyH_op 8 (d := none) (op := .store 32 (.tmp 11) (.tmp 88)) (by kernel_rfl) (by rfl) ?_
      intro o1 hod hoo
      refine wp_store_mid 32 (.tmp 11) (.tmp 88) hoo (w.heap.size + 1 + 1) 0 (cellsOf NY).toArray (by rfl) (by rfl) HT2.out HYI.out (cellsOf_all _) ?_
      rw [hod, List.toList_toArray]
      have HC2 := Lib.hid (HC1.out.c3 NY (HYL.out.trans HL2.out.symm))
      have HS2 := Lib.hid (show RB w old (some ⟨b, o, none⟩) (l + 1) way (some g) z _ from HS1.out.store HR.out HC2.out HXL.out HYL.out (by omega) (by omega) (only_cells _ _ _))
      refine ⟨HS2.out, ?_⟩
      clear HS1 HT2 hod hoo HC1
      simp only [Act.put]
      refine anyH_pureG 9 (d := 12) (op := .assign (.tmp 89)) (gd := none) (.bool c) (by rfl) (fun o ho => wanted_plain ho _) (by kernel_rfl) (by kernel_rfl) (by kernel_rfl) (fun _ _ _ h => h) (fun o ho W hW => by unfold execOp; simp only [ho]; go_simp) HS2.out ?_
      simp only [Act.put, List.setIfInBounds_toArray, List.set_cons_zero, List.set_cons_succ]
      refine wpAnyH_done (by kernel_rfl) ?_ _
      refine gen_exit (F := A3 w old NX NY) HC2.out ?_
      intro wF hf
      have HF := Lib.hid hf
      clear hf HC2 HS2
      go_wp2
      refine bodyPost_ret (results_two (by rfl) _ _ (w.heap.size + 1) (w.heap.size + 1 + 1) _ _ (cellsOf NX).toArray (cellsOf NY).toArray (0, 0) (0, 0) _ (.bool c) (by rfl) (by rfl) (by rfl) HF.out.2.1 HF.out.2.2.1 Tryd.underlying32 (by rfl) HXI.out HYI.out) ?_ ?_
      · rfl
      · exact ⟨NX, NY, HNDX.out, HNDY.out, by rw [HPOST.out.1], HPOST.out.2, HF.out.2.2.2⟩
    · intro o1 hod hoo
      refine wp_load_row 32 (.tmp 11) hoo (w.heap.size + 1 + 1) (by rfl) _ (cellsOf y).toArray (0, 0) _ HC.out.2.2.1 Tryd.underlying32 (by rfl) HYI.out ?_
      rw [hod]
      refine ⟨HS.out, ?_⟩
      clear hod hoo
      simp only [Act.put, List.setIfInBounds_toArray, List.set_cons_zero, List.set_cons_succ]
      refine anyH_op 2 (d := (some 85)) (op := .call { callee := .value (.func 26), args := #[(.tmp 83), (.tmp 84)], argTypes := #[32, 32] }) (by kernel_rfl) (by rfl) ?_
      intro o1 hod hoo
      refine wp_call_fn (R := _) hoo (vs := #[.agg (cellsOf z).toArray, .agg (cellsOf x).toArray]) (by go_simp) (by go_simp) (HNODX.out _ HS.out) ?_
      rintro e w9 ⟨rfl, hb9⟩
      refine ⟨_, rfl, HS.out.step hb9, ?_⟩
      rw [hod]
      have HS := Lib.hid (HS.out.step hb9)
      have HC := Lib.hid (HC.out.below hb9)
      clear hod hoo hb9
      simp only [Act.put, List.setIfInBounds_toArray, List.set_cons_zero, List.set_cons_succ]
      refine anyH_op 5 (d := (some 88)) (op := .call { callee := .value (.func 26), args := #[(.tmp 86), (.tmp 87)], argTypes := #[32, 32] }) (by kernel_rfl) (by rfl) ?_
      intro o1 hod hoo
      refine wp_call_fn (R := _) hoo (vs := #[.agg (cellsOf z).toArray, .agg (cellsOf y).toArray]) (by go_simp) (by go_simp) (HNODY.out _ HS.out) ?_
      rintro e w9 ⟨rfl, hb9⟩
      refine ⟨_, rfl, HS.out.step hb9, ?_⟩
      rw [hod]
      have HS := Lib.hid (HS.out.step hb9)
      have HC := Lib.hid (HC.out.below hb9)
      clear hod hoo hb9
      simp only [Act.put, List.setIfInBounds_toArray, List.set_cons_zero, List.set_cons_succ]
      have HXI := HXI2
      have HXL := HXL2
      have HYI := HYI2
      have HYL := HYL2
      have HT1 := Lib.hid (HC.out.2.1.there _ (show (cellsOf NX).toArray.size = _ from (cellsOf_size _).trans (HXL.out.trans HL1.out.symm)))
      refine anyH_op 7 (d := none) (op := .store 32 (.tmp 10) (.tmp 85)) (by kernel_rfl) (by rfl) ?_
      intro o1 hod hoo
      refine wp_store_mid 32 (.tmp 10) (.tmp 85) hoo (w.heap.size + 1) 0 (cellsOf NX).toArray (by rfl) (by rfl) HT1.out HXI.out (cellsOf_all _) ?_
      rw [hod, List.toList_toArray]
      have HC1 := Lib.hid (HC.out.c2 NX (HXL.out.trans HL1.out.symm))
      have HS1 := Lib.hid (show RB w old (some ⟨b, o, none⟩) (l + 1) way (some g) z _ from HS.out.store HR.out HC1.out HXL.out HL2.out (by omega) (by omega) (only_cells _ _ _))
      refine ⟨HS1.out, ?_⟩
      clear HS HT1 hod hoo HC
      simp only [Act.put]
      have HT2 := Lib.hid (HC1.out.2.2.1.there _ (show (cellsOf NY).toArray.size = _ from (cellsOf_size _).trans (HYL.out.trans HL2.out.symm)))
      refine anyH_op 8 (d := none) (op := .store 32 (.tmp 11) (.tmp 88)) (by kernel_rfl) (by rfl) ?_
      intro o1 hod hoo
      refine wp_store_mid 32 (.tmp 11) (.tmp 88) hoo (w.heap.size + 1 + 1) 0 (cellsOf NY).toArray (by rfl) (by rfl) HT2.out HYI.out (cellsOf_all _) ?_
      rw [hod, List.toList_toArray]
      have HC2 := Lib.hid (HC1.out.c3 NY (HYL.out.trans HL2.out.symm))
      have HS2 := Lib.hid (show RB w old (some ⟨b, o, none⟩) (l + 1) way (some g) z _ from HS1.out.store HR.out HC2.out HXL.out HYL.out (by omega) (by omega) (only_cells _ _ _))
      refine ⟨HS2.out, ?_⟩
      clear HS1 HT2 hod hoo HC1
      simp only [Act.put]
      refine anyH_pureG 9 (d := 12) (op := .assign (.tmp 89)) (gd := none) (.bool c) (by rfl) (fun o ho => wanted_plain ho _) (by kernel_rfl) (by kernel_rfl) (by kernel_rfl) (fun _ _ _ h => h) (fun o ho W hW => by unfold execOp; simp only [ho]; go_simp) HS2.out ?_
      simp only [Act.put, List.setIfInBounds_toArray, List.set_cons_zero, List.set_cons_succ]
      refine wpAnyH_done (by kernel_rfl) ?_ _
      refine gen_exit (F := A3 w old NX NY) HC2.out ?_
      intro wF hf
      have HF := Lib.hid hf
      clear hf HC2 HS2
      go_wp2
      refine bodyPost_ret (results_two (by rfl) _ _ (w.heap.size + 1) (w.heap.size + 1 + 1) _ _ (cellsOf NX).toArray (cellsOf NY).toArray (0, 0) (0, 0) _ (.bool c) (by rfl) (by rfl) (by rfl) HF.out.2.1 HF.out.2.2.1 Tryd.underlying32 (by rfl) HXI.out HYI.out) ?_ ?_
      · rfl
      · exact ⟨NX, NY, HNDX.out, HNDY.out, by rw [HPOST.out.1], HPOST.out.2, HF.out.2.2.2⟩
  · intro o1 hod hoo
    refine wp_load_row 32 (.tmp 11) hoo (w.heap.size + 1 + 1) (by rfl) _ (cellsOf y).toArray (0, 0) _ HC.out.2.2.1 Tryd.underlying32 (by rfl) HYI.out ?_
    rw [hod]
    refine ⟨HS.out, ?_⟩
    clear hod hoo
    simp only [Act.put, List.setIfInBounds_toArray, List.set_cons_zero, List.set_cons_succ]
    refine anyH_op 1 (d := (some 84)) (op := .load 32 (.tmp 10)) (by kernel_rfl) (by rfl) ?_
    intro o1 hod hoo
    refine wp_load_row 32 (.tmp 10) hoo (w.heap.size + 1) (by rfl) _ (cellsOf x).toArray (0, 0) _ HC.out.2.1 Tryd.underlying32 (by rfl) HXI.out ?_
    rw [hod]
    refine ⟨HS.out, ?_⟩
    clear hod hoo
    simp only [Act.put, List.setIfInBounds_toArray, List.set_cons_zero, List.set_cons_succ]
    refine anyH_op 2 (d := (some 85)) (op := .call { callee := .value (.func 26), args := #[(.tmp 83), (.tmp 84)], argTypes := #[32, 32] }) (by kernel_rfl) (by rfl) ?_
    intro o1 hod hoo
    refine wp_call_fn (R := _) hoo (vs := #[.agg (cellsOf z).toArray, .agg (cellsOf x).toArray]) (by go_simp) (by go_simp) (HNODX.out _ HS.out) ?_
    rintro e w9 ⟨rfl, hb9⟩
    refine ⟨_, rfl, HS.out.step hb9, ?_⟩
    rw [hod]
    have HS := Lib.hid (HS.out.step hb9)
    have HC := Lib.hid (HC.out.below hb9)
    clear hod hoo hb9
    simp only [Act.put, List.setIfInBounds_toArray, List.set_cons_zero, List.set_cons_succ]
    refine anyH_op 5 (d := (some 88)) (op := .call { callee := .value (.func 26), args := #[(.tmp 86), (.tmp 87)], argTypes := #[32, 32] }) (by kernel_rfl) (by rfl) ?_
    intro o1 hod hoo
    refine wp_call_fn (R := _) hoo (vs := #[.agg (cellsOf z).toArray, .agg (cellsOf y).toArray]) (by go_simp) (by go_simp) (HNODY.out _ HS.out) ?_
    rintro e w9 ⟨rfl, hb9⟩
    refine ⟨_, rfl, HS.out.step hb9, ?_⟩
    rw [hod]
    have HS := Lib.hid (HS.out.step hb9)
    have HC := Lib.hid (HC.out.below hb9)
    clear hod hoo hb9
    simp only [Act.put, List.setIfInBounds_toArray, List.set_cons_zero, List.set_cons_succ]
    have HXI := HXI2
    have HXL := HXL2
    have HYI := HYI2
    have HYL := HYL2
    have HT1 := Lib.hid (HC.out.2.1.there _ (show (cellsOf NX).toArray.size = _ from (cellsOf_size _).trans (HXL.out.trans HL1.out.symm)))
    refine anyH_op 7 (d := none) (op := .store 32 (.tmp 10) (.tmp 85)) (by kernel_rfl) (by rfl) ?_
    intro o1 hod hoo
    refine wp_store_mid 32 (.tmp 10) (.tmp 85) hoo (w.heap.size + 1) 0 (cellsOf NX).toArray (by rfl) (by rfl) HT1.out HXI.out (cellsOf_all _) ?_
    rw [hod, List.toList_toArray]
    have HC1 := Lib.hid (HC.out.c2 NX (HXL.out.trans HL1.out.symm))
    have HS1 := Lib.hid (show RB w old (some ⟨b, o, none⟩) (l + 1) way (some g) z _ from HS.out.store HR.out HC1.out HXL.out HL2.out (by omega) (by omega) (only_cells _ _ _))
    refine ⟨HS1.out, ?_⟩
    clear HS HT1 hod hoo HC
    simp only [Act.put]
    have HT2 := Lib.hid (HC1.out.2.2.1.there _ (show (cellsOf NY).toArray.size = _ from (cellsOf_size _).trans (HYL.out.trans HL2.out.symm)))
    refine anyH_op 8 (d := none) (op := .store 32 (.tmp 11) (.tmp 88)) (by kernel_rfl) (by rfl) ?_
    intro o1 hod hoo
    refine wp_store_mid 32 (.tmp 11) (.tmp 88) hoo (w.heap.size + 1 + 1) 0 (cellsOf NY).toArray (by rfl) (by rfl) HT2.out HYI.out (cellsOf_all _) ?_
    rw [hod, List.toList_toArray]
    have HC2 := Lib.hid (HC1.out.c3 NY (HYL.out.trans HL2.out.symm))
    have HS2 := Lib.hid (show RB w old (some ⟨b, o, none⟩) (l + 1) way (some g) z _ from HS1.out.store HR.out HC2.out HXL.out HYL.out (by omega) (by omega) (only_cells _ _ _))
    refine ⟨HS2.out, ?_⟩
    clear HS1 HT2 hod hoo HC1
    simp only [Act.put]
    refine anyH_pureG 9 (d := 12) (op := .assign (.tmp 89)) (gd := none) (.bool c) (by rfl) (fun o ho => wanted_plain ho _) (by kernel_rfl) (by kernel_rfl) (by kernel_rfl) (fun _ _ _ h => h) (fun o ho W hW => by unfold execOp; simp only [ho]; go_simp) HS2.out ?_
    simp only [Act.put, List.setIfInBounds_toArray, List.set_cons_zero, List.set_cons_succ]
    refine wpAnyH_done (by kernel_rfl) ?_ _
    refine gen_exit (F := A3 w old NX NY) HC2.out ?_
    intro wF hf
    have HF := Lib.hid hf
    clear hf HC2 HS2
    go_wp2
    refine bodyPost_ret (results_two (by rfl) _ _ (w.heap.size + 1) (w.heap.size + 1 + 1) _ _ (cellsOf NX).toArray (cellsOf NY).toArray (0, 0) (0, 0) _ (.bool c) (by rfl) (by rfl) (by rfl) HF.out.2.1 HF.out.2.2.1 Tryd.underlying32 (by rfl) HXI.out HYI.out) ?_ ?_
    · rfl
    · exact ⟨NX, NY, HNDX.out, HNDY.out, by rw [HPOST.out.1], HPOST.out.2, HF.out.2.2.2⟩
theorem reb_c : ∀ (n : Nat), n ≤ 9223372036854775807 → ∀ (old : List Nat) (m : Nat) (whole : Bool) (a : Option Addr) (l cap : Nat) (way : Ds) (w : World), 1 ≤ m → m ≤ n → D32 old → DR w a l way → l ≤ cap → cap ≤ 9223372036854775807 → Tab w →
    Calls Tryd.prog 33 #[.agg (cellsOf old).toArray, .int .i64 (m : Int), .int .i64 (n : Int), .bool whole, .slice a l cap] w (RebRet old m n whole way w) := by
  intro n
  induction n using Nat.strongRecOn with
  | ind n ih =>
    intro hn old m whole a l cap way w h1 hm ho hr hlc hcm ht
    by_cases hw : m = n ∧ whole = true
    · obtain ⟨rfl, rfl⟩ := hw
      exact reb_whole m old a l cap way w ho hr hlc
    · by_cases hl0 : l = 0
      · subst hl0
        rw [hr.zero]
        exact reb_nil m n whole old a cap w h1 hm (by cases whole <;> simp_all) ho
      · obtain ⟨q, rfl⟩ : ∃ q, l = q + 1 := ⟨l - 1, by omega⟩
        by_cases he : m = n
        · subst he
          obtain rfl : whole = false := by cases whole <;> simp_all
          exact reb_one m old a q cap way w ho hr hlc hcm
        · have ih' : REH n := fun q hq old m whole a l cap way w h1 hm ho hr hlc hcm ht => ih q hq (by omega) old m whole a l cap way w h1 hm ho hr hlc hcm ht
          by_cases hik : m ≤ Mk.half n
          · exact reb_l n _ m whole ih' old a q cap way w ho hr hlc hcm ht h1 (by omega) hn rfl hik
          · exact reb_r n _ m whole ih' old a q cap way w ho hr hlc hcm ht h1 (by omega) hn rfl hik
end Go.Proofs.YtoknjhpdbigbhaaDoor
