/-
  Records and heads in memory; what says whether they may be.
-/
import Derived.Test.YtjjkfbebaoikbaaDoorRca
import Derived.Test.YtjjkfbebaoikbaaDoorNmr
import Derived.Test.YtjjkfbebaoikbaaDoorPkb
import Derived.Stop.BytesEq
import Derived.Deep.MidRow
import Derived.Laws.ResultCell
namespace Go.Proofs.YtjjkfbebaoikbaaDoor.Rc
open Go.RowKit Go.Proofs.Nm Go.Proofs.YtjjkfbebaoikbaaDoor
set_option linter.unusedVariables false
/-- a record's cells -/
def recC (r : Rcv) : Array Value := (.int .i64 r.k :: .string (T r.repo) :: .string (T r.tag) :: (cellsOf r.dig ++ [.int .i64 r.t])).toArray
/-- a head's cells -/
def hdC (h : Hdv) : Array Value := (.int .i64 h.n :: (cellsOf h.root ++ [.int .i64 h.t])).toArray
theorem recC_size {r : Rcv} (h : dOk r.dig) : (recC r).size = 36 := by unfold recC; rw [List.size_toArray]; simp only [List.length_cons, List.length_append, List.length_nil, cellsOf_length, h.1]
theorem hdC_size {r : Hdv} (h : dOk r.root) : (hdC r).size = 34 := by unfold hdC; rw [List.size_toArray]; simp only [List.length_cons, List.length_append, List.length_nil, cellsOf_length, h.1]
theorem recC_one (r : Rcv) : (recC r).all (·.oneCell') = true := by
  unfold recC
  refine all_oneCell_toArray fun v hv => ?_
  simp only [List.mem_cons, List.mem_append, List.not_mem_nil, or_false] at hv
  rcases hv with rfl | rfl | rfl | h | rfl
  · rfl
  · rfl
  · rfl
  · exact cellsOf_one _ v h
  · rfl
theorem hdC_one (r : Hdv) : (hdC r).all (·.oneCell') = true := by
  unfold hdC
  refine all_oneCell_toArray fun v hv => ?_
  simp only [List.mem_cons, List.mem_append, List.not_mem_nil, or_false] at hv
  rcases hv with rfl | h | rfl
  · rfl
  · exact cellsOf_one _ v h
  · rfl
theorem info_p : (Tryd.prog.info? 31).map (·.size) = some 36 := by kernel_rfl
theorem info_q : (Tryd.prog.info? 24).map (·.size) = some 36 := by kernel_rfl
theorem info_ph : (Tryd.prog.info? 48).map (·.size) = some 34 := by kernel_rfl
theorem info_qh : (Tryd.prog.info? 46).map (·.size) = some 34 := by kernel_rfl
theorem info_dg : (Tryd.prog.info? 29).map (·.size) = some 32 := by kernel_rfl
theorem info_dr : (Tryd.prog.info? 22).map (·.size) = some 32 := by kernel_rfl
theorem list32n {x : List Nat} (h : x.length = 32) : ∃ f : Nat → Nat, x = (List.range 32).map f := by
  refine ⟨fun i => x.getD i 0, ?_⟩
  apply List.ext_getElem?
  intro i
  by_cases hi : i < 32
  · rw [List.getElem?_map, List.getElem?_range hi, Option.map_some, List.getD_eq_getElem?_getD, List.getElem?_eq_getElem (by omega)]
    rfl
  · rw [List.getElem?_eq_none (by omega), List.getElem?_eq_none (by simp; omega)]
/-- such a value lies at g -/
def RW (W : World) (g : Nat) (t : TypeId) (C : Array Value) : Prop := W.heap[g]? = some (.cells C t (0, 0))
theorem RW.lt {W : World} {g : Nat} {t : TypeId} {C : Array Value} (h : RW W g t C) : g < W.heap.size := (Array.getElem?_eq_some_iff.1 h).1
theorem RW.below {g : Nat} {W W' : World} {t : TypeId} {C : Array Value} (h : RW W g t C) (hb : Below W.heap.size W W') : RW W' g t C := (hb.block g h.lt).trans h
theorem RW.setRow {g : Nat} {W : World} {t : TypeId} {C D : Array Value} (h : RW W g t C) : RW (W.setRow g D) g t D := setRow_heap _ _ _ _ _ _ h
theorem RW.new (W : World) (t : TypeId) (C : Array Value) : RW (W.alloc (.cells C t (0, 0))) W.heap.size t C := heap_new _ _
theorem RW.cellq {g : Nat} {W : World} {t : TypeId} {C : Array Value} (h : RW W g t C) (j : Nat) : W.cell? ⟨g, j, none⟩ = C[j]? := cell_of_row _ _ _ _ _ _ h
theorem RW.fz {g : Nat} {W : World} {t : TypeId} {C : Array Value} (h : RW W g t C) (j : Nat) : W.frozen? ⟨g, j, none⟩ = false := frozen_of_row _ _ _ _ _ h
theorem RW.load {W : World} {g : Nat} {t : TypeId} {C : Array Value} {fs : Array Field} (h : RW W g t C) (hu : Tryd.prog.underlying t = some (.struct fs)) (hi : (Tryd.prog.info? t).map (·.size) = some C.size) : (Instr.loadAt t (.pointer (some ⟨g, 0, none⟩))).run Tryd.prog W = .ok (.agg C) W := by
  simp only [Instr.loadAt, Instr.sureAddr, Sem.run_bind, Sem.run_pure, Result.andThen_ok, run_loadVar_row W g t t C (0, 0) _ h hu rfl hi]
theorem recC_list (r : Rcv) : recC r = ([Value.int .i64 r.k, Value.string (T r.repo), Value.string (T r.tag)] ++ (cellsOf r.dig ++ [Value.int .i64 r.t])).toArray := rfl
theorem hdC_list (r : Hdv) : hdC r = ([Value.int .i64 r.n] ++ (cellsOf r.root ++ [Value.int .i64 r.t])).toArray := rfl
section
variable {g : Nat} {W : World} {t : TypeId} {r : Rcv} {h' : Hdv}
theorem RW.c0 (h : RW W g t (recC r)) : W.cell? ⟨g, 0, none⟩ = some (.int .i64 r.k) := h.cellq 0
theorem RW.c1 (h : RW W g t (recC r)) : W.cell? ⟨g, 1, none⟩ = some (.string (T r.repo)) := h.cellq 1
theorem RW.c2 (h : RW W g t (recC r)) : W.cell? ⟨g, 2, none⟩ = some (.string (T r.tag)) := h.cellq 2
theorem RW.c35 (h : RW W g t (recC r)) (hd : dOk r.dig) : W.cell? ⟨g, 35, none⟩ = some (.int .i64 r.t) := by
  rw [h.cellq, recC_list, List.getElem?_toArray, List.getElem?_append_right (by simp), List.getElem?_append_right (by rw [cellsOf_length, hd.1]; simp), cellsOf_length, hd.1]
  rfl
theorem RW.digAt (h : RW W g t (recC r)) : W.rangeAt g 3 (cellsOf r.dig) := fun j u hu => by
  have hj := (List.getElem?_eq_some_iff.1 hu).1
  rw [h.cellq, recC_list, List.getElem?_toArray, List.getElem?_append_right (by simp), List.getElem?_append_left (by simpa using hj), ← hu]
  congr 1
  simp
theorem RW.h0 (h : RW W g t (hdC h')) : W.cell? ⟨g, 0, none⟩ = some (.int .i64 h'.n) := h.cellq 0
theorem RW.h33 (h : RW W g t (hdC h')) (hd : dOk h'.root) : W.cell? ⟨g, 33, none⟩ = some (.int .i64 h'.t) := by
  rw [h.cellq, hdC_list, List.getElem?_toArray, List.getElem?_append_right (by simp), List.getElem?_append_right (by rw [cellsOf_length, hd.1]; simp), cellsOf_length, hd.1]
  rfl
theorem RW.rootAt (h : RW W g t (hdC h')) : W.rangeAt g 1 (cellsOf h'.root) := fun j u hu => by
  have hj := (List.getElem?_eq_some_iff.1 hu).1
  rw [h.cellq, hdC_list, List.getElem?_toArray, List.getElem?_append_right (by simp), List.getElem?_append_left (by simpa using hj), ← hu]
  congr 1
  simp
end
theorem eq_cells (zs : List Nat) (h : ∀ z ∈ zs, z < 256) : cellsOf zs = (zs.map UInt8.ofNat).map Extern.Stop.cell := by
  simp only [cellsOf, List.map_map]
  apply List.map_congr_left
  intro z hz
  have := h z hz
  simp [Extern.Stop.cell, Nat.mod_eq_of_lt this]
theorem map_u8_inj {a b : List Nat} (ha : ∀ z ∈ a, z < 256) (hb : ∀ z ∈ b, z < 256) : (a.map UInt8.ofNat == b.map UInt8.ofNat) = decide (a = b) := by
  rw [Bool.eq_iff_iff]
  simp only [beq_iff_eq, decide_eq_true_eq]
  exact ⟨fun h => by rw [← sB_uB ha, ← sB_uB hb]; exact congrArg sB h, fun h => by rw [h]⟩
theorem eq_dig (t n d : Nat) (hu : Tryd.prog.underlying t = some (.array n 5)) (W : World) (a b : List Nat) (la : a.length = n) (lb : b.length = n) (ha : ∀ z ∈ a, z < 256) (hb : ∀ z ∈ b, z < 256) :
    (Op.equalIn (d + 2) t (.agg (cellsOf a).toArray) (.agg (cellsOf b).toArray)).run Tryd.prog W = .ok (decide (a = b)) W := by
  rw [eq_cells a ha, eq_cells b hb, ← map_u8_inj ha hb]
  exact run_equalIn_bytes W d t 5 n hu Tryd.underlying5 (fun w => sizeOf_u8 w) _ _ (by simp [la]) (by simp [lb])
/-- an operation by its own run -/
theorem wpList_runR {ops : Array Oper} {rest : List Oper} {o : Oper} {a : Act} {w : World} {Q : Exit → Act → World → Prop} (hw : Region.wanted o (yielded ops a.tmps) = true) (v : Value) (hr : (execOp a.eval o).run Tryd.prog w = .ok (.value v) w) (h : wpList Tryd.prog ops Q rest (a.put o.dst v) w) : wpList Tryd.prog ops Q (o :: rest) a w := by
  refine wpList_step fun K hK => ?_
  rw [if_pos hw]
  unfold Oper.wp
  rw [hr]
  exact hK _ _ h
/-- a sum is loaded out of a box -/
theorem exec_ldMid {W : World} {g k : Nat} {ty n : Nat} {x : List Nat} (hr : W.rangeAt g k (cellsOf x)) (hl : x.length = 32) (hu : Tryd.prog.underlying ty = some (.array n 5)) (hi : (Tryd.prog.info? ty).map (·.size) = some 32) {A : Act} {y : Operand} (hy : A.eval y = .pointer (some ⟨g, k, none⟩)) (o : Oper) (ho : o.op = .load ty y) :
    (execOp A.eval o).run Tryd.prog W = .ok (.value (.agg (cellsOf x).toArray)) W := by
  unfold execOp
  simp only [ho, hy, run_loadAt_mid W g k ty (cellsOf x) _ hr hu rfl (by rw [cellsOf_length, hl]; exact hi), Sem.run_bind, Result.andThen_ok, Sem.run_pure]
/-- two sums are compared -/
theorem exec_eqS {t : TypeId} {xs ys : Array Value} {b : Bool} {W : World} (hm : Tryd.prog.eqGuardType Tryd.prog.depth t = false) (hrun : (Op.equalIn 10000 t (.agg xs) (.agg ys)).run Tryd.prog W = .ok b W) {A : Act} {x y : Operand} (hx : A.eval x = .agg xs) (hy : A.eval y = .agg ys) (o : Oper) (ho : o.op = .binOp .eql t x y t) : (execOp A.eval o).run Tryd.prog W = .ok (.value (.bool b)) W := by
  unfold execOp
  simp only [ho, hx, hy, Sem.run_bind, run_eqGuard_agg W .eql t x y xs ys hm, run_eql_struct, hrun, Result.andThen_ok, Sem.run_pure]
theorem exec_neqS {t : TypeId} {xs ys : Array Value} {b : Bool} {W : World} (hm : Tryd.prog.eqGuardType Tryd.prog.depth t = false) (hrun : (Op.equalIn 10000 t (.agg xs) (.agg ys)).run Tryd.prog W = .ok b W) {A : Act} {x y : Operand} (hx : A.eval x = .agg xs) (hy : A.eval y = .agg ys) (o : Oper) (ho : o.op = .binOp .neq t x y t) : (execOp A.eval o).run Tryd.prog W = .ok (.value (.bool !b)) W := by
  unfold execOp
  simp only [ho, hx, hy, Sem.run_bind, run_eqGuard_agg W .neq t x y xs ys hm, run_neq_struct, hrun, Result.andThen_ok, Sem.run_pure]
theorem eqg_dg : Tryd.prog.eqGuardType Tryd.prog.depth 29 = false := by kernel_rfl
theorem eqg_dr : Tryd.prog.eqGuardType Tryd.prog.depth 22 = false := by kernel_rfl
theorem built_dg : Tryd.prog.built 29 [] = some (cellsOf zs32).toArray := by kernel_rfl
theorem built_dr : Tryd.prog.built 22 [] = some (cellsOf zs32).toArray := by kernel_rfl
/-- the box of an argument -/
def Bx (w : World) (g : Nat) (t : TypeId) (C : Array Value) (W : World) : Prop := RW W g t C ∧ Below w.heap.size w W
theorem Bx.new (w : World) (t : TypeId) (C : Array Value) : Bx w w.heap.size t C (w.alloc (.cells C t (0, 0))) := ⟨RW.new _ _ _, (Below.refl _ w).alloc (Nat.le_refl _) _⟩
theorem Bx.step {w W W' : World} {g : Nat} {t : TypeId} {C : Array Value} (h : Bx w g t C W) (hb : Below W.heap.size W W') : Bx w g t C W' := ⟨h.1.below hb, h.2.trans (hb.mono h.2.size)⟩
theorem und_dg : Tryd.prog.underlying 29 = some (.array 32 5) := Tryd.underlying29
theorem und_dr : Tryd.prog.underlying 22 = some (.array 32 5) := Tryd.underlying22
theorem gen_codeR {P : Program} {c : Code} {Q : Exit → Act → World → Prop} {a : Act} {W : World} {F : World → Prop} (h : F W) (k : ∀ w, F w → c.wp P Q a w) : c.wp P Q a W := k W h
set_option maxRecDepth 100000 in
set_option maxHeartbeats 2000000 in
theorem kind_c (r : Rcv) (hd : dOk r.dig) (w : World) :
    Calls Tryd.prog 28 #[.agg (recC r)] w fun e w' => e = .returned (.bool (kindB r)) ∧ Below w.heap.size w w' := by
  obtain ⟨C, hC⟩ : ∃ C, C = recC r := ⟨_, rfl⟩
  have HK := Lib.hid (show kindB r = (decide (r.k = 1) || (decide (r.k = 2) && decide (r.dig = zs32))) from rfl)
  rw [HK.out]
  rw [← hC]
  have HC := Lib.hid hC
  clear hC
  go_enter Tryd.func28, Tryd.ntmps28
  go_upto_region 1 with (fail)
  obtain ⟨g, hg⟩ : ∃ g, g = w.heap.size := ⟨_, rfl⟩
  refine gen_codeR (F := Bx w g 31 C) (by rw [hg]; exact Bx.new _ _ _) ?_
  rw [← hg]
  rintro w0 ⟨h0, h1⟩
  rw [HC.out] at h0
  have k0 := h0.c0
  have HR := Lib.hid h0.digAt
  have HB := Lib.hid h1
  have HD := Lib.hid hd
  have HE := Lib.hid (eq_dig 29 32 9998 und_dg w0 r.dig zs32 hd.1 zs32_len hd.2 dOk_zs.2)
  have HBU := Lib.hid built_dg
  clear hg h0 h1 hd HC
  by_cases i1 : r.k = 1
  · go_wp2_with fail
    go_ret
    exact ⟨by simp [i1], HB.out⟩
  · by_cases i2 : r.k = 2
    · go_wp2_with (first | (refine wpList_runR (by rfl) _ (exec_ldMid HR.out HD.out.1 und_dg info_dg (by rfl) _ rfl) ?_) | (refine wpList_runR (by rfl) _ (exec_eqS eqg_dg HE.out (by rfl) (by rfl) _ rfl) ?_))
      go_ret
      exact ⟨by simp [i1, i2], HB.out⟩
    · go_wp2_with fail
      go_ret
      exact ⟨by simp [i1, i2], HB.out⟩
end Go.Proofs.YtjjkfbebaoikbaaDoor.Rc
