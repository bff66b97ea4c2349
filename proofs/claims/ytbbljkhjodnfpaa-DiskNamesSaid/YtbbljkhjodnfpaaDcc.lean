/-
  Crash at awake's disk, walked.
-/
import Derived.Test.YtbbljkhjodnfpaaDcb
import Derived.Test.YtbbljkhjodnfpaaJst
namespace Go.Proofs.Ytbbljkhjodnfpaa
open Go.Proofs.Ytbbljkhjodnfpaa.Ev
open Go.RowKit Go.Shelf
set_option linter.unusedVariables false
attribute [local go_sem] Oper.semAt_some
theorem Ev.Stt.keepL {w0 : World} {V : Vl} {m : Mem} {D : Nat} {w w' : World} (h : Stt w0 V m w) (hk : KeepL D w w') (hD : w0.heap.size ≤ D) (hn : ∀ b p, V b = some p → p.1 ≠ D ∧ p.1 ≠ D + 1) : Stt w0 V m w' :=
  ⟨⟨fun b hb k hk' => (h.sat.holds b hb k hk').heap fun p hp => hk.blk _ (hn b p hp).1 (hn b p hp).2, h.sat.apart⟩, h.wf, h.free, h.low, fun b p hp => Nat.lt_of_lt_of_le (h.top b p hp) hk.size,
    h.below.trans ⟨hk.os, hk.tape, hk.output, hk.size, fun k hk' => hk.blk k (by omega) (by omega)⟩⟩
/-- awake's disk, its fields' cells -/
structure Dsk4 (V : Vl) (pd lr pf : Nat × Nat) (c : Nat) (W : World) : Prop where
  room : W.cell? ⟨pd.1, 3, none⟩ = some (.slice (some ⟨lr.1, 0, none⟩) 2 c)
  two : 2 ≤ c
  fits : 5 * c ≤ lr.2
  e0 : W.cell? ⟨lr.1, 5, none⟩ = some (.int .i64 1)
  e1 : W.cell? ⟨lr.1, 6, none⟩ = some (.pointer (some ⟨pf.1, 0, none⟩))
  e2 : W.cell? ⟨lr.1, 7, none⟩ = some (.int .i64 0)
  e3 : W.cell? ⟨lr.1, 8, none⟩ = some (.string ⟨#[]⟩)
  e4 : W.cell? ⟨lr.1, 9, none⟩ = some (.pointer none)
  file : V 1 = some pf
theorem chg_cells {w0 W : World} {V : Vl} {m : Mem} (h : Stt w0 V m W) (hm : chg (m.get 7) = true) : ∃ lr pf : Nat × Nat, V 7 = some lr ∧ V 1 = some pf ∧ W.cell? ⟨lr.1, 5, none⟩ = some (.int .i64 1) ∧ W.cell? ⟨lr.1, 6, none⟩ = some (.pointer (some ⟨pf.1, 0, none⟩)) ∧ W.cell? ⟨lr.1, 7, none⟩ = some (.int .i64 0) ∧ W.cell? ⟨lr.1, 8, none⟩ = some (.string ⟨#[]⟩) ∧ W.cell? ⟨lr.1, 9, none⟩ = some (.pointer none) := by
  unfold chg at hm
  split at hm
  · rename_i t x0 x1 x2 x3 x4 a b s ex hb
    obtain ⟨rfl, rfl, rfl⟩ := of_decide_eq_true hm
    obtain ⟨p, v, h1, h2, h3, h4⟩ := h.cell hb (i := 5) rfl
    obtain ⟨p6, v6, g1, -, g3, pf, hf, rfl⟩ := h.cell hb (i := 6) rfl
    obtain ⟨p7, v7, k1, -, k3, k4⟩ := h.cell hb (i := 7) rfl
    obtain ⟨p8, v8, l1, -, l3, l4⟩ := h.cell hb (i := 8) rfl
    obtain ⟨p9, v9, n1, -, n3, n4⟩ := h.cell hb (i := 9) rfl
    rw [h1] at g1 k1 l1 n1
    cases g1
    cases k1
    cases l1
    cases n1
    obtain rfl : v = _ := h4
    obtain rfl : v7 = _ := k4
    obtain rfl : v8 = _ := l4
    obtain rfl : v9 = _ := n4
    exact ⟨p, pf, h1, hf, h3, g3, k3, l3, n3⟩
  · cases hm
theorem dsk4_of {w0 W : World} {V : Vl} (h : Stt w0 V dk4 W) {pd : Nat × Nat} (hp : V 0 = some pd) : ∃ lr pf c, Dsk4 V pd lr pf c W ∧ V 7 = some lr := by
  obtain ⟨lr, pf, h7, hf, e0, e1, e2, e3, e4⟩ := chg_cells h dc47
  have hm := dc4
  unfold loose4 at hm
  split at hm
  · rename_i t x0 x1 x2 x4 x5 hb
    obtain ⟨p, v, h1, h2, h3, q, o', c, hq, rfl, hc0, hc1, hc2, hc3⟩ := h.cell hb (i := 3) rfl
    rw [hp] at h1
    cases h1
    rw [h7] at hq
    cases hq
    obtain rfl : o' = 0 := by omega
    exact ⟨lr, pf, c, ⟨h3, hc1, by omega, e0, e1, e2, e3, e4, hf⟩, h7⟩
  · cases hm
structure CrS (w0 : World) (V : Vl) (pd lr : Nat × Nat) (c R : Nat) (W1 : World) : Prop where
  box : W1.cell? ⟨R, 0, none⟩ = some (.pointer (some ⟨pd.1, 0, none⟩))
  prt : W1.cell? ⟨R + 1, 0, none⟩ = some (.int .i64 1)
  room : W1.cell? ⟨pd.1, 3, none⟩ = some (.slice (some ⟨lr.1, 0, none⟩) 2 c)
  stt : Stt w0 V dk4 W1
  size : W1.heap.size = R + 2
theorem wp_safe {P : Program} {c : Code} {K : Act → World → Prop} {Q : Exit → Act → World → Prop} {a : Act} {w : World} (h : c.wp P (Exit.then K (fun _ _ _ => False)) a w) : c.wp P (Exit.then K Q) a w :=
  wp_mono h fun e a w he => by cases e with | normal => exact he | _ => exact he.elim
theorem gen_in {F : Fence} {n : Nat} {P : Program} {c : Code} {Q : Exit → Act → World → Prop} {a : Act} {W : World} {G : World → Prop} (h : G W) (k : ∀ w, G w → c.wpIn F n P Q a w) : c.wpIn F n P Q a W := k W h
theorem run_cell_disk (W : World) (a : Addr) (v : Option Addr) (hc : W.cell? a = some (.pointer v)) : (Instr.loadAt 24 (.pointer (some a))).run Try.prog W = .ok (.pointer v) W := by go_simp
theorem run_cell_chgs (W : World) (a : Addr) (v : Option Addr) (l c : Nat) (hc : W.cell? a = some (.slice v l c)) : (Instr.loadAt 98 (.pointer (some a))).run Try.prog W = .ok (.slice v l c) W := by go_simp
theorem elem_chgs : Try.prog.elem 98 = 115 := by kernel_rfl
theorem und_chgs : Try.prog.underlying 98 = some (.slice (Try.prog.elem 98)) := by rw [elem_chgs]; exact Try.underlying98
theorem sizeOf_chg (W : World) : (Go.sizeOf 115).run Try.prog W = .ok 5 W := by
  have h : (Try.prog.info? 115).map (·.size) = some 5 := by kernel_rfl
  cases hq : Try.prog.info? 115 with
  | none => simp [hq] at h
  | some i =>
    have : i.size = 5 := by simpa [hq] using h
    simp [Go.sizeOf, typeInfo, hq, this]
theorem exec_last {c : Nat} (hc : 2 ≤ c) (g : Nat) (a : Act) {x y : Operand} (hx : a.eval x = .slice (some ⟨g, 0, none⟩) 2 c) (hy : a.eval y = .int .i64 1) (o : Oper) (ho : o.op = .slice 98 x (some y) none none) (W : World) :
    (execOp a.eval o).run Try.prog W = .ok (.value (.slice (some ⟨g, 5, none⟩) 1 (c - 1))) W := by
  unfold execOp
  simp only [ho, hx, hy, Option.map_none, Option.map_some]
  rw [Sem.run_bind, run_sliceAt_slice W _ _ _ _ _ und_chgs, run_slice_l W _ _ 2 c und_chgs .i64 1 (by omega) (by omega), elem_chgs, sizeOf_chg]
  have : ¬ c = 1 := by omega
  simp [Result.andThen, sliced, Addr.add, this]
theorem one_cell {W : World} {g o R : Nat} {v : Value} (h : R ≠ g) : (W.setCells g o [v]).cell? ⟨R, 0, none⟩ = W.cell? ⟨R, 0, none⟩ := World.cell?_setCell_other _ _ _ _ (by intro e; cases e; exact h rfl)
theorem one_heap {W : World} {g o R : Nat} {v : Value} (h : R ≠ g) : (W.setCells g o [v]).heap[R]? = W.heap[R]? := RowKit.Below.heap_setCell W ⟨g, o, none⟩ v R h
def chX (pf : Nat × Nat) : Array Value := #[.int .i64 1, .pointer (some ⟨pf.1, 0, none⟩), .int .i64 0, .string ⟨#[]⟩, .pointer none]
/-- what stands while the changes are taken back -/
structure CrI (w0 : World) (V : Vl) (pd lr pf : Nat × Nat) (c R : Nat) (pre : List (Array Value)) (W1 : World) : Prop where
  box : W1.cell? ⟨R, 0, none⟩ = some (.pointer (some ⟨pd.1, 0, none⟩))
  prt : W1.cell? ⟨R + 1, 0, none⟩ = some (.int .i64 1)
  itc : ItC (R + 2) lr.1 5 (c - 1) (.int .i64 1) (.pointer (some ⟨pf.1, 0, none⟩)) (.int .i64 0) (.string ⟨#[]⟩) (.pointer none) W1
  size : R + 3 ≤ W1.heap.size
  st : (pre = [] ∧ Stt w0 V dk4 W1) ∨ (pre = [chX pf] ∧ ∃ V', V.le V' ∧ Stt w0 V' dk5 W1 ∧ ∀ b p, V' b = some p → p.1 ≠ R + 3 ∧ p.1 ≠ R + 4)
theorem KeepL.cell {D : Nat} {W W' : World} (h : KeepL D W W') {a : Addr} (h1 : a.block ≠ D) (h2 : a.block ≠ D + 1) : W'.cell? a = W.cell? a := World.cell?_of_block (w := W) (h.blk _ h1 h2)
theorem ItC.same {bx lr o c : Nat} {e0 e1 e2 e3 e4 : Value} {W W' : World} (h : ItC bx lr o c e0 e1 e2 e3 e4 W) (h1 : W'.heap[bx]? = W.heap[bx]?) (h2 : W'.heap[lr]? = W.heap[lr]?) : ItC bx lr o c e0 e1 e2 e3 e4 W' := by
  obtain ⟨a, b, d, e, f, g⟩ := h
  have k : ∀ j, W'.cell? ⟨lr, j, none⟩ = W.cell? ⟨lr, j, none⟩ := fun j => World.cell?_of_block (w := W) h2
  exact ⟨(World.cell?_of_block (w := W) h1).trans a, (k _).trans b, (k _).trans d, (k _).trans e, (k _).trans f, (k _).trans g⟩
theorem CrI.keepL {w0 : World} {V : Vl} {pd lr pf : Nat × Nat} {c R : Nat} {pre : List (Array Value)} {W W' : World} (hl : lr.1 < R) (hw : w0.heap.size ≤ R) (hV : ∀ b p, V b = some p → p.1 < R) (h : CrI w0 V pd lr pf c R pre W) (hk : KeepL (R + 3) W W') : CrI w0 V pd lr pf c R pre W' := by
  refine ⟨(hk.cell (a := ⟨R, 0, none⟩) (by show R ≠ R + 3; omega) (by show R ≠ R + 4; omega)).trans h.box, (hk.cell (a := ⟨R + 1, 0, none⟩) (by show R + 1 ≠ R + 3; omega) (by show R + 1 ≠ R + 4; omega)).trans h.prt,
    h.itc.same (hk.blk _ (by omega) (by omega)) (hk.blk _ (by omega) (by omega)), Nat.le_trans h.size hk.size, ?_⟩
  rcases h.st with ⟨h1, h2⟩ | ⟨h1, V', h2, h3, h4⟩
  · exact .inl ⟨h1, h2.keepL hk (by omega) fun b p hp => by have := hV b p hp; omega⟩
  · exact .inr ⟨h1, V', h2, h3.keepL hk (by omega) h4, h4⟩
theorem CrI.later {w0 : World} {V : Vl} {pd lr pf : Nat × Nat} {c R : Nat} {pre : List (Array Value)} {W W' : World} (hl : lr.1 < R) (h : CrI w0 V pd lr pf c R pre W) (hb : Below W.heap.size W W') : CrI w0 V pd lr pf c R pre W' := by
  have hsz := h.size
  refine ⟨(hb.cell (p := ⟨R, 0, none⟩) (by show R < _; omega)).trans h.box, (hb.cell (p := ⟨R + 1, 0, none⟩) (by show R + 1 < _; omega)).trans h.prt, h.itc.same (hb.block _ (by omega)) (hb.block _ (by omega)), Nat.le_trans hsz hb.size, ?_⟩
  rcases h.st with ⟨h1, h2⟩ | ⟨h1, V', h2, h3, h4⟩
  · exact .inl ⟨h1, h2.keep hb⟩
  · exact .inr ⟨h1, V', h2, h3.keep hb, h4⟩
theorem Ev.Stt.same {w0 : World} {V : Vl} {m m' : Mem} {w : World} (h : Stt w0 V m w) (hg : ∀ b, m'.get b = m.get b) (hn : m'.next = m.next) (hw : m'.wf) : Stt w0 V m' w :=
  ⟨⟨fun b hb k hk => h.sat.holds b hb k (by rw [← hg]; exact hk), fun b d hb hd hbd k l p q hk hl => h.sat.apart b d hb hd hbd k l p q (by rw [← hg]; exact hk) (by rw [← hg]; exact hl)⟩, hw, fun b hb => h.free b (by rw [← hn]; exact hb), h.low, h.top, h.below⟩
set_option maxRecDepth 100000 in
theorem dc57 : chg (dk5.get 7) = true := by kernel_rfl
theorem dk6_is : ∃ t l, dk5.get 0 = some (.cells t l true) ∧ l.length = 6 ∧ dk6 = dk5.write 0 (some (.cells t (((l.set 3 (.lit (.slice none 0 0))).set 4 (.lit (.int .i64 (-1)))).set 5 (.lit (.bool false))) true)) := by
  have h := dc5
  unfold row6 at h
  split at h
  · rename_i t a b d e f g hg
    exact ⟨t, _, hg, rfl, by unfold dk6 crashed; rw [hg]; rfl⟩
  · cases h
/-- a round: the change's box beside -/
def CrM (w0 : World) (V : Vl) (pd lr pf : Nat × Nat) (c R : Nat) (pre : List (Array Value)) (B : Nat) (W1 : World) : Prop :=
  R + 4 < B ∧ (W1.cell? ⟨B, 0, none⟩ = some (.int .i64 1) ∧ W1.cell? ⟨B, 1, none⟩ = some (.pointer (some ⟨pf.1, 0, none⟩)) ∧ W1.cell? ⟨B, 2, none⟩ = some (.int .i64 0) ∧ W1.cell? ⟨B, 3, none⟩ = some (.string ⟨#[]⟩) ∧ W1.cell? ⟨B, 4, none⟩ = some (.pointer none)) ∧ CrI w0 V pd lr pf c R pre W1
theorem CrM.keepL {w0 : World} {V : Vl} {pd lr pf : Nat × Nat} {c R B : Nat} {pre : List (Array Value)} {W W' : World} (hl : lr.1 < R) (hw : w0.heap.size ≤ R) (hV : ∀ b p, V b = some p → p.1 < R) (h : CrM w0 V pd lr pf c R pre B W) (hk : KeepL (R + 3) W W') : CrM w0 V pd lr pf c R pre B W' := by
  obtain ⟨h0, ⟨a, b, d, e, f⟩, h2⟩ := h
  have k : ∀ j, W'.cell? ⟨B, j, none⟩ = W.cell? ⟨B, j, none⟩ := fun j => hk.cell (a := ⟨B, j, none⟩) (by show B ≠ R + 3; omega) (by show B ≠ R + 4; omega)
  exact ⟨h0, ⟨(k _).trans a, (k _).trans b, (k _).trans d, (k _).trans e, (k _).trans f⟩, h2.keepL hl hw hV hk⟩
set_option maxRecDepth 100000 in
set_option maxHeartbeats 4000000 in
theorem crash_c {w0 W : World} {V : Vl} {pd : Nat × Nat} (hs : Stt w0 V dk4 W) (hp : V 0 = some pd) :
    Calls Try.prog 28 #[.pointer (some ⟨pd.1, 0, none⟩), .int .i64 1, .int .i64 1] W fun e W' => e = .returned (.int .i64 0) ∧ ∃ V', V.le V' ∧ Stt w0 V' dk6 W' := by
  obtain ⟨lr, pf, c, hd, h7⟩ := dsk4_of hs hp
  have hpR : pd.1 < W.heap.size := hs.top _ _ hp
  have hlR : lr.1 < W.heap.size := hs.top _ _ h7
  have c3 := hd.room
  have hc2 := hd.two
  have htop := hs.top
  have hlow := hs.below.size
  have HS := Lib.hid hs
  have HS2 := Lib.hid hs
  have HD := Lib.hid hd
  have HP := Lib.hid hp
  have H7 := Lib.hid h7
  clear hs hd hp h7
  have HBK := Lib.hid (fun c w => back_c (some ⟨lr.1, 5, none⟩) 1 c w)
  refine (callsIn_wide (n := 3)).1 ?_
  refine callsIn_of_wp_marks Try.func28 rfl trivial ?_ rfl
  simp only [Try.ntmps28, List.size_toArray, List.length_cons, List.length_nil, Nat.reduceAdd, Nat.reduceSub, Array.replicate_succ, Array.replicate_zero, List.push_toArray, List.append_toArray, List.nil_append, List.cons_append]
  gi_wp2_with fail
  refine gen_in (G := CrS w0 V pd lr c W.heap.size) ?_ ?_
  · have hb : Below W.heap.size W ((W.alloc (.cells #[.pointer (some ⟨pd.1, 0, none⟩)] 24)).alloc (.cells #[.int .i64 1] 3)) := ((Below.refl _ _).alloc (Nat.le_refl _) _).alloc (by simp) _
    exact ⟨by simp, by simp, (hb.cell (p := ⟨pd.1, 3, none⟩) hpR).trans c3, HS.out.keep hb, by simp⟩
  clear HS c3
  intro w1 hs1
  have HL0 := Lib.hid (fun W1 (hW : CrS w0 V pd lr c W.heap.size W1) => run_cell_disk W1 _ _ hW.box)
  have HL3 := Lib.hid (fun W1 (hW : CrS w0 V pd lr c W.heap.size W1) => run_cell_chgs W1 _ _ _ _ hW.room)
  have HS := Lib.hid (show CrS w0 V pd lr c W.heap.size w1.drew from ⟨hs1.box, hs1.prt, hs1.room, hs1.stt.keep (Below.refl _ _).drew, hs1.size⟩)
  clear hs1
  (try dsimp only [Act.put, List.setIfInBounds_toArray, List.set_cons_zero, List.set_cons_succ])
  refine wpIn_wide.2 (wp_safe ?_)
  refine anyH_begin (S := CrS w0 V pd lr c W.heap.size) (by kernel_rfl) ?_
  refine anyH_loadG 0 (d := 13) (ty := 24) (x := (.tmp 3)) (gd := none) (p := .pointer (some ⟨W.heap.size, 0, none⟩)) (.pointer (some ⟨pd.1, 0, none⟩)) (by rfl) (fun o ho => wanted_plain ho _) (by kernel_rfl) (by kernel_rfl) (by kernel_rfl) (fun _ _ _ h => h) (by rfl) HL0.out HS.out ?_
  simp only [Act.put, List.setIfInBounds_toArray, List.set_cons_zero, List.set_cons_succ]
  refine anyH_pureG 1 (d := 14) (op := .nilCheck (.tmp 13)) (gd := none) (.pointer (some ⟨pd.1, 0, none⟩)) (by rfl) (fun o ho => wanted_plain ho _) (by kernel_rfl) (by kernel_rfl) (by kernel_rfl) (fun _ _ _ h => h) (fun o ho W hW => by unfold execOp; simp only [ho]; go_simp) HS.out ?_
  simp only [Act.put, List.setIfInBounds_toArray, List.set_cons_zero, List.set_cons_succ]
  refine anyH_pureG 2 (d := 15) (op := .fieldAddr 100 (.tmp 14) 3) (gd := none) (.pointer (some ⟨pd.1, 3, none⟩)) (by rfl) (fun o ho => wanted_plain ho _) (by kernel_rfl) (by kernel_rfl) (by kernel_rfl) (fun _ _ _ h => h) (fun o ho W hW => by unfold execOp; simp only [ho]; go_simp) HS.out ?_
  simp only [Act.put, List.setIfInBounds_toArray, List.set_cons_zero, List.set_cons_succ]
  refine anyH_loadG 3 (d := 16) (ty := 98) (x := (.tmp 15)) (gd := none) (p := .pointer (some ⟨pd.1, 3, none⟩)) (.slice (some ⟨lr.1, 0, none⟩) 2 c) (by rfl) (fun o ho => wanted_plain ho _) (by kernel_rfl) (by kernel_rfl) (by kernel_rfl) (fun _ _ _ h => h) (by rfl) HL3.out HS.out ?_
  simp only [Act.put, List.setIfInBounds_toArray, List.set_cons_zero, List.set_cons_succ]
  refine anyH_pureG 4 (d := 17) (op := .move (.tmp 1)) (gd := none) (.int .i64 1) (by rfl) (fun o ho => wanted_plain ho _) (by kernel_rfl) (by kernel_rfl) (by kernel_rfl) (fun _ _ _ h => h) (fun o ho W hW => by unfold execOp; simp only [ho]; go_simp) HS.out ?_
  simp only [Act.put, List.setIfInBounds_toArray, List.set_cons_zero, List.set_cons_succ]
  refine anyH_pureG 5 (d := 18) (op := .call { callee := .builtin .max, args := #[(.tmp 17), (.const (.int .i64 0))], argTypes := #[3, 3] }) (gd := none) (.int .i64 1) (by rfl) (fun o ho => wanted_plain ho _) (by kernel_rfl) (by kernel_rfl) (by kernel_rfl) (fun _ _ _ h => h) (fun o ho W1 hW => by unfold execOp; simp only [ho]; go_simp; decide) HS.out ?_
  simp only [Act.put, List.setIfInBounds_toArray, List.set_cons_zero, List.set_cons_succ]
  refine anyH_loadG 6 (d := 19) (ty := 24) (x := (.tmp 3)) (gd := none) (p := .pointer (some ⟨W.heap.size, 0, none⟩)) (.pointer (some ⟨pd.1, 0, none⟩)) (by rfl) (fun o ho => wanted_plain ho _) (by kernel_rfl) (by kernel_rfl) (by kernel_rfl) (fun _ _ _ h => h) (by rfl) HL0.out HS.out ?_
  simp only [Act.put, List.setIfInBounds_toArray, List.set_cons_zero, List.set_cons_succ]
  refine anyH_pureG 7 (d := 20) (op := .nilCheck (.tmp 19)) (gd := none) (.pointer (some ⟨pd.1, 0, none⟩)) (by rfl) (fun o ho => wanted_plain ho _) (by kernel_rfl) (by kernel_rfl) (by kernel_rfl) (fun _ _ _ h => h) (fun o ho W hW => by unfold execOp; simp only [ho]; go_simp) HS.out ?_
  simp only [Act.put, List.setIfInBounds_toArray, List.set_cons_zero, List.set_cons_succ]
  refine anyH_pureG 8 (d := 21) (op := .fieldAddr 100 (.tmp 20) 3) (gd := none) (.pointer (some ⟨pd.1, 3, none⟩)) (by rfl) (fun o ho => wanted_plain ho _) (by kernel_rfl) (by kernel_rfl) (by kernel_rfl) (fun _ _ _ h => h) (fun o ho W hW => by unfold execOp; simp only [ho]; go_simp) HS.out ?_
  simp only [Act.put, List.setIfInBounds_toArray, List.set_cons_zero, List.set_cons_succ]
  refine anyH_loadG 9 (d := 22) (ty := 98) (x := (.tmp 21)) (gd := none) (p := .pointer (some ⟨pd.1, 3, none⟩)) (.slice (some ⟨lr.1, 0, none⟩) 2 c) (by rfl) (fun o ho => wanted_plain ho _) (by kernel_rfl) (by kernel_rfl) (by kernel_rfl) (fun _ _ _ h => h) (by rfl) HL3.out HS.out ?_
  simp only [Act.put, List.setIfInBounds_toArray, List.set_cons_zero, List.set_cons_succ]
  refine anyH_pureG 10 (d := 23) (op := .call { callee := .builtin .len, args := #[(.tmp 22)], argTypes := #[98] }) (gd := none) (.int .i64 2) (by rfl) (fun o ho => wanted_plain ho _) (by kernel_rfl) (by kernel_rfl) (by kernel_rfl) (fun _ _ _ h => h) (fun o ho W hW => by unfold execOp; simp only [ho]; go_simp) HS.out ?_
  simp only [Act.put, List.setIfInBounds_toArray, List.set_cons_zero, List.set_cons_succ]
  refine anyH_pureG 11 (d := 24) (op := .call { callee := .builtin .min, args := #[(.tmp 18), (.tmp 23)], argTypes := #[3, 3] }) (gd := none) (.int .i64 1) (by rfl) (fun o ho => wanted_plain ho _) (by kernel_rfl) (by kernel_rfl) (by kernel_rfl) (fun _ _ _ h => h) (fun o ho W1 hW => by unfold execOp; simp only [ho]; go_simp; decide) HS.out ?_
  simp only [Act.put, List.setIfInBounds_toArray, List.set_cons_zero, List.set_cons_succ]
  refine anyH_pureG 12 (d := 25) (op := .slice 98 (.tmp 16) (some (.tmp 24)) none none) (gd := none) (.slice (some ⟨lr.1, 5, none⟩) 1 (c - 1)) (by rfl) (fun o ho => wanted_plain ho _) (by kernel_rfl) (by kernel_rfl) (by kernel_rfl) (fun _ _ _ h => h) (fun o ho W1 hW => exec_last hc2 lr.1 _ (x := .tmp 16) (y := .tmp 24) (by rfl) (by rfl) o ho W1) HS.out ?_
  simp only [Act.put, List.setIfInBounds_toArray, List.set_cons_zero, List.set_cons_succ]
  refine anyH_pureG 13 (d := 7) (op := .assign (.tmp 25)) (gd := none) (.slice (some ⟨lr.1, 5, none⟩) 1 (c - 1)) (by rfl) (fun o ho => wanted_plain ho _) (by kernel_rfl) (by kernel_rfl) (by kernel_rfl) (fun _ _ _ h => h) (fun o ho W hW => by unfold execOp; simp only [ho]; go_simp) HS.out ?_
  simp only [Act.put, List.setIfInBounds_toArray, List.set_cons_zero, List.set_cons_succ]
  refine wpAnyH_done (by kernel_rfl) ?_ _

  obtain ⟨w2, hw2⟩ : ∃ w2, w2 = w1.drew := ⟨_, rfl⟩
  rw [← hw2] at HS ⊢
  clear hw2 HL0 HL3
  obtain ⟨R, hR⟩ : ∃ R, R = W.heap.size := ⟨_, rfl⟩
  rw [← hR] at HS hpR hlR ⊢
  have HV := Lib.hid (show ∀ b p, V b = some p → p.1 < R from fun b p hp => by rw [hR]; exact htop b p hp)
  have HW0 := Lib.hid (show w0.heap.size ≤ R from by rw [hR]; exact hlow)
  have HIT := Lib.hid (show ItC (R + 2) lr.1 5 (c - 1) (.int .i64 1) (.pointer (some ⟨pf.1, 0, none⟩)) (.int .i64 0) (.string ⟨#[]⟩) (.pointer none) (w2.alloc (.cells #[.slice (some ⟨lr.1, 5, none⟩) 1 (c - 1)] 98)) from by
    have hsz := HS.out.size
    have hd2 := HS2.out
    obtain ⟨lr', pf', k7, kf, a, b, d, e, f⟩ := chg_cells HS.out.stt dc47
    rw [H7.out] at k7
    cases k7
    rw [HD.out.file] at kf
    cases kf
    have hb := (Below.refl w2.heap.size w2).alloc (Nat.le_refl _) (.cells #[.slice (some ⟨lr.1, 5, none⟩) 1 (c - 1)] 98)
    have k : ∀ j, (w2.alloc (.cells #[.slice (some ⟨lr.1, 5, none⟩) 1 (c - 1)] 98)).cell? ⟨lr.1, j, none⟩ = w2.cell? ⟨lr.1, j, none⟩ := fun j => hb.cell (p := ⟨lr.1, j, none⟩) (by show lr.1 < _; omega)
    exact ⟨by rw [← hsz]; simp, (k _).trans a, (k _).trans b, (k _).trans d, (k _).trans e, (k _).trans f⟩)
  clear htop hlow hR HS2
  gi_wp2_with (refine ⟨trivial, ?_⟩; gi_at_call 74; refine (callsIn_wide.2 (HBK.out _ _)).mono ?_; rintro e w3 ⟨rfl, hw3⟩; have HW3 := Lib.hid hw3; clear hw3)
  rw [HS.out.size]
  have HI := Lib.hid (show CrI w0 V pd lr pf c R [] w3 from by
    have hsz := HS.out.size
    have hb : Below (R + 2) w2 w3 := by rw [HW3.out, ← hsz]; exact (Below.refl _ _).alloc (Nat.le_refl _) _
    exact ⟨(hb.cell (p := ⟨R, 0, none⟩) (by show R < R + 2; omega)).trans HS.out.box, (hb.cell (p := ⟨R + 1, 0, none⟩) (by show R + 1 < R + 2; omega)).trans HS.out.prt, by rw [HW3.out]; exact HIT.out, by rw [HW3.out]; simp [hsz], .inl ⟨rfl, HS.out.stt.keep (by rw [hsz]; exact hb)⟩⟩)
  have hsz3 : w3.heap.size = R + 3 := by rw [HW3.out]; simp [HS.out.size]
  clear HS HW3 HIT HBK
  refine range_mem (F := Fence.wide) (n := 3) rfl (by omega) (gf := 111) (lb := #[.pointer (some ⟨R + 2, 0, none⟩)]) rfl trivial (enters_of Try.func111 (by kernel_rfl) rfl)
    (enc := encC) [chX pf] (fun pre x => pre = [] ∧ x = chX pf) (fun W1 => ItC (R + 2) lr.1 5 (c - 1) (.int .i64 1) (.pointer (some ⟨pf.1, 0, none⟩)) (.int .i64 0) (.string ⟨#[]⟩) (.pointer none) W1) (fun x => rfl)
    (fun l J Jx W1 hIt hY h0 => back1_c l (R + 2) lr.1 5 (c - 1) _ _ _ _ _ J Jx W1 (fun h => hIt [] W1 h) (fun W2 h => hY [] _ W2 h ⟨rfl, rfl⟩) h0)
    (CrI w0 V pd lr pf c R) (fun _ _ => False) (fun s W1 W2 hk h => h.keepL hlR HW0.out HV.out (by rw [← hsz3]; exact hk)) (fun _ _ _ _ h => h) (fun s W1 h => h.itc) HI.out
    (fun pre x a1 W1 => ∃ B, a1 = { tmps := #[.pointer (some ⟨pd.1, 0, none⟩), .int .i64 1, .int .i64 1, .pointer (some ⟨R, 0, none⟩), undef, .pointer (some ⟨R + 1, 0, none⟩), .int .i64 0, .slice (some ⟨lr.1, 5, none⟩) 1 (c - 1), .int .i64 0, .pointer (some ⟨B, 0, none⟩), undef, .pointer (some ⟨pd.1, 0, none⟩), .bool false, .pointer (some ⟨pd.1, 0, none⟩), .pointer (some ⟨pd.1, 0, none⟩), .pointer (some ⟨pd.1, 3, none⟩), .slice (some ⟨lr.1, 0, none⟩) 2 c, .int .i64 1, .int .i64 1, .pointer (some ⟨pd.1, 0, none⟩), .pointer (some ⟨pd.1, 0, none⟩), .pointer (some ⟨pd.1, 3, none⟩), .slice (some ⟨lr.1, 0, none⟩) 2 c, .int .i64 2, .int .i64 1, .slice (some ⟨lr.1, 5, none⟩) 1 (c - 1), .slice (some ⟨lr.1, 5, none⟩) 1 (c - 1), .func (.func 111) #[] #[.pointer (some ⟨R + 2, 0, none⟩)], .int .i64 0, .agg (chX pf), undef, undef, undef, undef, undef, undef, undef, undef, undef, undef, undef, undef, undef, undef, undef, undef, undef, undef], defers := [] } ∧ CrM w0 V pd lr pf c R pre B W1)
    (fun s x a W1 W2 hk h => by obtain ⟨B, h1, h2⟩ := h; exact ⟨B, h1, h2.keepL hlR HW0.out HV.out (by rw [← hsz3]; exact hk)⟩) ?assign ?body ?done ?stop
  case assign =>
    rintro l pre x W1 hi ⟨rfl, rfl⟩ hlt
    rw [hsz3] at hlt
    have HI1 := Lib.hid hi
    clear hi HI
    simp only [encC, chX]
    gi_wp2
    have hb := (Below.refl W1.heap.size W1).alloc (Nat.le_refl _) (.cells #[.int .i64 1, .pointer (some ⟨pf.1, 0, none⟩), .int .i64 0, .string ⟨#[]⟩, .pointer none] 115)
    exact ⟨hb.block _ (by omega), hb.block _ (by omega), _, rfl, by omega, ⟨by simp, by simp, by simp, by simp, by simp⟩, HI1.out.later hlR hb⟩
  case body =>
    rintro l pre x a1 W1 ⟨B, rfl, hB, ⟨c0, c1, c2, c3, c4⟩, hi⟩ ⟨rfl, rfl⟩ hlt
    rw [hsz3] at hlt
    have d0 := hi.box
    have d1 := hi.prt
    have hst : Stt w0 V dk4 W1 := by
      rcases hi.st with ⟨_, h2⟩ | ⟨h1, _⟩
      · exact h2
      · cases h1
    have HI1 := Lib.hid hi
    have HU := Lib.hid (Stt.run dawk_book (fun _ => rfl) (by kernel_rfl) dr5 hst (vs := [.pointer (some ⟨pd.1, 0, none⟩), .agg (chX pf), .int .i64 1]) ⟨_, _, rfl, ⟨pd, HP.out, rfl⟩, ⟨_, _, rfl, ⟨_, ⟨_, _, rfl, rfl, ⟨_, _, rfl, ⟨pf, HD.out.file, rfl⟩, ⟨_, _, rfl, rfl, ⟨_, _, rfl, rfl, ⟨_, _, rfl, rfl, rfl⟩⟩⟩⟩⟩, rfl⟩, ⟨_, _, rfl, rfl, rfl⟩⟩⟩)
    clear hi hst HI
    have hmx : max (1 : Int) 0 = 1 := by decide
    have hmn : min (1 : Int) 1048576 = 1 := by decide
    simp only [chX] at HU ⊢
    gi_wp2_with (refine ⟨trivial, ?_⟩; gi_at_call 75; refine (CallsIn.inRound l (callsIn_wide.2 HU.out)).mono ?_; rintro e w2 ⟨V2, v2, hle, hs2, rfl, hv2, hrest, hcame⟩; have HLE := Lib.hid hle; have HS2 := Lib.hid hs2; have HRE := Lib.hid hrest; have HCA := Lib.hid hcame; obtain rfl : v2 = .tuple #[] := hv2; clear hle hs2 hrest hcame c0 c1 c2 c3 c4 d0 d1)
    have hk : ∀ k, R ≤ k → k < W1.heap.size → w2.heap[k]? = W1.heap[k]? := fun k h1 h2 => HRE.out.block k h2 fun b p hp => by have := HV.out b p hp; omega
    refine ⟨by rw [hsz3]; exact hk _ (by omega) (by omega), by rw [hsz3]; exact hk _ (by omega) (by omega), ?_⟩
    obtain ⟨lr', pf', k7, kf, a, b, d, e, f⟩ := chg_cells HS2.out dc57
    rw [HLE.out _ _ H7.out] at k7
    cases k7
    rw [HLE.out _ _ HD.out.file] at kf
    cases kf
    exact ⟨(World.cell?_of_block (hk R (by omega) (by omega))).trans HI1.out.box, (World.cell?_of_block (hk (R + 1) (by omega) (by omega))).trans HI1.out.prt, ⟨(World.cell?_of_block (hk (R + 2) (by omega) (by omega))).trans HI1.out.itc.1, a, b, d, e, f⟩, Nat.le_trans HI1.out.size HRE.out.size,
      .inr ⟨rfl, V2, HLE.out, HS2.out, fun b p hp => by
        rcases HCA.out b p hp with ⟨c, q, hq, he⟩ | h
        · have := HV.out c q hq; omega
        · omega⟩⟩
  case done =>
    rintro D W1 hD hi hK
    rw [hsz3] at hD
    subst hD
    obtain ⟨V2, hle, hst, hV2⟩ : ∃ V', V.le V' ∧ Stt w0 V' dk5 W1 ∧ ∀ b p, V' b = some p → p.1 ≠ R + 3 ∧ p.1 ≠ R + 4 := by
      rcases hi.st with ⟨h1, _⟩ | ⟨_, h⟩
      · cases h1
      · exact h
    obtain ⟨t, l6, hg, hl6, h6⟩ := dk6_is
    have hb0 := hi.box
    have HK := Lib.hid (show W1.drew.heap[R + 3]? = some (.deferred (some [])) from hK)
    have HLE := Lib.hid hle
    have HV2 := Lib.hid hV2
    have HST := Lib.hid (show Stt w0 V2 dk5 W1.drew from hst.keep (Below.refl _ _).drew)
    have HG := Lib.hid hg
    have hgz := hg
    have hwz := hst.wf
    have H6 := Lib.hid h6
    have HP2 := Lib.hid (hle _ _ HP.out)
    have HS := Lib.hid (show W1.drew.cell? ⟨R, 0, none⟩ = some (.pointer (some ⟨pd.1, 0, none⟩)) from hb0)
    have HL0 := Lib.hid (fun W2 (hW : W2.cell? ⟨R, 0, none⟩ = some (.pointer (some ⟨pd.1, 0, none⟩))) => run_cell_disk W2 _ _ hW)
    clear hi HI hle hst hV2 hg h6 hK HP H7 HD hb0
    gi_wp2
    (try dsimp only [Act.put, List.setIfInBounds_toArray, List.set_cons_zero, List.set_cons_succ])
    refine wpIn_wide.2 (wp_safe ?_)
    refine anyH_begin (S := fun W2 => W2.cell? ⟨R, 0, none⟩ = some (.pointer (some ⟨pd.1, 0, none⟩))) (by kernel_rfl) ?_
    refine anyH_loadG 0 (d := 39) (ty := 24) (x := (.tmp 3)) (gd := none) (p := .pointer (some ⟨R, 0, none⟩)) (.pointer (some ⟨pd.1, 0, none⟩)) (by rfl) (fun o ho => wanted_plain ho _) (by kernel_rfl) (by kernel_rfl) (by kernel_rfl) (fun _ _ _ h => h) (by rfl) HL0.out HS.out ?_
    simp only [Act.put, List.setIfInBounds_toArray, List.set_cons_zero, List.set_cons_succ]
    refine anyH_loadG 1 (d := 40) (ty := 24) (x := (.tmp 3)) (gd := none) (p := .pointer (some ⟨R, 0, none⟩)) (.pointer (some ⟨pd.1, 0, none⟩)) (by rfl) (fun o ho => wanted_plain ho _) (by kernel_rfl) (by kernel_rfl) (by kernel_rfl) (fun _ _ _ h => h) (by rfl) HL0.out HS.out ?_
    simp only [Act.put, List.setIfInBounds_toArray, List.set_cons_zero, List.set_cons_succ]
    refine anyH_loadG 2 (d := 41) (ty := 24) (x := (.tmp 3)) (gd := none) (p := .pointer (some ⟨R, 0, none⟩)) (.pointer (some ⟨pd.1, 0, none⟩)) (by rfl) (fun o ho => wanted_plain ho _) (by kernel_rfl) (by kernel_rfl) (by kernel_rfl) (fun _ _ _ h => h) (by rfl) HL0.out HS.out ?_
    simp only [Act.put, List.setIfInBounds_toArray, List.set_cons_zero, List.set_cons_succ]
    refine anyH_pureG 3 (d := 42) (op := .nilCheck (.tmp 39)) (gd := none) (.pointer (some ⟨pd.1, 0, none⟩)) (by rfl) (fun o ho => wanted_plain ho _) (by kernel_rfl) (by kernel_rfl) (by kernel_rfl) (fun _ _ _ h => h) (fun o ho W hW => by unfold execOp; simp only [ho]; go_simp) HS.out ?_
    simp only [Act.put, List.setIfInBounds_toArray, List.set_cons_zero, List.set_cons_succ]
    refine anyH_pureG 4 (d := 43) (op := .fieldAddr 100 (.tmp 42) 3) (gd := none) (.pointer (some ⟨pd.1, 3, none⟩)) (by rfl) (fun o ho => wanted_plain ho _) (by kernel_rfl) (by kernel_rfl) (by kernel_rfl) (fun _ _ _ h => h) (fun o ho W hW => by unfold execOp; simp only [ho]; go_simp) HS.out ?_
    simp only [Act.put, List.setIfInBounds_toArray, List.set_cons_zero, List.set_cons_succ]
    refine wpAnyH_all (rs := [5]) (by kernel_rfl) (by simp) ?_
    intro k hk; simp only [List.mem_cons, List.not_mem_nil, or_false] at hk; subst hk
    refine op_atJ 5 (d := none) (op := .store 98 (.tmp 43) (.const (.slice none 0 0))) (by rfl) ?_
    intro o0 hod0 hoo0
    obtain ⟨hst0, hth0⟩ := Stt.store HST.out HG.out (i := 3) (by simp [hl6]) (x := .lit (.slice none 0 0)) (v := .slice none 0 0) rfl HP2.out
    refine wp_store_one 98 (.tmp 43) (.const (.slice none 0 0)) hoo0 pd.1 3 (.slice none 0 0) (by rfl) (by rfl) hth0 (by kernel_rfl) (by rfl) (by rfl) ?_
    rw [hod0]
    simp only [Act.put, List.setIfInBounds_toArray, List.set_cons_zero, List.set_cons_succ]
    have HS := Lib.hid ((one_cell (o := 3) (v := .slice none 0 0) (show R ≠ pd.1 by omega)).trans HS.out)
    refine ⟨HS.out, ?_⟩
    refine anyH_pureG 6 (d := 44) (op := .nilCheck (.tmp 40)) (gd := none) (.pointer (some ⟨pd.1, 0, none⟩)) (by rfl) (fun o ho => wanted_plain ho _) (by kernel_rfl) (by kernel_rfl) (by kernel_rfl) (fun _ _ _ h => h) (fun o ho W hW => by unfold execOp; simp only [ho]; go_simp) HS.out ?_
    simp only [Act.put, List.setIfInBounds_toArray, List.set_cons_zero, List.set_cons_succ]
    refine anyH_pureG 7 (d := 45) (op := .fieldAddr 100 (.tmp 44) 4) (gd := none) (.pointer (some ⟨pd.1, 4, none⟩)) (by rfl) (fun o ho => wanted_plain ho _) (by kernel_rfl) (by kernel_rfl) (by kernel_rfl) (fun _ _ _ h => h) (fun o ho W hW => by unfold execOp; simp only [ho]; go_simp) HS.out ?_
    simp only [Act.put, List.setIfInBounds_toArray, List.set_cons_zero, List.set_cons_succ]
    refine wpAnyH_all (rs := [8]) (by kernel_rfl) (by simp) ?_
    intro k hk; simp only [List.mem_cons, List.not_mem_nil, or_false] at hk; subst hk
    refine op_atJ 8 (d := none) (op := .store 3 (.tmp 45) (.const (.int IntKind.i64 (-1)))) (by rfl) ?_
    intro o1 hod1 hoo1
    obtain ⟨hst1, hth1⟩ := Stt.store hst0 (by rw [Mem.get_write, if_pos rfl]) (i := 4) (by simp [hl6]) (x := .lit (.int .i64 (-1))) (v := .int .i64 (-1)) rfl HP2.out
    refine wp_store_one 3 (.tmp 45) (.const (.int .i64 (-1))) hoo1 pd.1 4 (.int .i64 (-1)) (by rfl) (by rfl) hth1 (by kernel_rfl) (by rfl) (by rfl) ?_
    rw [hod1]
    simp only [Act.put, List.setIfInBounds_toArray, List.set_cons_zero, List.set_cons_succ]
    have HS := Lib.hid ((one_cell (o := 4) (v := .int .i64 (-1)) (show R ≠ pd.1 by omega)).trans HS.out)
    refine ⟨HS.out, ?_⟩
    refine anyH_pureG 9 (d := 46) (op := .nilCheck (.tmp 41)) (gd := none) (.pointer (some ⟨pd.1, 0, none⟩)) (by rfl) (fun o ho => wanted_plain ho _) (by kernel_rfl) (by kernel_rfl) (by kernel_rfl) (fun _ _ _ h => h) (fun o ho W hW => by unfold execOp; simp only [ho]; go_simp) HS.out ?_
    simp only [Act.put, List.setIfInBounds_toArray, List.set_cons_zero, List.set_cons_succ]
    refine anyH_pureG 10 (d := 47) (op := .fieldAddr 100 (.tmp 46) 5) (gd := none) (.pointer (some ⟨pd.1, 5, none⟩)) (by rfl) (fun o ho => wanted_plain ho _) (by kernel_rfl) (by kernel_rfl) (by kernel_rfl) (fun _ _ _ h => h) (fun o ho W hW => by unfold execOp; simp only [ho]; go_simp) HS.out ?_
    simp only [Act.put, List.setIfInBounds_toArray, List.set_cons_zero, List.set_cons_succ]
    refine wpAnyH_all (rs := [11]) (by kernel_rfl) (by simp) ?_
    intro k hk; simp only [List.mem_cons, List.not_mem_nil, or_false] at hk; subst hk
    refine op_atJ 11 (d := none) (op := .store 4 (.tmp 47) (.const (.bool false))) (by rfl) ?_
    intro o2 hod2 hoo2
    obtain ⟨hst2, hth2⟩ := Stt.store hst1 (by rw [Mem.get_write, if_pos rfl]) (i := 5) (by simp [hl6]) (x := .lit (.bool false)) (v := .bool false) rfl HP2.out
    refine wp_store_one 4 (.tmp 47) (.const (.bool false)) hoo2 pd.1 5 (.bool false) (by rfl) (by rfl) hth2 (by kernel_rfl) (by rfl) (by rfl) ?_
    rw [hod2]
    simp only [Act.put, List.setIfInBounds_toArray, List.set_cons_zero, List.set_cons_succ]
    have HS := Lib.hid ((one_cell (o := 5) (v := .bool false) (show R ≠ pd.1 by omega)).trans HS.out)
    refine ⟨HS.out, ?_⟩
    refine wpAnyH_done (by kernel_rfl) ?_ _
    have HZ := Lib.hid hst2
    clear HST HG hst0 hst1 hst2 hth0 hth1 hth2 HL0 HS
    have HK3 := Lib.hid (show (((W1.drew.setCells pd.1 3 [.slice none 0 0]).setCells pd.1 4 [.int .i64 (-1)]).setCells pd.1 5 [.bool false]).heap[R + 3]? = some (.deferred (some [])) from by
      rw [one_heap (by omega), one_heap (by omega), one_heap (by omega)]; exact HK.out)
    obtain ⟨w9, hw9⟩ : ∃ w9, w9 = ((W1.drew.setCells pd.1 3 [.slice none 0 0]).setCells pd.1 4 [.int .i64 (-1)]).setCells pd.1 5 [.bool false] := ⟨_, rfl⟩
    rw [← hw9] at HZ HK3 ⊢
    clear hw9 HK
    gi_wp2
    refine ⟨by simp, .inl ⟨_, _, rfl, run_takeDeferred HK3.out, ?_⟩⟩
    refine ⟨.int .i64 0, ?_, rfl, V2, HLE.out, ?_⟩
    · simp [results, Try.f28, go_sem]
    · have hz : Stt w0 V2 dk6 w9 := HZ.out.same (fun b => by rw [H6.out]; simp only [Mem.get_write]; split <;> rfl) (by rw [H6.out]; rfl) (by rw [H6.out]; exact (Fact.write dk5 0 _ (by rw [hgz]; rfl)).wf hwz)
      refine hz.keepL (D := R + 3) ⟨rfl, rfl, rfl, by simp [World.putObj], fun b h1 h2 => World.putObj_heap_other h1⟩ (Nat.le_trans HW0.out (by omega)) HV2.out
  case stop =>
    rintro D pre W1 hD hf
    exact hf.elim
end Go.Proofs.Ytbbljkhjodnfpaa
