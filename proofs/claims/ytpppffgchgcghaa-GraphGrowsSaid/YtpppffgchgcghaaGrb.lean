/-
  A graph's find; a marker's Marked and blacken.
-/
import Derived.Test.YtpppffgchgcghaaGra
namespace Go.Proofs.Ytpppffgchgcghaa
open Go.RowKit Go.Maps
set_option linter.unusedVariables false
theorem wp_storeU {P : Program} {Q : Exit → Act → World → Prop} {op : Oper} {a : Act} {w w' : World} {K : Act → World → Prop} (ty : TypeId) (x y : Operand) (ho : op.op = .store ty x y) (p v : Value) (hx : a.eval x = p) (hy : a.eval y = v) (hr : (Instr.storeAt ty p v).run P w = .ok () w') (h : K (a.put op.dst undef) w') : op.wp P a w K Q := by
  unfold Oper.wp execOp
  simp only [ho, hx, hy, Sem.run_bind, hr, Result.andThen_ok, Sem.run_pure]
  exact h
theorem gnil (w : World) : (binOp .eql 70 (.map none) (.map none)).run Try.prog w = .ok (.bool true) w := by kernel_rfl
theorem gsome (m : Nat) (w : World) : (binOp .eql 70 (.map (some m)) (.map none)).run Try.prog w = .ok (.bool false) w := by kernel_rfl
theorem gmake (W : World) : (Instr.makeMap 70 none).run Try.prog W = .ok (.map (some W.heap.size)) (W.alloc (.map #[] 0)) := run_makeMap _ W
theorem smake (W : World) : (Instr.makeMap 74 none).run Try.prog W = .ok (.map (some W.heap.size)) (W.alloc (.map #[] 0)) := run_makeMap _ W
theorem snil (w : World) : (binOp .eql 74 (.map none) (.map none)).run Try.prog w = .ok (.bool true) w := by kernel_rfl
theorem ssome (m : Nat) (w : World) : (binOp .eql 74 (.map (some m)) (.map none)).run Try.prog w = .ok (.bool false) w := by kernel_rfl
theorem exec_lookupU {P : Program} {a : Act} {o : Oper} {W : World} {x y : Operand} {t : TypeId} {ok : Bool} {v u r : Value} (ho : o.op = .lookup t x y ok) (hx : a.eval x = v) (hy : a.eval y = u) (hr : (Instr.lookup t v u ok).run P W = .ok r W) : (execOp a.eval o).run P W = .ok (.value r) W := by
  unfold execOp
  simp only [ho, hx, hy, Sem.run_bind, hr, Result.andThen_ok, Sem.run_pure]
/-- what is found, in every world in which the map's block stands -/
theorem GM.lookAll {B m n : Nat} {V : Nat → Prop} {w : World} {D : DV} {f : List Nat → Option Ds} (h : GM B V w m n D f) {s : List Nat} (hs : D32 s) : ∃ v, (∀ W : World, W.heap[m]? = w.heap[m]? → (Instr.lookup 70 (.map (some m)) (.agg (cellsOf s).toArray) true).run Try.prog W = .ok (.tuple #[v, .bool (f s).isSome]) W) ∧ OwE w B v ((f s).getD []) ∧ (∀ d ∈ (f s).getD [], D32 d) ∧ (∀ k, v.ownBlock = some k → V k) := by
  have hmp : ∀ W : World, W.heap[m]? = w.heap[m]? → W.ownsMap Try.prog 42 rowG m n D := fun W hW => by
    obtain ⟨es, clock, hh, r⟩ := h.mp
    exact ⟨es, clock, hW.trans hh, r⟩
  rcases h.vs s hs with ⟨h1, h2⟩ | ⟨v0, zs, h1, h2, h3, h4, h5, h6⟩
  · refine ⟨.slice none 0 0, fun W hW => ?_, by rw [h2]; exact OwnD.nil _ _ _, by rw [h2]; simp, fun k e => by cases e⟩
    obtain ⟨v, ps, hrun, hv⟩ := (hmp W hW).look_ok gLaw Try.underlying70 (zeroSlG W) (zd := .nil) (zp := []) rfl (keyOkD hs)
    rw [Maps.atKey_of_not_has h1] at hv
    obtain rfl := rowG_nil hv
    rw [hrun, h1, h2]
    rfl
  · refine ⟨v0, fun W hW => ?_, by rw [h1]; exact h4, by rw [h1]; exact h5, h6⟩
    obtain ⟨v, ps, hrun, hv⟩ := (hmp W hW).look_ok gLaw Try.underlying70 (zeroSlG W) (zd := .nil) (zp := []) rfl (keyOkD hs)
    obtain rfl := rowG_inj hv h3
    rw [hrun, h1, h2]
    rfl
theorem run_look_nil (W : World) (k : Value) (hk : ∃ l, keyOf Try.prog 42 k = some l) : (Instr.lookup 70 (.map none) k true).run Try.prog W = .ok (.tuple #[.slice none 0 0, .bool false]) W := by
  obtain ⟨l, hl⟩ := hk
  have := Maps.look_nil (P := Try.prog) (w := W) true gLaw Try.underlying70 (zeroSlG W) hl
  rw [this]
  rfl
theorem run_look_nilS (W : World) (k : Value) (hk : ∃ l, keyOf Try.prog 42 k = some l) : (Instr.lookup 74 (.map none) k true).run Try.prog W = .ok (.tuple #[.agg #[], .bool false]) W := by
  obtain ⟨l, hl⟩ := hk
  have := Maps.look_nil (P := Try.prog) (w := W) true gLaw Try.underlying74 (zeroSt W) hl
  rw [this]
  rfl
theorem run_cell_gm (W : World) (p : Addr) (m : Option Nat) (hc : W.cell? p = some (.map m)) : (Instr.loadAt 70 (.pointer (some p))).run Try.prog W = .ok (.map m) W := by go_simp
theorem run_cell_gs (W : World) (p : Addr) (m : Option Nat) (hc : W.cell? p = some (.map m)) : (Instr.loadAt 74 (.pointer (some p))).run Try.prog W = .ok (.map m) W := by go_simp
theorem run_cell_dig (W : World) (b : Nat) (d : List Nat) (hd : D32 d) (hc : W.heap[b]? = some (.cells (cellsOf d).toArray 42 (0, 0))) : (Instr.loadAt 42 (.pointer (some ⟨b, 0, none⟩))).run Try.prog W = .ok (.agg (cellsOf d).toArray) W :=
  run_dload dtA W b 0 d hd fun j v hj => by
    rw [cell_of_row W b _ _ _ _ hc]
    simpa using hj
set_option maxRecDepth 100000 in
set_option maxHeartbeats 4000000 in
theorem find_c {B N g : Nat} {V : Nat → Prop} {w : World} {f : List Nat → Option Ds} (h : GR B N V w g f) {s : List Nat} (hs : D32 s) : Calls Try.prog 38 #[.pointer (some ⟨g, 0, none⟩), .agg (cellsOf s).toArray] w fun e w' => ∃ v, e = .returned (.tuple #[v, .bool (f s).isSome]) ∧ OwE w' B v ((f s).getD []) ∧ (∀ d ∈ (f s).getD [], D32 d) ∧ (∀ k, v.ownBlock = some k → V k) ∧ Below w.heap.size w w' := by
  obtain ⟨mb, h1, h2⟩ := h.ex
  have hgl := (h.vb g h.own).2
  have hlk : ∃ v, (∀ W : World, Below w.heap.size w W → (Instr.lookup 70 (.map mb) (.agg (cellsOf s).toArray) true).run Try.prog W = .ok (.tuple #[v, .bool (f s).isSome]) W) ∧ OwE w B v ((f s).getD []) ∧ (∀ d ∈ (f s).getD [], D32 d) ∧ (∀ k, v.ownBlock = some k → V k) := by
    rcases h2 with ⟨rfl, h3⟩ | ⟨m, n, D, rfl, hn, hm⟩
    · refine ⟨.slice none 0 0, fun W hW => ?_, by rw [h3 s]; exact OwnD.nil _ _ _, by rw [h3 s]; simp, fun k e => by cases e⟩
      rw [h3 s]
      exact run_look_nil W _ (key_some hs)
    · obtain ⟨v, a1, a2, a3, a4⟩ := hm.lookAll hs
      exact ⟨v, fun W hW => a1 W (hW.block m (h.vb m hm.vm).2), a2, a3, a4⟩
  obtain ⟨v, l1, l2, l3, l4⟩ := hlk
  have HLKw := Lib.hid l1
  have HOW := Lib.hid l2
  have HD := Lib.hid l3
  have HV := Lib.hid l4
  have HSD := Lib.hid hs
  have HG := Lib.hid (And.intro h1 hgl)
  clear l1 l2 l3 l4 h h1 h2 hs hgl
  go_enter Try.func38, Try.ntmps38
  go_wp2_with fail
  obtain ⟨X, hX⟩ : ∃ X, X = w.heap.size := ⟨_, rfl⟩
  obtain ⟨w1, hw1⟩ : ∃ w1, w1 = w.alloc (.cells (cellsOf s).toArray 42) := ⟨_, rfl⟩
  rw [← hX]
  rw [← hw1]
  obtain ⟨W0, hW0⟩ : ∃ W0, W0 = World.drew w1 := ⟨_, rfl⟩
  have hb0 : Below w.heap.size w W0 := by rw [hW0, hw1]; exact ((Below.refl _ _).alloc (Nat.le_refl _) _).trans (below_drewN' _ _ 1)
  have hx0 : W0.heap[X]? = some (.cells (cellsOf s).toArray 42 (0, 0)) := by rw [hW0, hw1, hX]; exact heap_alloc_new w _
  have HB := Lib.hid hb0
  have HS := Lib.hid (show Below W0.heap.size W0 W0 from Below.refl _ _)
  have HX := Lib.hid hx0
  have HL1 := Lib.hid (fun (W : World) (hW : Below W0.heap.size W0 W) => run_cell_gm W ⟨g, 0, none⟩ mb ((cell_of_row W g 0 _ _ _ ((hW.block g (Nat.lt_of_lt_of_le HG.out.2 HB.out.size)).trans ((HB.out.block g HG.out.2).trans HG.out.1))).trans rfl))
  have HL2 := Lib.hid (fun (W : World) (hW : Below W0.heap.size W0 W) => run_cell_dig W X s HSD.out ((hW.block X (Array.getElem?_eq_some_iff.1 HX.out).1).trans HX.out))
  have HLK := Lib.hid (fun (W : World) (hW : Below W0.heap.size W0 W) => HLKw.out W (HB.out.trans (hW.mono HB.out.size)))
  clear hb0 hx0 hX hw1
  refine anyH_begin (S := fun W => Below W0.heap.size W0 W) (by kernel_rfl) ?_
  rw [← hW0]
  clear hW0
  refine anyH_pureG 0 (d := 11) (op := .move (.tmp 0)) (gd := none) (.pointer (some ⟨g, 0, none⟩)) (by rfl) (fun o ho => wanted_plain ho _) (by kernel_rfl) (by kernel_rfl) (by kernel_rfl) (fun _ _ _ h => h) (fun o ho W hW => by unfold execOp; simp only [ho]; go_simp) HS.out ?_
  simp only [Act.put, List.setIfInBounds_toArray, List.set_cons_zero, List.set_cons_succ]
  refine anyH_pureG 1 (d := 12) (op := .nilCheck (.tmp 11)) (gd := none) (.pointer (some ⟨g, 0, none⟩)) (by rfl) (fun o ho => wanted_plain ho _) (by kernel_rfl) (by kernel_rfl) (by kernel_rfl) (fun _ _ _ h => h) (fun o ho W hW => by unfold execOp; simp only [ho]; go_simp) HS.out ?_
  simp only [Act.put, List.setIfInBounds_toArray, List.set_cons_zero, List.set_cons_succ]
  refine anyH_pureG 2 (d := 13) (op := .fieldAddr 72 (.tmp 12) 0) (gd := none) (.pointer (some ⟨g, 0, none⟩)) (by rfl) (fun o ho => wanted_plain ho _) (by kernel_rfl) (by kernel_rfl) (by kernel_rfl) (fun _ _ _ h => h) (fun o ho W hW => by unfold execOp; simp only [ho]; go_simp) HS.out ?_
  simp only [Act.put, List.setIfInBounds_toArray, List.set_cons_zero, List.set_cons_succ]
  refine anyH_loadG 3 (d := 14) (ty := 70) (x := (.tmp 13)) (gd := none) (p := .pointer (some ⟨g, 0, none⟩)) (.map mb) (by rfl) (fun o ho => wanted_plain ho _) (by kernel_rfl) (by kernel_rfl) (by kernel_rfl) (fun _ _ _ h => h) (by rfl) HL1.out HS.out ?_
  simp only [Act.put, List.setIfInBounds_toArray, List.set_cons_zero, List.set_cons_succ]
  refine anyH_loadG 4 (d := 15) (ty := 42) (x := (.tmp 3)) (gd := none) (p := .pointer (some ⟨X, 0, none⟩)) (.agg (cellsOf s).toArray) (by rfl) (fun o ho => wanted_plain ho _) (by kernel_rfl) (by kernel_rfl) (by kernel_rfl) (fun _ _ _ h => h) (by rfl) HL2.out HS.out ?_
  simp only [Act.put, List.setIfInBounds_toArray, List.set_cons_zero, List.set_cons_succ]
  refine anyH_pureG 5 (d := 16) (op := .lookup 70 (.tmp 14) (.tmp 15) true) (gd := none) (.tuple #[v, .bool (f s).isSome]) (by rfl) (fun o ho => wanted_plain ho _) (by kernel_rfl) (by kernel_rfl) (by kernel_rfl) (fun _ _ _ h => h) (fun o ho W hW => exec_lookupU ho (by rfl) (by rfl) (HLK.out W hW)) HS.out ?_
  simp only [Act.put, List.setIfInBounds_toArray, List.set_cons_zero, List.set_cons_succ]
  refine anyH_pureG 6 (d := 10) (op := .move (.tmp 16)) (gd := none) (.tuple #[v, .bool (f s).isSome]) (by rfl) (fun o ho => wanted_plain ho _) (by kernel_rfl) (by kernel_rfl) (by kernel_rfl) (fun _ _ _ h => h) (fun o ho W hW => by unfold execOp; simp only [ho]; go_simp) HS.out ?_
  simp only [Act.put, List.setIfInBounds_toArray, List.set_cons_zero, List.set_cons_succ]
  refine anyH_pureG 7 (d := 17) (op := .extract (.tmp 10) 0) (gd := none) (v) (by rfl) (fun o ho => wanted_plain ho _) (by kernel_rfl) (by kernel_rfl) (by kernel_rfl) (fun _ _ _ h => h) (fun o ho W hW => by unfold execOp; simp only [ho]; go_simp) HS.out ?_
  simp only [Act.put, List.setIfInBounds_toArray, List.set_cons_zero, List.set_cons_succ]
  refine anyH_pureG 8 (d := 18) (op := .extract (.tmp 10) 1) (gd := none) (.bool (f s).isSome) (by rfl) (fun o ho => wanted_plain ho _) (by kernel_rfl) (by kernel_rfl) (by kernel_rfl) (fun _ _ _ h => h) (fun o ho W hW => by unfold execOp; simp only [ho]; go_simp) HS.out ?_
  simp only [Act.put, List.setIfInBounds_toArray, List.set_cons_zero, List.set_cons_succ]
  refine anyH_pureG 9 (d := 6) (op := .assign (.tmp 17)) (gd := none) (v) (by rfl) (fun o ho => wanted_plain ho _) (by kernel_rfl) (by kernel_rfl) (by kernel_rfl) (fun _ _ _ h => h) (fun o ho W hW => by unfold execOp; simp only [ho]; go_simp) HS.out ?_
  simp only [Act.put, List.setIfInBounds_toArray, List.set_cons_zero, List.set_cons_succ]
  refine anyH_pureG 10 (d := 7) (op := .assign (.tmp 18)) (gd := none) (.bool (f s).isSome) (by rfl) (fun o ho => wanted_plain ho _) (by kernel_rfl) (by kernel_rfl) (by kernel_rfl) (fun _ _ _ h => h) (fun o ho W hW => by unfold execOp; simp only [ho]; go_simp) HS.out ?_
  simp only [Act.put, List.setIfInBounds_toArray, List.set_cons_zero, List.set_cons_succ]
  refine wpAnyH_done (by kernel_rfl) ?_ _
  clear HL1 HL2 HLK HS HX HLKw
  go_wp2_with fail
  go_ret2
  exact ⟨v, rfl, HOW.out.below HB.out (Nat.le_refl _), HD.out, HV.out, HB.out⟩
set_option maxRecDepth 100000 in
set_option maxHeartbeats 4000000 in
theorem marked_c {B N k g : Nat} {O : Nat → Prop} {w : World} {gray : Ds} {b : List Nat → Bool} (h : MR B N O w k g gray b) {s : List Nat} (hs : D32 s) : Calls Try.prog 21 #[.pointer (some ⟨k, 0, none⟩), .agg (cellsOf s).toArray] w fun e w' => e = .returned (.bool (b s)) ∧ Below w.heap.size w w' := by
  obtain ⟨gv, bm, h1, h2, h3, h4⟩ := h.ex
  have hkl := (h.ob k h.own).2
  have hlk : ∀ W : World, Below w.heap.size w W → (Instr.lookup 74 (.map bm) (.agg (cellsOf s).toArray) true).run Try.prog W = .ok (.tuple #[.agg #[], .bool (b s)]) W := fun W hW => by
    rcases h4 with ⟨rfl, h5⟩ | ⟨m, n, D, rfl, hn, ho, hm⟩
    · rw [h5 s]
      exact run_look_nilS W _ (key_some hs)
    · exact (hm.keep (hW.block m (h.ob m ho).2)).look hs
  have HLKw := Lib.hid hlk
  have HSD := Lib.hid hs
  have HG := Lib.hid (And.intro h1 hkl)
  clear h h1 h2 h3 h4 hs hkl hlk
  go_enter Try.func21, Try.ntmps21
  go_wp2_with fail
  obtain ⟨X, hX⟩ : ∃ X, X = w.heap.size := ⟨_, rfl⟩
  obtain ⟨w1, hw1⟩ : ∃ w1, w1 = w.alloc (.cells (cellsOf s).toArray 42) := ⟨_, rfl⟩
  rw [← hX]
  rw [← hw1]
  obtain ⟨W0, hW0⟩ : ∃ W0, W0 = World.drew w1 := ⟨_, rfl⟩
  have hb0 : Below w.heap.size w W0 := by rw [hW0, hw1]; exact ((Below.refl _ _).alloc (Nat.le_refl _) _).trans (below_drewN' _ _ 1)
  have hx0 : W0.heap[X]? = some (.cells (cellsOf s).toArray 42 (0, 0)) := by rw [hW0, hw1, hX]; exact heap_alloc_new w _
  have HB := Lib.hid hb0
  have HS := Lib.hid (show Below W0.heap.size W0 W0 from Below.refl _ _)
  have HX := Lib.hid hx0
  have HL1 := Lib.hid (fun (W : World) (hW : Below W0.heap.size W0 W) => run_cell_gs W ⟨k, 2, none⟩ bm ((cell_of_row W k 2 _ _ _ ((hW.block k (Nat.lt_of_lt_of_le HG.out.2 HB.out.size)).trans ((HB.out.block k HG.out.2).trans HG.out.1))).trans rfl))
  have HL2 := Lib.hid (fun (W : World) (hW : Below W0.heap.size W0 W) => run_cell_dig W X s HSD.out ((hW.block X (Array.getElem?_eq_some_iff.1 HX.out).1).trans HX.out))
  have HLK := Lib.hid (fun (W : World) (hW : Below W0.heap.size W0 W) => HLKw.out W (HB.out.trans (hW.mono HB.out.size)))
  clear hb0 hx0 hX hw1
  refine anyH_begin (S := fun W => Below W0.heap.size W0 W) (by kernel_rfl) ?_
  rw [← hW0]
  clear hW0
  refine anyH_pureG 0 (d := 10) (op := .move (.tmp 0)) (gd := none) (.pointer (some ⟨k, 0, none⟩)) (by rfl) (fun o ho => wanted_plain ho _) (by kernel_rfl) (by kernel_rfl) (by kernel_rfl) (fun _ _ _ h => h) (fun o ho W hW => by unfold execOp; simp only [ho]; go_simp) HS.out ?_
  simp only [Act.put, List.setIfInBounds_toArray, List.set_cons_zero, List.set_cons_succ]
  refine anyH_pureG 1 (d := 11) (op := .nilCheck (.tmp 10)) (gd := none) (.pointer (some ⟨k, 0, none⟩)) (by rfl) (fun o ho => wanted_plain ho _) (by kernel_rfl) (by kernel_rfl) (by kernel_rfl) (fun _ _ _ h => h) (fun o ho W hW => by unfold execOp; simp only [ho]; go_simp) HS.out ?_
  simp only [Act.put, List.setIfInBounds_toArray, List.set_cons_zero, List.set_cons_succ]
  refine anyH_pureG 2 (d := 12) (op := .fieldAddr 76 (.tmp 11) 2) (gd := none) (.pointer (some ⟨k, 2, none⟩)) (by rfl) (fun o ho => wanted_plain ho _) (by kernel_rfl) (by kernel_rfl) (by kernel_rfl) (fun _ _ _ h => h) (fun o ho W hW => by unfold execOp; simp only [ho]; go_simp) HS.out ?_
  simp only [Act.put, List.setIfInBounds_toArray, List.set_cons_zero, List.set_cons_succ]
  refine anyH_loadG 3 (d := 13) (ty := 74) (x := (.tmp 12)) (gd := none) (p := .pointer (some ⟨k, 2, none⟩)) (.map bm) (by rfl) (fun o ho => wanted_plain ho _) (by kernel_rfl) (by kernel_rfl) (by kernel_rfl) (fun _ _ _ h => h) (by rfl) HL1.out HS.out ?_
  simp only [Act.put, List.setIfInBounds_toArray, List.set_cons_zero, List.set_cons_succ]
  refine anyH_loadG 4 (d := 14) (ty := 42) (x := (.tmp 3)) (gd := none) (p := .pointer (some ⟨X, 0, none⟩)) (.agg (cellsOf s).toArray) (by rfl) (fun o ho => wanted_plain ho _) (by kernel_rfl) (by kernel_rfl) (by kernel_rfl) (fun _ _ _ h => h) (by rfl) HL2.out HS.out ?_
  simp only [Act.put, List.setIfInBounds_toArray, List.set_cons_zero, List.set_cons_succ]
  refine anyH_pureG 5 (d := 15) (op := .lookup 74 (.tmp 13) (.tmp 14) true) (gd := none) (.tuple #[.agg #[], .bool (b s)]) (by rfl) (fun o ho => wanted_plain ho _) (by kernel_rfl) (by kernel_rfl) (by kernel_rfl) (fun _ _ _ h => h) (fun o ho W hW => exec_lookupU ho (by rfl) (by rfl) (HLK.out W hW)) HS.out ?_
  simp only [Act.put, List.setIfInBounds_toArray, List.set_cons_zero, List.set_cons_succ]
  refine anyH_pureG 6 (d := 9) (op := .move (.tmp 15)) (gd := none) (.tuple #[.agg #[], .bool (b s)]) (by rfl) (fun o ho => wanted_plain ho _) (by kernel_rfl) (by kernel_rfl) (by kernel_rfl) (fun _ _ _ h => h) (fun o ho W hW => by unfold execOp; simp only [ho]; go_simp) HS.out ?_
  simp only [Act.put, List.setIfInBounds_toArray, List.set_cons_zero, List.set_cons_succ]
  refine anyH_pureG 7 (d := 16) (op := .extract (.tmp 9) 0) (gd := none) (.agg #[]) (by rfl) (fun o ho => wanted_plain ho _) (by kernel_rfl) (by kernel_rfl) (by kernel_rfl) (fun _ _ _ h => h) (fun o ho W hW => by unfold execOp; simp only [ho]; go_simp) HS.out ?_
  simp only [Act.put, List.setIfInBounds_toArray, List.set_cons_zero, List.set_cons_succ]
  refine anyH_pureG 8 (d := 17) (op := .extract (.tmp 9) 1) (gd := none) (.bool (b s)) (by rfl) (fun o ho => wanted_plain ho _) (by kernel_rfl) (by kernel_rfl) (by kernel_rfl) (fun _ _ _ h => h) (fun o ho W hW => by unfold execOp; simp only [ho]; go_simp) HS.out ?_
  simp only [Act.put, List.setIfInBounds_toArray, List.set_cons_zero, List.set_cons_succ]
  refine anyH_oneU 9 (d1 := some 5) (op1 := .alloc 84) (by kernel_rfl) (by rfl) ?_
  intro o1 hod1 hoo1
  refine wp_runU (.pointer (some ⟨W0.heap.size, 0, none⟩)) (w' := W0.alloc (.cells #[] 84)) (by unfold execOp; simp only [hoo1]; go_simp) ?_
  rw [hod1]
  simp only [Act.put, List.setIfInBounds_toArray, List.set_cons_zero, List.set_cons_succ]
  refine ⟨(Below.refl _ _).alloc (Nat.le_refl _) _, ?_⟩
  --nosimp
  refine anyH_oneU 10 (d1 := none) (op1 := .store 84 (.tmp 5) (.tmp 16)) (by kernel_rfl) (by rfl) ?_
  intro o2 hod2 hoo2
  refine wp_storeU (w' := W0.alloc (.cells #[] 84)) 84 (.tmp 5) (.tmp 16) hoo2 (.pointer (some ⟨W0.heap.size, 0, none⟩)) (.agg #[]) (by rfl) (by rfl) (by go_simp) ?_
  rw [hod2]
  simp only [Act.put, List.setIfInBounds_toArray, List.set_cons_zero, List.set_cons_succ]
  refine ⟨(Below.refl _ _).alloc (Nat.le_refl _) _, ?_⟩
  --nosimp
  refine anyH_pureG 11 (d := 6) (op := .assign (.tmp 17)) (gd := none) (.bool (b s)) (by rfl) (fun o ho => wanted_plain ho _) (by kernel_rfl) (by kernel_rfl) (by kernel_rfl) (fun _ _ _ h => h) (fun o ho W hW => by unfold execOp; simp only [ho]; go_simp) ((Below.refl _ _).alloc (Nat.le_refl _) _) ?_
  simp only [Act.put, List.setIfInBounds_toArray, List.set_cons_zero, List.set_cons_succ]
  refine wpAnyH_done (by kernel_rfl) ?_ _
  clear HL1 HL2 HLK HS HX HLKw
  go_wp2_with fail
  go_ret
  exact ⟨rfl, HB.out.alloc HB.out.size _⟩
/-- the end of blacken -/
theorem BlkEnd {B N k g m n : Nat} {O : Nat → Prop} {w W1 w7 : World} {gray : Ds} {b b' : List Nat → Bool} {gv : Value} {D D7 : DV} (hk : W1.heap[k]? = some (.cells #[.pointer (some ⟨g, 0, none⟩), gv, .map (some m)] 76 (0, 0))) (hq : QR W1 B gv gray) (hbm : BM W1 m n D b) (hm7 : BM w7 m (n + 1) D7 b') (hg : W1.grownBy w7 (some m)) (hf : Fr O w W1) (hob : ∀ j, O j → B ≤ j ∧ j < w.heap.size) (hoo : O k ∧ ext O w W1 m ∧ ∀ j, gv.ownBlock = some j → O j) (hn : n ≤ N) (hB : B ≤ w.heap.size) : MR B (N + 1) (ext O w w7) w7 k g gray b' := by
  obtain ⟨es, cl, hmm⟩ := gmap_block hbm.mp
  have hkm : some k ≠ some m := fun e => by rw [Option.some.inj e, hmm] at hk; cases hk
  refine ⟨.inl hoo.1, ext_ob hob hB (Nat.le_trans hf.size hg.size), gv, some m, (hg.block k (Array.getElem?_eq_some_iff.1 hk).1 hkm).trans hk, hq.keep fun j e => ?_, fun j e => .inl (hoo.2.2 j e), .inr ⟨m, n + 1, D7, rfl, by omega, ?_, hm7⟩⟩
  · obtain ⟨_, hjl, cur, hc⟩ := hq.block j e
    exact hg.block j hjl fun e2 => by rw [Option.some.inj e2, hmm] at hc; cases hc
  · rcases hoo.2.1 with h | h
    · exact .inl h
    · exact .inr ⟨h.1, Nat.lt_of_lt_of_le h.2 hg.size⟩
set_option maxRecDepth 100000 in
set_option maxHeartbeats 4000000 in
theorem blacken_c {B N k g : Nat} {O : Nat → Prop} {w : World} {gray : Ds} {b : List Nat → Bool} (h : MR B N O w k g gray b) (hB : B ≤ w.heap.size) (hN : N ≤ 1000000000) {s : List Nat} (hs : D32 s) : Calls Try.prog 47 #[.pointer (some ⟨k, 0, none⟩), .agg (cellsOf s).toArray] w fun e w' => e = .returned (.tuple #[]) ∧ MR B (N + 1) (ext O w w') w' k g gray (fun t => if t = s then true else b t) ∧ Fr O w w' := by
  obtain ⟨gv, bm, h1, h2, h3, h4⟩ := h.ex
  have hkl := (h.ob k h.own).2
  have HSD := Lib.hid hs
  have HOB := Lib.hid h.ob
  have HBB := Lib.hid hB
  have HOK := Lib.hid (And.intro h.own h3)
  have HQ0 := Lib.hid h2
  have H1 := Lib.hid h1
  have HNN := Lib.hid hN
  have c1 : w.cell? ⟨k, 2, none⟩ = some (.map bm) := (cell_of_row w k 2 _ _ _ h1).trans rfl
  have c2 : w.frozen? ⟨k, 2, none⟩ = false := frozen_of_row w k 2 _ _ h1
  rcases h4 with ⟨rfl, h5⟩ | ⟨m, n, D, rfl, hn, ho, hm⟩
  · have H5 := Lib.hid h5
    have hmk := fun W => snil W
    have hmm := fun W => smake W
    clear h h1 h2 h3 hs hB hN h5
    go_enter Try.func47, Try.ntmps47
    go_wp2_with fail
    obtain ⟨X, hX⟩ : ∃ X, X = w.heap.size := ⟨_, rfl⟩
    obtain ⟨m, hmX⟩ : ∃ m, m = w.heap.size + 1 := ⟨_, rfl⟩
    obtain ⟨n, hn0⟩ : ∃ n, n = 0 := ⟨_, rfl⟩
    obtain ⟨D, hD0⟩ : ∃ D : DV, D = .map [] := ⟨_, rfl⟩
    rw [← hmX, ← hX]
    obtain ⟨W1, hW1⟩ : ∃ W1, W1 = ((w.setCell ⟨k, 2, none⟩ (.map (some m))).alloc (.cells (cellsOf s).toArray 42)).alloc (.map #[] 0) := ⟨_, rfl⟩
    rw [← hW1]
    have hs0 : (w.setCell ⟨k, 2, none⟩ (.map (some m))).heap.size = w.heap.size := by simp only [World.setCell, Array.size_modify]
    have hs1 : W1.heap.size = w.heap.size + 2 := by rw [hW1]; simp only [World.alloc, Array.size_push, hs0]
    have hkk : (w.setCell ⟨k, 2, none⟩ (.map (some m))).heap[k]? = some (.cells #[.pointer (some ⟨g, 0, none⟩), gv, .map (some m)] 76 (0, 0)) := row_set (o := 2) H1.out (.map (some m)) (by show 2 < 3; omega)
    have hold : ∀ j, j < w.heap.size → j ≠ k → W1.heap[j]? = w.heap[j]? := fun j hj hne => by
      rw [hW1, Below.heap_alloc _ _ _ (by simp only [World.alloc, Array.size_push, hs0]; omega), Below.heap_alloc _ _ _ (by rw [hs0]; exact hj)]
      exact Below.heap_setCell w ⟨k, 2, none⟩ _ j hne
    have HK := Lib.hid (show W1.heap[k]? = some (.cells #[.pointer (some ⟨g, 0, none⟩), gv, .map (some m)] 76 (0, 0)) from by
      rw [hW1, Below.heap_alloc _ _ _ (by simp only [World.alloc, Array.size_push, hs0]; omega), Below.heap_alloc _ _ _ (by rw [hs0]; exact hkl)]
      exact hkk)
    have HX := Lib.hid (show W1.heap[X]? = some (.cells (cellsOf s).toArray 42 (0, 0)) from by
      rw [hW1, Below.heap_alloc _ _ _ (by simp only [World.alloc, Array.size_push, hs0]; omega), hX, ← hs0]
      exact heap_alloc_new _ _)
    have HF := Lib.hid (show Fr O w W1 from ⟨by rw [hW1]; rfl, by rw [hW1]; rfl, by rw [hW1]; rfl, by omega, fun j hj hn => hold j hj fun e => hn (by rw [e]; exact HOK.out.1)⟩)
    have HBM := Lib.hid (show BM W1 m n D b from by
      have := BM.made ((w.setCell ⟨k, 2, none⟩ (.map (some m))).alloc (.cells (cellsOf s).toArray 42))
      rw [show ((w.setCell ⟨k, 2, none⟩ (.map (some m))).alloc (.cells (cellsOf s).toArray 42)).heap.size = m by simp only [World.alloc, Array.size_push, hs0]; exact hmX.symm, ← hW1] at this
      rw [hn0, hD0, show b = fun _ => false from funext H5.out]
      exact this)
    have HQ := Lib.hid (show QR W1 B gv gray from HQ0.out.keep fun j e => hold j (HQ0.out.block j e).2.1 fun e2 => by
      obtain ⟨_, _, cur, hc⟩ := HQ0.out.block j e
      rw [e2, H1.out] at hc
      simp only [Option.some.injEq, Obj.cells.injEq] at hc
      exact absurd hc.2.1 (by decide))
    have HOO := Lib.hid (show O k ∧ ext O w W1 m ∧ ∀ j, gv.ownBlock = some j → O j from ⟨HOK.out.1, .inr ⟨by omega, by omega⟩, HOK.out.2⟩)
    have HN := Lib.hid (show n ≤ N ∧ N ≤ 1000000000 from ⟨by omega, HNN.out⟩)
    clear hW1 c1 c2 hkl H1 hkk hold hs0 hs1 hX hmX hn0 hD0 HQ0 H5
    obtain ⟨W0, hW0⟩ : ∃ W0, W0 = World.drew W1 := ⟨_, rfl⟩
    have HM := Lib.hid (show BM W0 m n D b from by rw [hW0]; exact HBM.out.keep rfl)
    have HS := Lib.hid (show W0.cell? ⟨k, 2, none⟩ = some (.map (some m)) ∧ W0.heap[X]? = some (.cells (cellsOf s).toArray 42 (0, 0)) from by rw [hW0]; exact ⟨(cell_of_row W1 k 2 _ _ _ HK.out).trans rfl, HX.out⟩)
    have HL1 := Lib.hid (fun (W : World) (hW : W.cell? ⟨k, 2, none⟩ = some (.map (some m)) ∧ W.heap[X]? = some (.cells (cellsOf s).toArray 42 (0, 0))) => run_cell_gs W ⟨k, 2, none⟩ (some m) hW.1)
    have HL2 := Lib.hid (fun (W : World) (hW : W.cell? ⟨k, 2, none⟩ = some (.map (some m)) ∧ W.heap[X]? = some (.cells (cellsOf s).toArray 42 (0, 0))) => run_cell_dig W X s HSD.out hW.2)
    obtain ⟨w7, D7, hrun, hm7, hg7⟩ := HM.out.put HSD.out (by have h1 := HN.out.1; have h2 := HN.out.2; unfold maxLen; omega)
    have HRUN := Lib.hid hrun
    have HM7 := Lib.hid hm7
    have HG7 := Lib.hid (show W1.grownBy w7 (some m) from ⟨hg7.os.trans (by rw [hW0]; rfl), hg7.tape.trans (by rw [hW0]; rfl), hg7.output.trans (by rw [hW0]; rfl), by have := hg7.size; rw [hW0] at this; exact this, fun j hj hn => (hg7.block j (by rw [hW0]; exact hj) hn).trans (by rw [hW0]; rfl)⟩)
    have HS7 := Lib.hid (show w7.cell? ⟨k, 2, none⟩ = some (.map (some m)) ∧ w7.heap[X]? = some (.cells (cellsOf s).toArray 42 (0, 0)) from by
      obtain ⟨es, cl, hmm⟩ := gmap_block HBM.out.mp
      have hkm : some k ≠ some m := fun e => by
        have h1 := HK.out
        rw [Option.some.inj e, hmm] at h1
        cases h1
      have hxm : some X ≠ some m := fun e => by
        have h1 := HX.out
        rw [Option.some.inj e, hmm] at h1
        cases h1
      exact ⟨(cell_of_row w7 k 2 _ _ _ ((HG7.out.block k (Array.getElem?_eq_some_iff.1 HK.out).1 hkm).trans HK.out)).trans rfl, (HG7.out.block X (Array.getElem?_eq_some_iff.1 HX.out).1 hxm).trans HX.out⟩)
    clear hrun hm7 hg7
    refine anyH_begin (S := fun W => W.cell? ⟨k, 2, none⟩ = some (.map (some m)) ∧ W.heap[X]? = some (.cells (cellsOf s).toArray 42 (0, 0))) (by kernel_rfl) ?_
    rw [← hW0]
    clear hW0
    refine anyH_pureG 0 (d := 13) (op := .move (.tmp 0)) (gd := none) (.pointer (some ⟨k, 0, none⟩)) (by rfl) (fun o ho => wanted_plain ho _) (by kernel_rfl) (by kernel_rfl) (by kernel_rfl) (fun _ _ _ h => h) (fun o ho W hW => by unfold execOp; simp only [ho]; go_simp) HS.out ?_
    simp only [Act.put, List.setIfInBounds_toArray, List.set_cons_zero, List.set_cons_succ]
    refine anyH_pureG 1 (d := 14) (op := .nilCheck (.tmp 13)) (gd := none) (.pointer (some ⟨k, 0, none⟩)) (by rfl) (fun o ho => wanted_plain ho _) (by kernel_rfl) (by kernel_rfl) (by kernel_rfl) (fun _ _ _ h => h) (fun o ho W hW => by unfold execOp; simp only [ho]; go_simp) HS.out ?_
    simp only [Act.put, List.setIfInBounds_toArray, List.set_cons_zero, List.set_cons_succ]
    refine anyH_pureG 2 (d := 15) (op := .fieldAddr 76 (.tmp 14) 2) (gd := none) (.pointer (some ⟨k, 2, none⟩)) (by rfl) (fun o ho => wanted_plain ho _) (by kernel_rfl) (by kernel_rfl) (by kernel_rfl) (fun _ _ _ h => h) (fun o ho W hW => by unfold execOp; simp only [ho]; go_simp) HS.out ?_
    simp only [Act.put, List.setIfInBounds_toArray, List.set_cons_zero, List.set_cons_succ]
    refine anyH_loadG 3 (d := 16) (ty := 74) (x := (.tmp 15)) (gd := none) (p := .pointer (some ⟨k, 2, none⟩)) (.map (some m)) (by rfl) (fun o ho => wanted_plain ho _) (by kernel_rfl) (by kernel_rfl) (by kernel_rfl) (fun _ _ _ h => h) (by rfl) HL1.out HS.out ?_
    simp only [Act.put, List.setIfInBounds_toArray, List.set_cons_zero, List.set_cons_succ]
    refine anyH_loadG 4 (d := 17) (ty := 42) (x := (.tmp 3)) (gd := none) (p := .pointer (some ⟨X, 0, none⟩)) (.agg (cellsOf s).toArray) (by rfl) (fun o ho => wanted_plain ho _) (by kernel_rfl) (by kernel_rfl) (by kernel_rfl) (fun _ _ _ h => h) (by rfl) HL2.out HS.out ?_
    simp only [Act.put, List.setIfInBounds_toArray, List.set_cons_zero, List.set_cons_succ]
    refine anyH_pureG 5 (d := 18) (op := .build 84 #[]) (gd := none) (.agg #[]) (by rfl) (fun o ho => wanted_plain ho _) (by kernel_rfl) (by kernel_rfl) (by kernel_rfl) (fun _ _ _ h => h) (fun o ho W hW => by unfold execOp; simp only [ho]; go_simp) HS.out ?_
    simp only [Act.put, List.setIfInBounds_toArray, List.set_cons_zero, List.set_cons_succ]
    refine anyH_oneU 6 (d1 := none) (op1 := .mapUpdate 74 (.tmp 16) (.tmp 17) (.tmp 18)) (by kernel_rfl) (by rfl) ?_
    intro o1 hod1 hoo1
    refine wp_mapUpdU 74 (.tmp 16) (.tmp 17) (.tmp 18) hoo1 (.map (some m)) (.agg (cellsOf s).toArray) (.agg #[]) (by rfl) (by rfl) (by rfl) HRUN.out ?_
    rw [hod1]
    simp only [Act.put, List.setIfInBounds_toArray, List.set_cons_zero, List.set_cons_succ]
    refine ⟨HS7.out, ?_⟩
    --nosimp
    refine wpAnyH_done (by kernel_rfl) ?_ _
    clear HL1 HL2 HS HRUN HS7
    go_wp2_with fail
    go_end0
    refine ⟨rfl, BlkEnd HK.out HQ.out HBM.out HM7.out HG7.out HF.out HOB.out HOO.out HN.out.1 HBB.out, HF.out.trans (Fr.grown (O := ext O w W1) HG7.out fun j e => by cases e; exact HOO.out.2.1) fun j => ext_old j⟩
  · have hmk := fun W => ssome m W
    have HBM0 := Lib.hid hm
    have HMO := Lib.hid ho
    have HN := Lib.hid (And.intro hn hN)
    clear h h1 h2 h3 hs hB hN hn ho hm
    go_enter Try.func47, Try.ntmps47
    go_wp2_with fail
    obtain ⟨X, hX⟩ : ∃ X, X = w.heap.size := ⟨_, rfl⟩
    obtain ⟨W1, hW1⟩ : ∃ W1, W1 = w.alloc (.cells (cellsOf s).toArray 42) := ⟨_, rfl⟩
    rw [← hX]
    rw [← hW1]
    have HK := Lib.hid (show W1.heap[k]? = some (.cells #[.pointer (some ⟨g, 0, none⟩), gv, .map (some m)] 76 (0, 0)) from by rw [hW1]; exact (Below.heap_alloc w _ _ hkl).trans H1.out)
    have HX := Lib.hid (show W1.heap[X]? = some (.cells (cellsOf s).toArray 42 (0, 0)) from by rw [hW1, hX]; exact heap_alloc_new w _)
    have HF := Lib.hid (show Fr O w W1 from by rw [hW1]; exact Fr.ofBelow ((Below.refl _ _).alloc (Nat.le_refl _) _))
    have HBM := Lib.hid (show BM W1 m n D b from HBM0.out.keep (by rw [hW1]; exact Below.heap_alloc w _ _ (HOB.out m HMO.out).2))
    have HQ := Lib.hid (show QR W1 B gv gray from HQ0.out.keep fun j e => by rw [hW1]; exact Below.heap_alloc w _ _ (HQ0.out.block j e).2.1)
    have HOO := Lib.hid (show O k ∧ ext O w W1 m ∧ ∀ j, gv.ownBlock = some j → O j from ⟨HOK.out.1, .inl HMO.out, HOK.out.2⟩)
    clear hW1 c1 c2 hkl HBM0 HQ0 H1
    obtain ⟨W0, hW0⟩ : ∃ W0, W0 = World.drew W1 := ⟨_, rfl⟩
    have HM := Lib.hid (show BM W0 m n D b from by rw [hW0]; exact HBM.out.keep rfl)
    have HS := Lib.hid (show W0.cell? ⟨k, 2, none⟩ = some (.map (some m)) ∧ W0.heap[X]? = some (.cells (cellsOf s).toArray 42 (0, 0)) from by rw [hW0]; exact ⟨(cell_of_row W1 k 2 _ _ _ HK.out).trans rfl, HX.out⟩)
    have HL1 := Lib.hid (fun (W : World) (hW : W.cell? ⟨k, 2, none⟩ = some (.map (some m)) ∧ W.heap[X]? = some (.cells (cellsOf s).toArray 42 (0, 0))) => run_cell_gs W ⟨k, 2, none⟩ (some m) hW.1)
    have HL2 := Lib.hid (fun (W : World) (hW : W.cell? ⟨k, 2, none⟩ = some (.map (some m)) ∧ W.heap[X]? = some (.cells (cellsOf s).toArray 42 (0, 0))) => run_cell_dig W X s HSD.out hW.2)
    obtain ⟨w7, D7, hrun, hm7, hg7⟩ := HM.out.put HSD.out (by have h1 := HN.out.1; have h2 := HN.out.2; unfold maxLen; omega)
    have HRUN := Lib.hid hrun
    have HM7 := Lib.hid hm7
    have HG7 := Lib.hid (show W1.grownBy w7 (some m) from ⟨hg7.os.trans (by rw [hW0]; rfl), hg7.tape.trans (by rw [hW0]; rfl), hg7.output.trans (by rw [hW0]; rfl), by have := hg7.size; rw [hW0] at this; exact this, fun j hj hn => (hg7.block j (by rw [hW0]; exact hj) hn).trans (by rw [hW0]; rfl)⟩)
    have HS7 := Lib.hid (show w7.cell? ⟨k, 2, none⟩ = some (.map (some m)) ∧ w7.heap[X]? = some (.cells (cellsOf s).toArray 42 (0, 0)) from by
      obtain ⟨es, cl, hmm⟩ := gmap_block HBM.out.mp
      have hkm : some k ≠ some m := fun e => by
        have h1 := HK.out
        rw [Option.some.inj e, hmm] at h1
        cases h1
      have hxm : some X ≠ some m := fun e => by
        have h1 := HX.out
        rw [Option.some.inj e, hmm] at h1
        cases h1
      exact ⟨(cell_of_row w7 k 2 _ _ _ ((HG7.out.block k (Array.getElem?_eq_some_iff.1 HK.out).1 hkm).trans HK.out)).trans rfl, (HG7.out.block X (Array.getElem?_eq_some_iff.1 HX.out).1 hxm).trans HX.out⟩)
    clear hrun hm7 hg7
    refine anyH_begin (S := fun W => W.cell? ⟨k, 2, none⟩ = some (.map (some m)) ∧ W.heap[X]? = some (.cells (cellsOf s).toArray 42 (0, 0))) (by kernel_rfl) ?_
    rw [← hW0]
    clear hW0
    refine anyH_pureG 0 (d := 13) (op := .move (.tmp 0)) (gd := none) (.pointer (some ⟨k, 0, none⟩)) (by rfl) (fun o ho => wanted_plain ho _) (by kernel_rfl) (by kernel_rfl) (by kernel_rfl) (fun _ _ _ h => h) (fun o ho W hW => by unfold execOp; simp only [ho]; go_simp) HS.out ?_
    simp only [Act.put, List.setIfInBounds_toArray, List.set_cons_zero, List.set_cons_succ]
    refine anyH_pureG 1 (d := 14) (op := .nilCheck (.tmp 13)) (gd := none) (.pointer (some ⟨k, 0, none⟩)) (by rfl) (fun o ho => wanted_plain ho _) (by kernel_rfl) (by kernel_rfl) (by kernel_rfl) (fun _ _ _ h => h) (fun o ho W hW => by unfold execOp; simp only [ho]; go_simp) HS.out ?_
    simp only [Act.put, List.setIfInBounds_toArray, List.set_cons_zero, List.set_cons_succ]
    refine anyH_pureG 2 (d := 15) (op := .fieldAddr 76 (.tmp 14) 2) (gd := none) (.pointer (some ⟨k, 2, none⟩)) (by rfl) (fun o ho => wanted_plain ho _) (by kernel_rfl) (by kernel_rfl) (by kernel_rfl) (fun _ _ _ h => h) (fun o ho W hW => by unfold execOp; simp only [ho]; go_simp) HS.out ?_
    simp only [Act.put, List.setIfInBounds_toArray, List.set_cons_zero, List.set_cons_succ]
    refine anyH_loadG 3 (d := 16) (ty := 74) (x := (.tmp 15)) (gd := none) (p := .pointer (some ⟨k, 2, none⟩)) (.map (some m)) (by rfl) (fun o ho => wanted_plain ho _) (by kernel_rfl) (by kernel_rfl) (by kernel_rfl) (fun _ _ _ h => h) (by rfl) HL1.out HS.out ?_
    simp only [Act.put, List.setIfInBounds_toArray, List.set_cons_zero, List.set_cons_succ]
    refine anyH_loadG 4 (d := 17) (ty := 42) (x := (.tmp 3)) (gd := none) (p := .pointer (some ⟨X, 0, none⟩)) (.agg (cellsOf s).toArray) (by rfl) (fun o ho => wanted_plain ho _) (by kernel_rfl) (by kernel_rfl) (by kernel_rfl) (fun _ _ _ h => h) (by rfl) HL2.out HS.out ?_
    simp only [Act.put, List.setIfInBounds_toArray, List.set_cons_zero, List.set_cons_succ]
    refine anyH_pureG 5 (d := 18) (op := .build 84 #[]) (gd := none) (.agg #[]) (by rfl) (fun o ho => wanted_plain ho _) (by kernel_rfl) (by kernel_rfl) (by kernel_rfl) (fun _ _ _ h => h) (fun o ho W hW => by unfold execOp; simp only [ho]; go_simp) HS.out ?_
    simp only [Act.put, List.setIfInBounds_toArray, List.set_cons_zero, List.set_cons_succ]
    refine anyH_oneU 6 (d1 := none) (op1 := .mapUpdate 74 (.tmp 16) (.tmp 17) (.tmp 18)) (by kernel_rfl) (by rfl) ?_
    intro o1 hod1 hoo1
    refine wp_mapUpdU 74 (.tmp 16) (.tmp 17) (.tmp 18) hoo1 (.map (some m)) (.agg (cellsOf s).toArray) (.agg #[]) (by rfl) (by rfl) (by rfl) HRUN.out ?_
    rw [hod1]
    simp only [Act.put, List.setIfInBounds_toArray, List.set_cons_zero, List.set_cons_succ]
    refine ⟨HS7.out, ?_⟩
    --nosimp
    refine wpAnyH_done (by kernel_rfl) ?_ _
    clear HL1 HL2 HS HRUN HS7
    go_wp2_with fail
    go_end0
    refine ⟨rfl, BlkEnd HK.out HQ.out HBM.out HM7.out HG7.out HF.out HOB.out HOO.out HN.out.1 HBB.out, HF.out.trans (Fr.grown (O := ext O w W1) HG7.out fun j e => by cases e; exact HOO.out.2.1) fun j => ext_old j⟩
end Go.Proofs.Ytpppffgchgcghaa
