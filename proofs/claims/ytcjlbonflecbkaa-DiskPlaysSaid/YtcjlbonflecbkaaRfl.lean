/-
  The document's disk in memory: Crash.
-/
import Derived.Test.YtcjlbonflecbkaaRfjk
namespace Go.Proofs.Ytcjlbonflecbkaa
open Go.RowKit
set_option linter.unusedVariables false
theorem op_callC {P : Program} {ops : Array Oper} {Q : Exit → Act → World → Prop} {i : Nat} {d : Option Tmp} {f : FuncId} {xs : Array Operand} {ts : Array TypeId} {vs : Array Value} {a : Act} {w : World} {K : Act → World → Prop} {R : Ending → World → Prop}
    (hi : (ops[i]?.map fun o => (o.dst, o.op, o.guard)) = some (d, Op.call { callee := .value (.func f), args := xs, argTypes := ts }, none)) (hx : xs.map a.eval = vs)
    (hf : (callFunc f vs).run P w = .ok (.enter f vs) w) (hc : Calls P f vs w R)
    (h : ∀ e w', R e w' → ∃ v, e = .returned v ∧ K (a.put d v) w') : wpOp P ops Q i K a w := by
  cases ho : ops[i]? with
  | none => simp [ho] at hi
  | some o =>
    simp only [ho, Option.map_some, Option.some.injEq, Prod.mk.injEq] at hi
    obtain ⟨h1, h2, h3⟩ := hi
    unfold wpOp
    simp only [ho, wanted_plain h3, if_true]
    refine .inl ?_
    have hr : (execOp a.eval o).run P w = .ok (.enter f vs) w := by
      unfold execOp
      rw [h2]
      simp [resolve, invoke, hx, Act.eval, go_sem, hf]
    unfold Oper.wp
    rw [hr]
    refine hc.mono fun e w' hR => ?_
    obtain ⟨v, rfl, hv⟩ := h e w' hR
    rw [h1]
    exact hv
theorem dcells_get : ∀ (ps : List DR) (i : Nat) (r : DR), ps[i]? = some r → (dcells ps)[4 * i]? = some (.int .i64 (r.1.kind : Int)) ∧ (dcells ps)[4 * i + 1]? = some (.string r.1.a) ∧ (dcells ps)[4 * i + 2]? = some (.string r.1.b) ∧ (dcells ps)[4 * i + 3]? = some r.2
  | [], i, r, h => by simp at h
  | x :: ps, 0, r, h => by cases h; exact ⟨rfl, rfl, rfl, rfl⟩
  | x :: ps, i + 1, r, h => by
    have := dcells_get ps i r h
    unfold dcells at this ⊢
    rw [List.flatMap_cons, show 4 * (i + 1) = 4 * i + 4 by omega]
    exact this
/-- what stands at a place of the loose changes -/
def LC (w : World) (g i : Nat) (o : DCh) (ra : Option Addr) (rn rc : Nat) : Prop := w.cell? ⟨g, 4 * i, none⟩ = some (.int .i64 (o.kind : Int)) ∧ w.cell? ⟨g, 4 * i + 1, none⟩ = some (.string o.a) ∧ w.cell? ⟨g, 4 * i + 2, none⟩ = some (.string o.b) ∧ w.cell? ⟨g, 4 * i + 3, none⟩ = some (.slice ra rn rc)
theorem RDK.lcell {F : Nat → Prop} {B m : Nat} {lv : Value} {A : Ad} {w : World} (h : RDK F B m lv A w) : ∃ la c, lv = .slice la A.loose.length c ∧ A.loose.length ≤ c ∧ ∀ i o, A.loose[i]? = some o → ∃ g ra rn rc, la = some ⟨g, 0, none⟩ ∧ LC w g i o ra rn rc ∧ RB (NR F m lv) w ra rn rc o.p := by
  obtain ⟨ps, h1, h2, h3⟩ := h.hl
  have hpl : ps.length = A.loose.length := by rw [← h1, List.length_map]
  rcases h2.2 with ⟨e1, e2⟩ | ⟨g, c, cur, e1, e2, e3, e4, e5, e6, e7⟩
  · have h0 : A.loose.length = 0 := by omega
    exact ⟨none, 0, by rw [h0]; exact e1, by omega, fun i o ho => by have := (List.getElem?_eq_some_iff.1 ho).1; omega⟩
  · refine ⟨_, c, by rw [← hpl]; exact e1, by omega, fun i o ho => ?_⟩
    have hi : i < ps.length := by rw [hpl]; exact (List.getElem?_eq_some_iff.1 ho).1
    have hr := List.getElem?_eq_getElem hi
    have ho2 : ps[i].1 = o := by
      have : (ps.map (·.1))[i]? = some ps[i].1 := by rw [List.getElem?_map, hr]; rfl
      rw [h1, ho] at this
      exact (Option.some.inj this).symm
    obtain ⟨ra, rn, rc, h4, h5⟩ := h3 ps[i] (List.getElem_mem hi)
    obtain ⟨q0, q1, q2, q3⟩ := dcells_get ps i _ hr
    rw [ho2] at q0 q1 q2 h5
    rw [h4] at q3
    have hc : ∀ j v, j < 4 → (dcells ps)[4 * i + j]? = some v → w.cell? ⟨g, 4 * i + j, none⟩ = some v := fun j v hj hv => by
      rw [cell_of_row w g _ cur _ _ e3, ← Array.getElem?_toList, ← hv, ← e7, List.getElem?_take, if_pos (by omega)]
    exact ⟨g, ra, rn, rc, rfl, ⟨hc 0 _ (by omega) q0, hc 1 _ (by omega) q1, hc 2 _ (by omega) q2, hc 3 _ (by omega) q3⟩, h5⟩
theorem exec_chg_idx {b len cap i : Nat} (hi : i < len) {A : Act} {x y : Operand} (hx : A.eval x = .slice (some ⟨b, 0, none⟩) len cap) (hy : A.eval y = .int .i64 (i : Int)) (op : Oper) (ho : op.op = .indexAddr 89 x y) (W : World) :
    (execOp A.eval op).run Try.prog W = .ok (.value (.pointer (some ⟨b, 4 * i, none⟩))) W := by
  unfold execOp
  simp only [ho, hx, hy]
  rw [Sem.run_bind, run_indexAt_slice W 89 ⟨b, 0, none⟩ len cap .i64 (i : Int) (by kernel_rfl)]
  have h1 : (0 : Int) ≤ (i : Int) ∧ (i : Int) < (len : Int) := by omega
  rw [if_pos h1, show (Go.sizeOf (Try.prog.elem 89)).run Try.prog W = .ok 4 W from by kernel_rfl]
  simp [Result.andThen, Addr.add, Nat.mul_comm]
  intro h; omega
theorem run_chgs_idx (W : World) (b len cap i : Nat) (hi : i < len) : (Instr.indexAt 89 (.slice (some ⟨b, 0, none⟩) len cap) (.int .i64 (i : Int))).run Try.prog W = .ok (.pointer (some ⟨b, 4 * i, none⟩)) W := by
  rw [run_indexAt_slice W 89 ⟨b, 0, none⟩ len cap .i64 (i : Int) (by kernel_rfl)]
  have h1 : (0 : Int) ≤ (i : Int) ∧ (i : Int) < (len : Int) := by omega
  rw [if_pos h1, show (Go.sizeOf (Try.prog.elem 89)).run Try.prog W = .ok 4 W from by kernel_rfl]
  simp [Result.andThen, Addr.add, Nat.mul_comm]
  intro h; omega
theorem run_LC (W : World) (g i : Nat) (o : DCh) (ra : Option Addr) (rn rc : Nat) (h : LC W g i o ra rn rc) : (Instr.loadAt 94 (.pointer (some ⟨g, 4 * i, none⟩))).run Try.prog W = .ok (.agg #[.int .i64 (o.kind : Int), .string o.a, .string o.b, .slice ra rn rc]) W := by
  obtain ⟨h0, h1, h2, h3⟩ := h
  go_simp
theorem RB.take {N : Nat → Prop} {w : World} {a : Option Addr} {n c : Nat} {zs : List Nat} (h : RB N w a n c zs) (j : Nat) (hj : j ≤ n) : RB N w a j c (zs.take j) := ⟨h.rd.take j hj, fun b o s e hn => h.no b o s e (by omega), h.nil, Nat.le_trans hj h.le⟩
/-- Sure is another list -/
def Ad.sured (A : Ad) (l : Fls) : Ad := { A with sure := l }
/-- no change is loose -/
theorem RDK.emptied {F : Nat → Prop} {B m : Nat} {lv : Value} {A : Ad} {w : World} (h : RDK F B m lv A w) :
    RDK F B m (.slice none 0 0) { A with loose := [] } (w.setCell ⟨m, 3, none⟩ (.slice none 0 0)) ∧ MvR m lv (.slice none 0 0) w (w.setCell ⟨m, 3, none⟩ (.slice none 0 0)) := by
  obtain ⟨na', nn', nc', sa, sn, sc, h1, h2, h3⟩ := h.hd
  have k2 := row_set h1 (.slice none 0 0) (o := 3) (by show 3 < 6; omega)
  have ho : ∀ k, k ≠ m → (w.setCell ⟨m, 3, none⟩ (.slice none 0 0)).heap[k]? = w.heap[k]? := fun k hk => Below.heap_setCell w ⟨m, 3, none⟩ _ k hk
  have hz : (w.setCell ⟨m, 3, none⟩ (.slice none 0 0)).heap.size = w.heap.size := by simp [World.setCell]
  have hN : Sta (NR F m lv) w (w.setCell ⟨m, 3, none⟩ (.slice none 0 0)) := ⟨by rw [hz]; exact Nat.le_refl _, fun k hk hn => ho k fun e => hn (.inr (.inl e))⟩
  have hR : Ren (NR F m lv) (NR F m (.slice none 0 0)) w := fun k hk => by
    rcases hk with hk | hk | hk
    · exact .inl (.inl hk)
    · exact .inl (.inr (.inl hk))
    · cases hk
  refine ⟨⟨h.base, fun k hk hf => ?_, ⟨na', nn', nc', sa, sn, sc, k2, h2.sta hN hR, h3.sta hN hR⟩, [], rfl, World.ownsRow_nil _ _ _ _, fun r hr => by cases hr⟩, rfl, rfl, rfl, by rw [hz]; exact Nat.le_refl _, fun k hk hn => ho k fun e => hn (.inl e), fun k hk => ?_⟩
  · rcases hk with hk | hk
    · exact h.noF k (.inl hk) hf
    · cases hk
  · rcases hk with hk | hk
    · exact .inl (.inl hk)
    · cases hk
/-- Now becomes Sure, no change is loose, the power is up -/
theorem RDK.crashed {F : Nat → Prop} {B m : Nat} {lv : Value} {A : Ad} {w : World} (h : RDK F B m lv A w) {sa : Option Addr} {sn sc : Nat} (hc : w.cell? ⟨m, 2, none⟩ = some (.slice sa sn sc)) :
    RDK F B m (.slice none 0 0) ⟨A.room, -1, false, A.sure, A.sure, []⟩ ((((w.setCell ⟨m, 1, none⟩ (.slice sa sn sc)).setCell ⟨m, 3, none⟩ (.slice none 0 0)).setCell ⟨m, 4, none⟩ (.int .i64 (-1))).setCell ⟨m, 5, none⟩ (.bool false)) ∧ MvR m lv (.slice none 0 0) w ((((w.setCell ⟨m, 1, none⟩ (.slice sa sn sc)).setCell ⟨m, 3, none⟩ (.slice none 0 0)).setCell ⟨m, 4, none⟩ (.int .i64 (-1))).setCell ⟨m, 5, none⟩ (.bool false)) := by
  obtain ⟨k1, m1⟩ := h.cellSet 1 (.slice sa sn sc) { A with now := A.sure } (na := none) (sa := none) (nn := 0) (nc := 0) (sn := 0) (sc := 0) (fun na nn nc sa' sn' sc' h1 h2 h3 => by
    have e : some (Value.slice sa' sn' sc') = some (.slice sa sn sc) := ((cell_of_row w m 2 _ _ _ h1).trans rfl).symm.trans hc
    obtain ⟨e1, e2, e3⟩ := Value.slice.inj (Option.some.inj e)
    subst e1 e2 e3
    exact ⟨sa', sn', sc', sa', sn', sc', rfl, h3, h3⟩) (by omega) rfl
  obtain ⟨k2, m2⟩ := k1.emptied
  obtain ⟨k3, m3⟩ := k2.cellSet 4 (.int .i64 (-1)) ⟨A.room, -1, A.down, A.sure, A.sure, []⟩ (na := none) (sa := none) (nn := 0) (nc := 0) (sn := 0) (sc := 0) (fun na nn nc sa sn sc _ h2 h3 => ⟨na, nn, nc, sa, sn, sc, rfl, h2, h3⟩) (by omega) rfl
  obtain ⟨k4, m4⟩ := k3.cellSet 5 (.bool false) ⟨A.room, -1, false, A.sure, A.sure, []⟩ (na := none) (sa := none) (nn := 0) (nc := 0) (sn := 0) (sc := 0) (fun na nn nc sa sn sc _ h2 h3 => ⟨na, nn, nc, sa, sn, sc, rfl, h2, h3⟩) (by omega) rfl
  exact ⟨k4, ((m1.trans m2).trans m3).trans m4⟩
/-- what Crash leaves -/
def CrR (F : Nat → Prop) (B m : Nat) (lv : Value) (w : World) (A' : Ad) (e : Ending) (w' : World) : Prop := e = .returned (.tuple #[]) ∧ ∃ lv', RDK F B m lv' A' w' ∧ MvR m lv lv' w w'
set_option maxRecDepth 100000 in
set_option maxHeartbeats 8000000 in
theorem rcrash_c {F : Nat → Prop} {B m : Nat} {lv : Value} {A : Ad} {w : World} (h : RDK F B m lv A w) (hF : ∀ k, F k → k < w.heap.size) (keep part : Int) (hok : ∀ k o, A.loose[k]? = some o → Okc 67108864 ((A.loose.take k).foldl doF A.sure) o) (hall : A.loose.foldl doF A.sure = A.now) (hlen : A.sure.length + A.loose.length ≤ 10000000) :
    Calls Try.prog 48 #[.pointer (some ⟨m, 0, none⟩), .int .i64 keep, .int .i64 part] w (CrR F B m lv w (A.crash keep part)) := by
  obtain ⟨kk, hkk⟩ : ∃ kk, kk = min keep.toNat A.loose.length := ⟨_, rfl⟩
  obtain ⟨la, lc, hlv, hlc, hcell⟩ := h.lcell
  obtain ⟨na0, nn0, nc0, sa0, sn0, sc0, ⟨-, -, -, c3, -, -⟩, -, -, -⟩ := h.cells
  rw [hlv] at c3
  have HCL := Lib.hid (rclamp_c keep (A.loose.length : Int) w)
  rw [clamp_eq, ← hkk] at HCL
  have HKK := Lib.hid hkk
  have HLV := Lib.hid hlv
  have HF := Lib.hid hF
  have HOKS := Lib.hid hok
  have HALL := Lib.hid hall
  have HLS := Lib.hid hlen
  have HK0 := Lib.hid h
  have HK00 := Lib.hid (show RDK F B m lv (A.sured ((A.loose.take 0).foldl doF A.sure)) w from h)
  have hkn : kk ≤ A.loose.length := by omega
  have hll : A.loose.length ≤ 10000000 := by omega
  clear h hF hlv hcell hok hall hkk hlen
  go_enter Try.func48, Try.ntmps48
  go_wp2_with fail
  refine HCL.out.mono ?_
  rintro e1 w1 ⟨rfl, rfl⟩
  clear HCL c3
  go_wp2_with fail
  go_loopw [6] (fun i wr => ∃ k : Nat, k ≤ kk ∧ i = .int .i64 k ∧ Hid (RDK F B m lv (A.sured ((A.loose.take k).foldl doF A.sure)) wr) ∧ Hid (MvR m lv lv w1 wr)) (fun i _ => kk - (intOf i).toNat)
  case atStart => exact ⟨0, Nat.zero_le _, rfl, HK00, Lib.hid (MvR.refl _ _ _)⟩
  case round =>
    clear HK00
    obtain ⟨k, hk, rfl, HK, HM⟩ := hrel
    by_cases hkk : k < kk
    · have hkl : k < A.loose.length := by omega
      obtain ⟨o, ho⟩ : ∃ o, A.loose[k]? = some o := ⟨_, List.getElem?_eq_getElem hkl⟩
      have HNX := Lib.hid (show (A.loose.take (k + 1)).foldl doF A.sure = doF ((A.loose.take k).foldl doF A.sure) o by rw [List.take_add_one, ho, List.foldl_append]; rfl)
      have HOK := Lib.hid (HOKS.out k o ho)
      have HLL := Lib.hid (show ((A.loose.take k).foldl doF A.sure).length ≤ 10000000 from by have h1 := length_fold (A.loose.take k) A.sure; rw [List.length_take] at h1; have := HLS.out; omega)
      obtain ⟨l, hl⟩ : ∃ l, l = (A.loose.take k).foldl doF A.sure := ⟨_, rfl⟩
      rw [← hl] at HNX HOK HLL HK
      obtain ⟨la2, lc2, hlv2, hlc2, hcell⟩ := HK.out.lcell
      obtain ⟨e1, -, e3⟩ := Value.slice.inj (HLV.out.symm.trans hlv2)
      subst e1 e3
      obtain ⟨g, ra, rn, rc, rfl, hlcc, hrb⟩ := hcell k o ho
      have HLC := Lib.hid hlcc
      have HRB := Lib.hid hrb
      have HGO := Lib.hid (show OwnR m lv g from .inr (by rw [HLV.out]; rfl))
      have HGN := Lib.hid (show g ≠ m from fun e => HK.out.ne (by rw [← e, HLV.out]; rfl))
      have HGL := Lib.hid (show ∀ W : World, w1.heap.size ≤ W.heap.size → g < W.heap.size from fun W hW => Nat.lt_of_lt_of_le (HK0.out.ownLt HGO.out).2 hW)
      have c3 : wr.cell? ⟨m, 3, none⟩ = some (.slice (some ⟨g, 0, none⟩) A.loose.length lc) := by
        obtain ⟨_, _, _, _, _, _, ⟨-, -, -, d3, -⟩, -⟩ := HK.out.cells
        rw [d3, HLV.out]
      clear ho hl hlv2 hlc2 hcell hlcc hrb
      go_wp2_with fail
      (try dsimp only [Act.put, List.setIfInBounds_toArray, List.set_cons_zero, List.set_cons_succ])
      obtain ⟨w5, hw5⟩ : ∃ w5, w5 = World.drew wr := ⟨_, rfl⟩
      have HK5 := Lib.hid (show RDK F B m lv (A.sured l) w5 from by rw [hw5]; exact HK.out.below (Below.refl _ _).drew)
      have HM5 := Lib.hid (show MvR m lv lv w1 w5 from by rw [hw5]; exact HM.out.trans (MvR.ofBelow (Below.refl _ _).drew))
      have HRB5 := Lib.hid (show RB (NR F m lv) w5 ra rn rc o.p from by rw [hw5]; exact HRB.out.below (Below.refl _ _).drew)
      have HS := Lib.hid (show World.cell? w5 ⟨m, 3, none⟩ = some (.slice (some ⟨g, 0, none⟩) A.loose.length lc) ∧ LC w5 g k o ra rn rc from by rw [hw5]; exact ⟨c3, HLC.out⟩)
      obtain ⟨_, _, _, sa, sn, sc, ⟨-, -, d2, -, -, -⟩, -, -, hsure⟩ := HK5.out.cells
      have HLN5 := Lib.hid hsure.ln
      have HDO5 := Lib.hid (rdo_c (cap := sc) hsure (fun k hk => by rcases hk with hk | hk; exact Nat.lt_of_lt_of_le (HF.out k hk) HM5.out.size; exact (HK5.out.ownLt hk).2) o ra rn rc HRB5.out (by have h1 := HLN5.out; have h2 : (A.sured l).sure.length ≤ 10000000 := HLL.out; omega) HOK.out.1 (fun h0 => by obtain ⟨z, h1, h2⟩ := HOK.out.2 h0; exact ⟨z, h1, fun h3 => by have := (h2 h3).1; omega⟩))
      have HL2 := Lib.hid (run_cell_fl w5 ⟨m, 2, none⟩ _ _ _ d2)
      have HL3 := Lib.hid (fun W (hW : World.cell? W ⟨m, 3, none⟩ = some (.slice (some ⟨g, 0, none⟩) A.loose.length lc) ∧ LC W g k o ra rn rc) => run_cell_cs W ⟨m, 3, none⟩ _ _ _ hW.1)
      have HL4 := Lib.hid (fun W (hW : World.cell? W ⟨m, 3, none⟩ = some (.slice (some ⟨g, 0, none⟩) A.loose.length lc) ∧ LC W g k o ra rn rc) => run_LC W g k o ra rn rc hW.2)
      have HGM := Lib.hid (show g ≠ m from HGN.out)
      refine anyH_begin (S := fun W => World.cell? W ⟨m, 3, none⟩ = some (.slice (some ⟨g, 0, none⟩) A.loose.length lc) ∧ LC W g k o ra rn rc) (by kernel_rfl) ?_
      rw [← hw5]
      clear hw5 d2 hsure c3 HK HM HRB HLC
      refine anyH_pureG 0 (d := 20) (op := .move (.tmp 0)) (gd := none) (.pointer (some ⟨m, 0, none⟩)) (by rfl) (fun o ho => wanted_plain ho _) (by kernel_rfl) (by kernel_rfl) (by kernel_rfl) (fun _ _ _ h => h) (fun o ho W hW => by unfold execOp; simp only [ho]; go_simp) HS.out ?_
      simp only [Act.put, List.setIfInBounds_toArray, List.set_cons_zero, List.set_cons_succ]
      refine anyH_pureG 1 (d := 21) (op := .move (.tmp 0)) (gd := none) (.pointer (some ⟨m, 0, none⟩)) (by rfl) (fun o ho => wanted_plain ho _) (by kernel_rfl) (by kernel_rfl) (by kernel_rfl) (fun _ _ _ h => h) (fun o ho W hW => by unfold execOp; simp only [ho]; go_simp) HS.out ?_
      simp only [Act.put, List.setIfInBounds_toArray, List.set_cons_zero, List.set_cons_succ]
      refine anyH_pureG 2 (d := 22) (op := .nilCheck (.tmp 21)) (gd := none) (.pointer (some ⟨m, 0, none⟩)) (by rfl) (fun o ho => wanted_plain ho _) (by kernel_rfl) (by kernel_rfl) (by kernel_rfl) (fun _ _ _ h => h) (fun o ho W hW => by unfold execOp; simp only [ho]; go_simp) HS.out ?_
      simp only [Act.put, List.setIfInBounds_toArray, List.set_cons_zero, List.set_cons_succ]
      refine anyH_pureG 3 (d := 23) (op := .fieldAddr 91 (.tmp 22) 2) (gd := none) (.pointer (some ⟨m, 2, none⟩)) (by rfl) (fun o ho => wanted_plain ho _) (by kernel_rfl) (by kernel_rfl) (by kernel_rfl) (fun _ _ _ h => h) (fun o ho W hW => by unfold execOp; simp only [ho]; go_simp) HS.out ?_
      simp only [Act.put, List.setIfInBounds_toArray, List.set_cons_zero, List.set_cons_succ]
      refine anyH_pureG 5 (d := 25) (op := .move (.tmp 0)) (gd := none) (.pointer (some ⟨m, 0, none⟩)) (by rfl) (fun o ho => wanted_plain ho _) (by kernel_rfl) (by kernel_rfl) (by kernel_rfl) (fun _ _ _ h => h) (fun o ho W hW => by unfold execOp; simp only [ho]; go_simp) HS.out ?_
      simp only [Act.put, List.setIfInBounds_toArray, List.set_cons_zero, List.set_cons_succ]
      refine anyH_pureG 6 (d := 26) (op := .nilCheck (.tmp 25)) (gd := none) (.pointer (some ⟨m, 0, none⟩)) (by rfl) (fun o ho => wanted_plain ho _) (by kernel_rfl) (by kernel_rfl) (by kernel_rfl) (fun _ _ _ h => h) (fun o ho W hW => by unfold execOp; simp only [ho]; go_simp) HS.out ?_
      simp only [Act.put, List.setIfInBounds_toArray, List.set_cons_zero, List.set_cons_succ]
      refine anyH_pureG 7 (d := 27) (op := .fieldAddr 91 (.tmp 26) 3) (gd := none) (.pointer (some ⟨m, 3, none⟩)) (by rfl) (fun o ho => wanted_plain ho _) (by kernel_rfl) (by kernel_rfl) (by kernel_rfl) (fun _ _ _ h => h) (fun o ho W hW => by unfold execOp; simp only [ho]; go_simp) HS.out ?_
      simp only [Act.put, List.setIfInBounds_toArray, List.set_cons_zero, List.set_cons_succ]
      refine anyH_loadG 8 (d := 28) (ty := 89) (x := (.tmp 27)) (gd := none) (p := .pointer (some ⟨m, 3, none⟩)) (.slice (some ⟨g, 0, none⟩) A.loose.length lc) (by rfl) (fun o ho => wanted_plain ho _) (by kernel_rfl) (by kernel_rfl) (by kernel_rfl) (fun _ _ _ h => h) (by rfl) HL3.out HS.out ?_
      simp only [Act.put, List.setIfInBounds_toArray, List.set_cons_zero, List.set_cons_succ]
      refine anyH_pureG 9 (d := 29) (op := .move (.tmp 6)) (gd := none) (.int .i64 (k : Int)) (by rfl) (fun o ho => wanted_plain ho _) (by kernel_rfl) (by kernel_rfl) (by kernel_rfl) (fun _ _ _ h => h) (fun o ho W hW => by unfold execOp; simp only [ho]; go_simp) HS.out ?_
      simp only [Act.put, List.setIfInBounds_toArray, List.set_cons_zero, List.set_cons_succ]
      refine anyH_pureG 10 (d := 30) (op := .indexAddr 89 (.tmp 28) (.tmp 29)) (gd := none) (.pointer (some ⟨g, 4 * k, none⟩)) (by rfl) (fun o ho => wanted_plain ho _) (by kernel_rfl) (by kernel_rfl) (by kernel_rfl) (fun _ _ _ h => h) (fun o1 ho W hW => exec_chg_idx hkl (x := .tmp 28) (y := .tmp 29) (by rfl) (by rfl) o1 ho W) HS.out ?_
      simp only [Act.put, List.setIfInBounds_toArray, List.set_cons_zero, List.set_cons_succ]
      refine anyH_loadG 11 (d := 31) (ty := 94) (x := (.tmp 30)) (gd := none) (p := .pointer (some ⟨g, 4 * k, none⟩)) (.agg #[.int .i64 (o.kind : Int), .string o.a, .string o.b, .slice ra rn rc]) (by rfl) (fun o ho => wanted_plain ho _) (by kernel_rfl) (by kernel_rfl) (by kernel_rfl) (fun _ _ _ h => h) (by rfl) HL4.out HS.out ?_
      simp only [Act.put, List.setIfInBounds_toArray, List.set_cons_zero, List.set_cons_succ]
      refine wpAnyH_all (rs := [4]) (by kernel_rfl) (by simp) ?_
      intro k hk; simp only [List.mem_cons, List.not_mem_nil, or_false] at hk; subst hk
      refine op_atJ 4 (d := some 24) (op := .load 88 (.tmp 23)) (by rfl) ?_
      intro o4 hod4 hoo4
      refine wp_load_g 88 (.tmp 23) hoo4 (.pointer (some ⟨m, 2, none⟩)) (.slice sa sn sc) (by rfl) HL2.out ?_
      rw [hod4]
      clear hod4 hoo4
      simp only [Act.put, List.setIfInBounds_toArray, List.set_cons_zero, List.set_cons_succ]
      refine ⟨HS.out, ?_⟩
      refine anyH_callG 12 (d := some 32) (f := 87) (xs := #[(.tmp 24), (.tmp 31)]) (ts := #[88, 94]) (gd := none) (vs := #[.slice sa sn sc, .agg #[.int .i64 (o.kind : Int), .string o.a, .string o.b, .slice ra rn rc]]) (by kernel_rfl) (by rfl) (fun o ho => wanted_plain ho _) (by go_simp) (by go_simp) (HDO5.out) ?_
      rintro e6 w6 ⟨ya, yl, yc, rfl, hrf6, hb6⟩
      have HK6 := Lib.hid (HK5.out.below hb6)
      have HM6 := Lib.hid (HM5.out.trans (MvR.ofBelow hb6))
      have HRF6 := Lib.hid hrf6
      have HS := Lib.hid (show World.cell? w6 ⟨m, 3, none⟩ = some (.slice (some ⟨g, 0, none⟩) A.loose.length lc) ∧ LC w6 g k o ra rn rc from ⟨(hb6.cell (p := ⟨m, 3, none⟩) HK5.out.lt).trans HS.out.1, by obtain ⟨q0, q1, q2, q3⟩ := HS.out.2; have hg := HGL.out w5 HM5.out.size; exact ⟨(hb6.cell (p := ⟨g, 4 * k, none⟩) hg).trans q0, (hb6.cell (p := ⟨g, 4 * k + 1, none⟩) hg).trans q1, (hb6.cell (p := ⟨g, 4 * k + 2, none⟩) hg).trans q2, (hb6.cell (p := ⟨g, 4 * k + 3, none⟩) hg).trans q3⟩⟩)
      clear hb6 hrf6 HK5 HM5 HRB5 HDO5 HL2
      refine ⟨_, rfl, HS.out, fun _ => ?_⟩
      simp only [Act.put, List.setIfInBounds_toArray, List.set_cons_zero, List.set_cons_succ]
      refine anyH_pureG 13 (d := 33) (op := .nilCheck (.tmp 20)) (gd := none) (.pointer (some ⟨m, 0, none⟩)) (by rfl) (fun o ho => wanted_plain ho _) (by kernel_rfl) (by kernel_rfl) (by kernel_rfl) (fun _ _ _ h => h) (fun o ho W hW => by unfold execOp; simp only [ho]; go_simp) HS.out ?_
      simp only [Act.put, List.setIfInBounds_toArray, List.set_cons_zero, List.set_cons_succ]
      refine anyH_pureG 14 (d := 34) (op := .fieldAddr 91 (.tmp 33) 2) (gd := none) (.pointer (some ⟨m, 2, none⟩)) (by rfl) (fun o ho => wanted_plain ho _) (by kernel_rfl) (by kernel_rfl) (by kernel_rfl) (fun _ _ _ h => h) (fun o ho W hW => by unfold execOp; simp only [ho]; go_simp) HS.out ?_
      simp only [Act.put, List.setIfInBounds_toArray, List.set_cons_zero, List.set_cons_succ]
      obtain ⟨k7, m7⟩ := HK6.out.cellSet 2 (.slice ya yl yc) (A.sured (doF l o)) (na := none) (sa := none) (nn := 0) (nc := 0) (sn := 0) (sc := 0) (fun na nn nc sa sn sc _ h2 h3 => ⟨na, nn, nc, ya, yl, yc, rfl, h2, HRF6.out⟩) (by omega) rfl
      have HTH := Lib.hid (show w6.there m 2 1 from fun j hj => by
        obtain rfl : j = 0 := by omega
        obtain ⟨_, _, _, _, _, _, ⟨-, -, d2, -⟩, dz, -⟩ := HK6.out.cells
        exact ⟨by rw [Nat.add_zero, d2]; rfl, dz 2⟩)
      have HK7 := Lib.hid k7
      have HM7 := Lib.hid (HM6.out.trans m7)
      refine wpAnyH_all (rs := [15]) (by kernel_rfl) (by simp) ?_
      intro k hk; simp only [List.mem_cons, List.not_mem_nil, or_false] at hk; subst hk
      refine op_atJ 15 (d := none) (op := .store 88 (.tmp 34) (.tmp 32)) (by rfl) ?_
      intro o7 hod7 hoo7
      refine wp_store_one 88 (.tmp 34) (.tmp 32) hoo7 m 2 (.slice ya yl yc) (by rfl) (by rfl) HTH.out (by kernel_rfl) (by rfl) (by rfl) ?_
      rw [hod7]
      clear hod7 hoo7 k7 m7
      simp only [Act.put, List.setIfInBounds_toArray, List.set_cons_zero, List.set_cons_succ]
      have HS7 := Lib.hid (show World.cell? (w6.setCells m 2 [.slice ya yl yc]) ⟨m, 3, none⟩ = some (.slice (some ⟨g, 0, none⟩) A.loose.length lc) ∧ LC (w6.setCells m 2 [.slice ya yl yc]) g k o ra rn rc from ⟨by
          obtain ⟨_, _, _, _, _, _, ⟨-, -, -, d3, -⟩, -⟩ := HK7.out.cells
          exact d3.trans (congrArg some HLV.out), by
          obtain ⟨q0, q1, q2, q3⟩ := HS.out.2
          have q : ∀ i, (w6.setCells m 2 [.slice ya yl yc]).cell? ⟨g, i, none⟩ = w6.cell? ⟨g, i, none⟩ := fun i => World.cell?_of_block (one_heap HGM.out)
          exact ⟨(q _).trans q0, (q _).trans q1, (q _).trans q2, (q _).trans q3⟩⟩)
      obtain ⟨w7, hw7⟩ : ∃ w7, w7 = w6.setCells m 2 [.slice ya yl yc] := ⟨_, rfl⟩
      have HK7 := Lib.hid (show RDK F B m lv (A.sured (doF l o)) w7 from by rw [hw7]; exact HK7.out)
      have HM7 := Lib.hid (show MvR m lv lv w1 w7 from by rw [hw7]; exact HM7.out)
      rw [← hw7] at HS7 ⊢
      clear hw7
      refine ⟨HS7.out, ?_⟩
      refine wpAnyH_done (by kernel_rfl) ?_ _
      clear HS HS7 HTH HK6 HM6 HRF6 HL3 HL4
      go_wp2_with fail
      go_roundw
      case rel => exact ⟨k + 1, by omega, by go_num, by rw [HNX.out]; exact HK7, HM7⟩
      case measure => simp [intOf]; omega
    · obtain rfl : k = kk := by omega
      have c3 : wr.cell? ⟨m, 3, none⟩ = some (.slice la A.loose.length lc) := by
        obtain ⟨_, _, _, _, _, _, ⟨-, -, -, d3, -⟩, -⟩ := HK.out.cells
        rw [d3, HLV.out]
      clear hk
      by_cases hkn2 : k = A.loose.length
      · have HE := Lib.hid (show A.crash keep part = ⟨A.room, -1, false, (A.loose.take k).foldl doF A.sure, (A.loose.take k).foldl doF A.sure, []⟩ by
          unfold Ad.crash
          rw [fin_all (kk := k) (by have := HKK.out; omega) hkn2, hkn2, List.take_length, HALL.out])
        obtain ⟨q, hq⟩ : ∃ q, q = A.loose.length := ⟨_, rfl⟩
        rw [← hq] at c3 hkn2
        obtain rfl := hkn2
        obtain ⟨_, _, _, sa, sn, sc, ⟨-, c1, c2, -, c4, c5⟩, dz, -, -⟩ := HK.out.cells
        have z1 := dz 1
        have z3 := dz 3
        have z4 := dz 4
        have z5 := dz 5
        obtain ⟨kf, mf⟩ := HK.out.crashed c2
        have HKf := Lib.hid kf
        have HMf := Lib.hid (HM.out.trans mf)
        clear kf mf dz
        clear HOKS HLS HK0 HALL HKK HF hlc hll hkn hkk
        go_wp2_with fail
        go_end0
        exact ⟨rfl, _, by rw [HE.out]; exact HKf.out, HMf.out⟩
      · have hkl : k < A.loose.length := by omega
        obtain ⟨o, ho⟩ : ∃ o, A.loose[k]? = some o := ⟨_, List.getElem?_eq_getElem hkl⟩
        obtain ⟨la2, lc2, hlv2, hlc2, hcell⟩ := HK.out.lcell
        obtain ⟨e1, -, e3⟩ := Value.slice.inj (HLV.out.symm.trans hlv2)
        subst e1 e3
        obtain ⟨g, ra, rn, rc, rfl, hlcc, hrb⟩ := hcell k o ho
        have HLC := Lib.hid hlcc
        have HRB := Lib.hid hrb
        have HGO := Lib.hid (show OwnR m lv g from .inr (by rw [HLV.out]; rfl))
        have HGN := Lib.hid (show g ≠ m from fun e => HK.out.ne (by rw [← e, HLV.out]; rfl))
        have HGL := Lib.hid (show ∀ W : World, w1.heap.size ≤ W.heap.size → g < W.heap.size from fun W hW => Nat.lt_of_lt_of_le (HK0.out.ownLt HGO.out).2 hW)
        have HOK := Lib.hid (HOKS.out k o ho)
        have HEX := Lib.hid (show A.fin keep part = if o.kind = 1 then doF ((A.loose.take k).foldl doF A.sure) { o with p := o.p.take (min (max part 0) 1048576).toNat } else (A.loose.take k).foldl doF A.sure by
          unfold Ad.fin
          rw [show (min (max keep 0) (A.loose.length : Int)).toNat = k by have := HKK.out; omega, ho])
        have q0 := hlcc.1
        obtain ⟨n, hn⟩ : ∃ n, n = A.loose.length := ⟨_, rfl⟩
        rw [← hn] at c3 hkl
        have hix := run_chgs_idx wr g n lc k hkl
        clear ho hlv2 hlc2 hcell hlcc hrb HOKS HALL hkk hkn hkn2 hll hlc hn
        by_cases hk1 : o.kind = 1
        · have HE := Lib.hid (show A.crash keep part = ⟨A.room, -1, false, doF ((A.loose.take k).foldl doF A.sure) { o with p := o.p.take (min (max part 0) 1048576).toNat }, doF ((A.loose.take k).foldl doF A.sure) { o with p := o.p.take (min (max part 0) 1048576).toNat }, []⟩ by
            unfold Ad.crash
            rw [HEX.out, if_pos hk1])
          have hkz : (o.kind : Int) = 1 := by omega
          have hlda := run_LC wr g k o ra rn rc HLC.out
          have q1 := HLC.out.2.1
          have q2 := HLC.out.2.2.1
          have q3 := HLC.out.2.2.2
          have HK1 := Lib.hid hk1
          clear HEX
          go_wp2_with fail
          obtain ⟨l, hl⟩ : ∃ l, l = (A.loose.take k).foldl doF A.sure := ⟨_, rfl⟩
          obtain ⟨j, hj⟩ : ∃ j, j = min part.toNat rn := ⟨_, rfl⟩
          have hln := HRB.out.rd.1
          have hjn : j ≤ rn := by omega
          have HJC := Lib.hid (show j ≤ rc from Nat.le_trans hjn HRB.out.le)
          obtain ⟨z, hz1, hz2⟩ := HOK.out.2 (by omega)
          obtain ⟨hz3, hz4⟩ := hz2 hk1
          obtain ⟨o', ho'⟩ : ∃ o' : DCh, o' = { o with p := o.p.take j } := ⟨_, rfl⟩
          have HLL := Lib.hid (show (A.sured l).sure.length ≤ 10000000 from by have h1 := length_fold (A.loose.take k) A.sure; rw [List.length_take, ← hl] at h1; have := HLS.out; show l.length ≤ _; omega)
          rw [← hl] at HK hz1
          have HE2 := Lib.hid (show A.crash keep part = ⟨A.room, -1, false, doF l o', doF l o', []⟩ by
            rw [HE.out, ← hl, ho', show o.p.take (min (max part 0) 1048576).toNat = o.p.take j from List.take_eq_take_iff.2 (by omega)])
          obtain ⟨w5, hw5⟩ : ∃ w5, w5 = World.drew (wr.alloc (.cells #[.int .i64 1, .string o.a, .string o.b, .slice ra rn rc] 94)) := ⟨_, rfl⟩
          have hb5 : Below wr.heap.size wr w5 := by rw [hw5]; exact ((Below.refl _ _).alloc (Nat.le_refl _) _).drew
          obtain ⟨R, hR⟩ : ∃ R, R = wr.heap.size := ⟨_, rfl⟩
          have hrow : w5.heap[R]? = some (.cells #[.int .i64 1, .string o.a, .string o.b, .slice ra rn rc] 94 (0, 0)) := by rw [hw5, hR]; exact heap_alloc_new wr _
          have hRm : R ≠ m := by have := HK.out.lt; omega
          obtain ⟨w7, hw7⟩ : ∃ w7, w7 = w5.setCells R 3 [.slice ra j rc] := ⟨_, rfl⟩
          have hb7 : Below wr.heap.size wr w7 := by rw [hw7]; exact hb5.setCell (p := ⟨R, 3, none⟩) (by show _ ≤ R; omega) _
          have hrow7 := row_set hrow (.slice ra j rc) (o := 3) (by show 3 < 4; omega)
          rw [← hw7] at hrow7
          have HK7 := Lib.hid (HK.out.below hb7)
          have HM7 := Lib.hid (HM.out.trans (MvR.ofBelow hb7))
          have HRB7 := Lib.hid (show RB (NR F m lv) w7 ra j rc o'.p from by rw [ho']; exact (HRB.out.below hb7).take j hjn)
          have HB7 := Lib.hid (show LC w7 R 0 o' ra j rc from by
            rw [ho']
            refine ⟨(cell_of_row w7 R 0 _ _ _ hrow7).trans ?_, (cell_of_row w7 R 1 _ _ _ hrow7).trans rfl, (cell_of_row w7 R 2 _ _ _ hrow7).trans rfl, (cell_of_row w7 R 3 _ _ _ hrow7).trans rfl⟩
            show some (Value.int .i64 1) = some (.int .i64 (o.kind : Int))
            rw [hkz])
          have HR7 := Lib.hid (show R < w7.heap.size from by
            rcases Nat.lt_or_ge R w7.heap.size with h9 | h9
            · exact h9
            · rw [Array.getElem?_eq_none h9] at hrow7; cases hrow7)
          have HRM := Lib.hid hRm
          have hc5 : w5.cell? ⟨R, 3, none⟩ = some (.slice ra rn rc) := (cell_of_row w5 R 3 _ _ _ hrow).trans rfl
          have HLD := Lib.hid (run_cell_b w5 ⟨R, 3, none⟩ _ _ _ hc5)
          have HTH5 := Lib.hid (show w5.there R 3 1 from fun i hi => by
            obtain rfl : i = 0 := by omega
            exact ⟨by rw [Nat.add_zero, hc5]; rfl, frozen_of_row w5 R 3 _ _ hrow⟩)
          have HCL := Lib.hid (rclamp_c part (rn : Int) w5)
          rw [clamp_eq, ← hj] at HCL
          have HOK3 := Lib.hid (show o'.kind ≤ 3 ∧ (o'.kind ≠ 0 → ∃ z, lookF (A.sured l).sure o'.a = some z ∧ (o'.kind = 1 → z.length + o'.p.length ≤ 1000000000)) from by
            rw [ho']
            exact ⟨HOK.out.1, fun _ => ⟨z, hz1, fun _ => by show z.length + (o.p.take j).length ≤ _; rw [List.length_take]; omega⟩⟩)
          clear hl hj hln hjn hz1 hz2 hz3 hz4 ho' hb5 hrow hRm hb7 hrow7 hc5 HK HM HRB HOK HE HLC HK0 HLS HKK HGL HGN HGO HLV hix hlda q0 q1 q2 q3 c3 hkl hkz hk1 HK1
          (try dsimp only [Act.put, List.setIfInBounds_toArray, List.set_cons_zero, List.set_cons_succ])
          refine anyH_begin (S := fun _ => True) (by kernel_rfl) ?_
          rw [← hw5, ← hR]
          clear hw5 hR
          refine anyH_pureG 0 (d := 60) (op := .fieldAddr 94 (.tmp 7) 3) (gd := none) (.pointer (some ⟨R, 3, none⟩)) (by rfl) (fun o ho => wanted_plain ho _) (by kernel_rfl) (by kernel_rfl) (by kernel_rfl) (fun _ _ _ h => h) (fun o ho W hW => by unfold execOp; simp only [ho]; go_simp) trivial ?_
          simp only [Act.put, List.setIfInBounds_toArray, List.set_cons_zero, List.set_cons_succ]
          refine anyH_pureG 2 (d := 62) (op := .move (.tmp 2)) (gd := none) (.int .i64 part) (by rfl) (fun o ho => wanted_plain ho _) (by kernel_rfl) (by kernel_rfl) (by kernel_rfl) (fun _ _ _ h => h) (fun o ho W hW => by unfold execOp; simp only [ho]; go_simp) trivial ?_
          simp only [Act.put, List.setIfInBounds_toArray, List.set_cons_zero, List.set_cons_succ]
          refine anyH_pureG 3 (d := 63) (op := .fieldAddr 94 (.tmp 7) 3) (gd := none) (.pointer (some ⟨R, 3, none⟩)) (by rfl) (fun o ho => wanted_plain ho _) (by kernel_rfl) (by kernel_rfl) (by kernel_rfl) (fun _ _ _ h => h) (fun o ho W hW => by unfold execOp; simp only [ho]; go_simp) trivial ?_
          simp only [Act.put, List.setIfInBounds_toArray, List.set_cons_zero, List.set_cons_succ]
          refine wpAnyH_all (rs := [1, 4]) (by kernel_rfl) (by simp) ?_
          intro k hk; simp only [List.mem_cons, List.not_mem_nil, or_false] at hk; rcases hk with hk | hk <;> subst hk
          · refine op_atJ 1 (d := some 61) (op := .load 30 (.tmp 60)) (by rfl) ?_
            intro o4 hod4 hoo4
            refine wp_load_g 30 (.tmp 60) hoo4 (.pointer (some ⟨R, 3, none⟩)) (.slice ra rn rc) (by rfl) HLD.out ?_
            rw [hod4]
            clear hod4 hoo4
            simp only [Act.put, List.setIfInBounds_toArray, List.set_cons_zero, List.set_cons_succ]
            refine ⟨trivial, ?_⟩
            refine wpAnyH_all (rs := [4]) (by kernel_rfl) (by simp) ?_
            intro k hk; simp only [List.mem_cons, List.not_mem_nil, or_false] at hk; subst hk
            refine op_atJ 4 (d := some 64) (op := .load 30 (.tmp 63)) (by rfl) ?_
            intro o4 hod4 hoo4
            refine wp_load_g 30 (.tmp 63) hoo4 (.pointer (some ⟨R, 3, none⟩)) (.slice ra rn rc) (by rfl) HLD.out ?_
            rw [hod4]
            clear hod4 hoo4
            simp only [Act.put, List.setIfInBounds_toArray, List.set_cons_zero, List.set_cons_succ]
            refine ⟨trivial, ?_⟩
            refine anyH_pureG 5 (d := 65) (op := .call { callee := .builtin .len, args := #[(.tmp 64)], argTypes := #[30] }) (gd := none) (.int .i64 (rn : Int)) (by rfl) (fun o ho => wanted_plain ho _) (by kernel_rfl) (by kernel_rfl) (by kernel_rfl) (fun _ _ _ h => h) (fun o ho W hW => by unfold execOp; simp only [ho]; go_simp) trivial ?_
            simp only [Act.put, List.setIfInBounds_toArray, List.set_cons_zero, List.set_cons_succ]
            refine anyH_callG 6 (d := some 66) (f := 89) (xs := #[(.tmp 62), (.tmp 65)]) (ts := #[3, 3]) (gd := none) (vs := #[.int .i64 part, .int .i64 (rn : Int)]) (by kernel_rfl) (by rfl) (fun o ho => wanted_plain ho _) (by go_simp) (by go_simp) (HCL.out) ?_
            rintro e6 w6 ⟨rfl, h6⟩
            subst w6
            refine ⟨_, rfl, trivial, fun _ => ?_⟩
            simp only [Act.put, List.setIfInBounds_toArray, List.set_cons_zero, List.set_cons_succ]
            refine anyH_pureG 7 (d := 67) (op := .slice 30 (.tmp 61) none (some (.tmp 66)) none) (gd := none) (.slice ra j rc) (by rfl) (fun o ho => wanted_plain ho _) (by kernel_rfl) (by kernel_rfl) (by kernel_rfl) (fun _ _ _ h => h) (fun o1 ho W hW => exec_headD (x := .tmp 61) (y := .tmp 66) HJC.out (by rfl) (by rfl) o1 ho W) trivial ?_
            simp only [Act.put, List.setIfInBounds_toArray, List.set_cons_zero, List.set_cons_succ]
            refine anyH_pureG 8 (d := 68) (op := .fieldAddr 94 (.tmp 7) 3) (gd := none) (.pointer (some ⟨R, 3, none⟩)) (by rfl) (fun o ho => wanted_plain ho _) (by kernel_rfl) (by kernel_rfl) (by kernel_rfl) (fun _ _ _ h => h) (fun o ho W hW => by unfold execOp; simp only [ho]; go_simp) trivial ?_
            simp only [Act.put, List.setIfInBounds_toArray, List.set_cons_zero, List.set_cons_succ]
            refine wpAnyH_all (rs := [9]) (by kernel_rfl) (by simp) ?_
            intro k hk; simp only [List.mem_cons, List.not_mem_nil, or_false] at hk; subst hk
            refine op_atJ 9 (d := none) (op := .store 30 (.tmp 68) (.tmp 67)) (by rfl) ?_
            intro o7 hod7 hoo7
            refine wp_store_one 30 (.tmp 68) (.tmp 67) hoo7 R 3 (.slice ra j rc) (by rfl) (by rfl) HTH5.out (by kernel_rfl) (by rfl) (by rfl) ?_
            rw [hod7]
            clear hod7 hoo7
            simp only [Act.put, List.setIfInBounds_toArray, List.set_cons_zero, List.set_cons_succ]
            refine ⟨trivial, ?_⟩
            refine wpAnyH_done (by kernel_rfl) ?_ _
            rw [← hw7]
            clear hw7 HTH5 HLD HCL
            go_wp2_with fail
            (try dsimp only [Act.put, List.setIfInBounds_toArray, List.set_cons_zero, List.set_cons_succ])
            obtain ⟨w8, hw8⟩ : ∃ w8, w8 = World.drew w7 := ⟨_, rfl⟩
            have HK5 := Lib.hid (show RDK F B m lv (A.sured l) w8 from by rw [hw8]; exact HK7.out.below (Below.refl _ _).drew)
            have HM5 := Lib.hid (show MvR m lv lv w1 w8 from by rw [hw8]; exact HM7.out.trans (MvR.ofBelow (Below.refl _ _).drew))
            have HRB5 := Lib.hid (show RB (NR F m lv) w8 ra j rc o'.p from by rw [hw8]; exact HRB7.out.below (Below.refl _ _).drew)
            have HS := Lib.hid (show LC w8 R 0 o' ra j rc from by rw [hw8]; exact HB7.out)
            have HR5 := Lib.hid (show R < w8.heap.size from by rw [hw8]; exact HR7.out)
            obtain ⟨_, _, _, sa, sn, sc, ⟨-, -, d2, -, -, -⟩, -, -, hsure⟩ := HK5.out.cells
            have HLN5 := Lib.hid hsure.ln
            have HDO5 := Lib.hid (rdo_c (cap := sc) hsure (fun k hk => by rcases hk with hk | hk; exact Nat.lt_of_lt_of_le (HF.out k hk) HM5.out.size; exact (HK5.out.ownLt hk).2) o' ra j rc HRB5.out (by have h1 := HLN5.out; have h2 := HLL.out; omega) HOK3.out.1 HOK3.out.2)
            have HL2 := Lib.hid (run_cell_fl w8 ⟨m, 2, none⟩ _ _ _ d2)
            have HL4 := Lib.hid (show ∀ W : World, LC W R 0 o' ra j rc → (Instr.loadAt 94 (.pointer (some ⟨R, 0, none⟩))).run Try.prog W = .ok (.agg #[.int .i64 (o'.kind : Int), .string o'.a, .string o'.b, .slice ra j rc]) W from fun W hW => run_LC W R 0 o' ra j rc hW)
            refine anyH_begin (S := fun W => LC W R 0 o' ra j rc) (by kernel_rfl) ?_
            rw [← hw8]
            clear hw8 d2 hsure HK7 HM7 HRB7 HB7 HR7
            refine anyH_pureG 0 (d := 69) (op := .move (.tmp 0)) (gd := none) (.pointer (some ⟨m, 0, none⟩)) (by rfl) (fun o ho => wanted_plain ho _) (by kernel_rfl) (by kernel_rfl) (by kernel_rfl) (fun _ _ _ h => h) (fun o ho W hW => by unfold execOp; simp only [ho]; go_simp) HS.out ?_
            simp only [Act.put, List.setIfInBounds_toArray, List.set_cons_zero, List.set_cons_succ]
            refine anyH_pureG 1 (d := 70) (op := .move (.tmp 0)) (gd := none) (.pointer (some ⟨m, 0, none⟩)) (by rfl) (fun o ho => wanted_plain ho _) (by kernel_rfl) (by kernel_rfl) (by kernel_rfl) (fun _ _ _ h => h) (fun o ho W hW => by unfold execOp; simp only [ho]; go_simp) HS.out ?_
            simp only [Act.put, List.setIfInBounds_toArray, List.set_cons_zero, List.set_cons_succ]
            refine anyH_pureG 2 (d := 71) (op := .nilCheck (.tmp 70)) (gd := none) (.pointer (some ⟨m, 0, none⟩)) (by rfl) (fun o ho => wanted_plain ho _) (by kernel_rfl) (by kernel_rfl) (by kernel_rfl) (fun _ _ _ h => h) (fun o ho W hW => by unfold execOp; simp only [ho]; go_simp) HS.out ?_
            simp only [Act.put, List.setIfInBounds_toArray, List.set_cons_zero, List.set_cons_succ]
            refine anyH_pureG 3 (d := 72) (op := .fieldAddr 91 (.tmp 71) 2) (gd := none) (.pointer (some ⟨m, 2, none⟩)) (by rfl) (fun o ho => wanted_plain ho _) (by kernel_rfl) (by kernel_rfl) (by kernel_rfl) (fun _ _ _ h => h) (fun o ho W hW => by unfold execOp; simp only [ho]; go_simp) HS.out ?_
            simp only [Act.put, List.setIfInBounds_toArray, List.set_cons_zero, List.set_cons_succ]
            refine anyH_loadG 5 (d := 74) (ty := 94) (x := (.tmp 7)) (gd := none) (p := .pointer (some ⟨R, 0, none⟩)) (.agg #[.int .i64 (o'.kind : Int), .string o'.a, .string o'.b, .slice ra j rc]) (by rfl) (fun o ho => wanted_plain ho _) (by kernel_rfl) (by kernel_rfl) (by kernel_rfl) (fun _ _ _ h => h) (by rfl) HL4.out HS.out ?_
            simp only [Act.put, List.setIfInBounds_toArray, List.set_cons_zero, List.set_cons_succ]
            refine wpAnyH_all (rs := [4]) (by kernel_rfl) (by simp) ?_
            intro k hk; simp only [List.mem_cons, List.not_mem_nil, or_false] at hk; subst hk
            refine op_atJ 4 (d := some 73) (op := .load 88 (.tmp 72)) (by rfl) ?_
            intro o4 hod4 hoo4
            refine wp_load_g 88 (.tmp 72) hoo4 (.pointer (some ⟨m, 2, none⟩)) (.slice sa sn sc) (by rfl) HL2.out ?_
            rw [hod4]
            clear hod4 hoo4
            simp only [Act.put, List.setIfInBounds_toArray, List.set_cons_zero, List.set_cons_succ]
            refine ⟨HS.out, ?_⟩
            refine anyH_callG 6 (d := some 75) (f := 87) (xs := #[(.tmp 73), (.tmp 74)]) (ts := #[88, 94]) (gd := none) (vs := #[.slice sa sn sc, .agg #[.int .i64 (o'.kind : Int), .string o'.a, .string o'.b, .slice ra j rc]]) (by kernel_rfl) (by rfl) (fun o ho => wanted_plain ho _) (by go_simp) (by go_simp) (HDO5.out) ?_
            rintro e6 w6 ⟨ya, yl, yc, rfl, hrf6, hb6⟩
            have HK6 := Lib.hid (HK5.out.below hb6)
            have HM6 := Lib.hid (HM5.out.trans (MvR.ofBelow hb6))
            have HRF6 := Lib.hid hrf6
            have HS := Lib.hid (show LC w6 R 0 o' ra j rc from by obtain ⟨q0, q1, q2, q3⟩ := HS.out; exact ⟨(hb6.cell (p := ⟨R, 4 * 0, none⟩) HR5.out).trans q0, (hb6.cell (p := ⟨R, 4 * 0 + 1, none⟩) HR5.out).trans q1, (hb6.cell (p := ⟨R, 4 * 0 + 2, none⟩) HR5.out).trans q2, (hb6.cell (p := ⟨R, 4 * 0 + 3, none⟩) HR5.out).trans q3⟩)
            clear hb6 hrf6 HK5 HM5 HRB5 HDO5 HL2
            refine ⟨_, rfl, HS.out, fun _ => ?_⟩
            simp only [Act.put, List.setIfInBounds_toArray, List.set_cons_zero, List.set_cons_succ]
            refine anyH_pureG 7 (d := 76) (op := .nilCheck (.tmp 69)) (gd := none) (.pointer (some ⟨m, 0, none⟩)) (by rfl) (fun o ho => wanted_plain ho _) (by kernel_rfl) (by kernel_rfl) (by kernel_rfl) (fun _ _ _ h => h) (fun o ho W hW => by unfold execOp; simp only [ho]; go_simp) HS.out ?_
            simp only [Act.put, List.setIfInBounds_toArray, List.set_cons_zero, List.set_cons_succ]
            refine anyH_pureG 8 (d := 77) (op := .fieldAddr 91 (.tmp 76) 2) (gd := none) (.pointer (some ⟨m, 2, none⟩)) (by rfl) (fun o ho => wanted_plain ho _) (by kernel_rfl) (by kernel_rfl) (by kernel_rfl) (fun _ _ _ h => h) (fun o ho W hW => by unfold execOp; simp only [ho]; go_simp) HS.out ?_
            simp only [Act.put, List.setIfInBounds_toArray, List.set_cons_zero, List.set_cons_succ]
            obtain ⟨k7, m7⟩ := HK6.out.cellSet 2 (.slice ya yl yc) (A.sured (doF l o')) (na := none) (sa := none) (nn := 0) (nc := 0) (sn := 0) (sc := 0) (fun na nn nc sa sn sc _ h2 h3 => ⟨na, nn, nc, ya, yl, yc, rfl, h2, HRF6.out⟩) (by omega) rfl
            have HTH := Lib.hid (show w6.there m 2 1 from fun j hj => by
              obtain rfl : j = 0 := by omega
              obtain ⟨_, _, _, _, _, _, ⟨-, -, d2, -⟩, dz, -⟩ := HK6.out.cells
              exact ⟨by rw [Nat.add_zero, d2]; rfl, dz 2⟩)
            have HK9 := Lib.hid k7
            have HM9 := Lib.hid (HM6.out.trans m7)
            refine wpAnyH_all (rs := [9]) (by kernel_rfl) (by simp) ?_
            intro k hk; simp only [List.mem_cons, List.not_mem_nil, or_false] at hk; subst hk
            refine op_atJ 9 (d := none) (op := .store 88 (.tmp 77) (.tmp 75)) (by rfl) ?_
            intro o7 hod7 hoo7
            refine wp_store_one 88 (.tmp 77) (.tmp 75) hoo7 m 2 (.slice ya yl yc) (by rfl) (by rfl) HTH.out (by kernel_rfl) (by rfl) (by rfl) ?_
            rw [hod7]
            clear hod7 hoo7 k7 m7
            simp only [Act.put, List.setIfInBounds_toArray, List.set_cons_zero, List.set_cons_succ]
            have HS7 := Lib.hid (show LC (w6.setCells m 2 [.slice ya yl yc]) R 0 o' ra j rc from by
              obtain ⟨q0, q1, q2, q3⟩ := HS.out
              have q : ∀ i, (w6.setCells m 2 [.slice ya yl yc]).cell? ⟨R, i, none⟩ = w6.cell? ⟨R, i, none⟩ := fun i => World.cell?_of_block (one_heap HRM.out)
              exact ⟨(q _).trans q0, (q _).trans q1, (q _).trans q2, (q _).trans q3⟩)
            obtain ⟨w9, hw9⟩ : ∃ w9, w9 = w6.setCells m 2 [.slice ya yl yc] := ⟨_, rfl⟩
            have HK := Lib.hid (show RDK F B m lv (A.sured (doF l o')) w9 from by rw [hw9]; exact HK9.out)
            have HM := Lib.hid (show MvR m lv lv w1 w9 from by rw [hw9]; exact HM9.out)
            rw [← hw9] at HS7 ⊢
            clear hw9
            refine ⟨HS7.out, ?_⟩
            refine wpAnyH_done (by kernel_rfl) ?_ _
            clear HS HS7 HTH HK6 HM6 HRF6 HL4 HK9 HM9 HR5 HRM HLL HOK3 HJC HF
            obtain ⟨_, _, _, sa, sn, sc, ⟨-, c1, c2, c3, c4, c5⟩, dz, -, -⟩ := HK.out.cells
            have z1 := dz 1
            have z3 := dz 3
            have z4 := dz 4
            have z5 := dz 5
            obtain ⟨kf, mf⟩ := HK.out.crashed c2
            have HKf := Lib.hid kf
            have HMf := Lib.hid (HM.out.trans mf)
            clear kf mf dz
            go_wp2_with fail
            go_end0
            exact ⟨rfl, _, by rw [HE2.out]; exact HKf.out, HMf.out⟩
          · refine op_atJ 4 (d := some 64) (op := .load 30 (.tmp 63)) (by rfl) ?_
            intro o4 hod4 hoo4
            refine wp_load_g 30 (.tmp 63) hoo4 (.pointer (some ⟨R, 3, none⟩)) (.slice ra rn rc) (by rfl) HLD.out ?_
            rw [hod4]
            clear hod4 hoo4
            simp only [Act.put, List.setIfInBounds_toArray, List.set_cons_zero, List.set_cons_succ]
            refine ⟨trivial, ?_⟩
            refine anyH_pureG 5 (d := 65) (op := .call { callee := .builtin .len, args := #[(.tmp 64)], argTypes := #[30] }) (gd := none) (.int .i64 (rn : Int)) (by rfl) (fun o ho => wanted_plain ho _) (by kernel_rfl) (by kernel_rfl) (by kernel_rfl) (fun _ _ _ h => h) (fun o ho W hW => by unfold execOp; simp only [ho]; go_simp) trivial ?_
            simp only [Act.put, List.setIfInBounds_toArray, List.set_cons_zero, List.set_cons_succ]
            refine wpAnyH_all (rs := [1, 6]) (by kernel_rfl) (by simp) ?_
            intro k hk; simp only [List.mem_cons, List.not_mem_nil, or_false] at hk; rcases hk with hk | hk <;> subst hk
            · refine op_atJ 1 (d := some 61) (op := .load 30 (.tmp 60)) (by rfl) ?_
              intro o4 hod4 hoo4
              refine wp_load_g 30 (.tmp 60) hoo4 (.pointer (some ⟨R, 3, none⟩)) (.slice ra rn rc) (by rfl) HLD.out ?_
              rw [hod4]
              clear hod4 hoo4
              simp only [Act.put, List.setIfInBounds_toArray, List.set_cons_zero, List.set_cons_succ]
              refine ⟨trivial, ?_⟩
              refine anyH_callG 6 (d := some 66) (f := 89) (xs := #[(.tmp 62), (.tmp 65)]) (ts := #[3, 3]) (gd := none) (vs := #[.int .i64 part, .int .i64 (rn : Int)]) (by kernel_rfl) (by rfl) (fun o ho => wanted_plain ho _) (by go_simp) (by go_simp) (HCL.out) ?_
              rintro e6 w6 ⟨rfl, h6⟩
              subst w6
              refine ⟨_, rfl, trivial, fun _ => ?_⟩
              simp only [Act.put, List.setIfInBounds_toArray, List.set_cons_zero, List.set_cons_succ]
              refine anyH_pureG 7 (d := 67) (op := .slice 30 (.tmp 61) none (some (.tmp 66)) none) (gd := none) (.slice ra j rc) (by rfl) (fun o ho => wanted_plain ho _) (by kernel_rfl) (by kernel_rfl) (by kernel_rfl) (fun _ _ _ h => h) (fun o1 ho W hW => exec_headD (x := .tmp 61) (y := .tmp 66) HJC.out (by rfl) (by rfl) o1 ho W) trivial ?_
              simp only [Act.put, List.setIfInBounds_toArray, List.set_cons_zero, List.set_cons_succ]
              refine anyH_pureG 8 (d := 68) (op := .fieldAddr 94 (.tmp 7) 3) (gd := none) (.pointer (some ⟨R, 3, none⟩)) (by rfl) (fun o ho => wanted_plain ho _) (by kernel_rfl) (by kernel_rfl) (by kernel_rfl) (fun _ _ _ h => h) (fun o ho W hW => by unfold execOp; simp only [ho]; go_simp) trivial ?_
              simp only [Act.put, List.setIfInBounds_toArray, List.set_cons_zero, List.set_cons_succ]
              refine wpAnyH_all (rs := [9]) (by kernel_rfl) (by simp) ?_
              intro k hk; simp only [List.mem_cons, List.not_mem_nil, or_false] at hk; subst hk
              refine op_atJ 9 (d := none) (op := .store 30 (.tmp 68) (.tmp 67)) (by rfl) ?_
              intro o7 hod7 hoo7
              refine wp_store_one 30 (.tmp 68) (.tmp 67) hoo7 R 3 (.slice ra j rc) (by rfl) (by rfl) HTH5.out (by kernel_rfl) (by rfl) (by rfl) ?_
              rw [hod7]
              clear hod7 hoo7
              simp only [Act.put, List.setIfInBounds_toArray, List.set_cons_zero, List.set_cons_succ]
              refine ⟨trivial, ?_⟩
              refine wpAnyH_done (by kernel_rfl) ?_ _
              rw [← hw7]
              clear hw7 HTH5 HLD HCL
              go_wp2_with fail
              (try dsimp only [Act.put, List.setIfInBounds_toArray, List.set_cons_zero, List.set_cons_succ])
              obtain ⟨w8, hw8⟩ : ∃ w8, w8 = World.drew w7 := ⟨_, rfl⟩
              have HK5 := Lib.hid (show RDK F B m lv (A.sured l) w8 from by rw [hw8]; exact HK7.out.below (Below.refl _ _).drew)
              have HM5 := Lib.hid (show MvR m lv lv w1 w8 from by rw [hw8]; exact HM7.out.trans (MvR.ofBelow (Below.refl _ _).drew))
              have HRB5 := Lib.hid (show RB (NR F m lv) w8 ra j rc o'.p from by rw [hw8]; exact HRB7.out.below (Below.refl _ _).drew)
              have HS := Lib.hid (show LC w8 R 0 o' ra j rc from by rw [hw8]; exact HB7.out)
              have HR5 := Lib.hid (show R < w8.heap.size from by rw [hw8]; exact HR7.out)
              obtain ⟨_, _, _, sa, sn, sc, ⟨-, -, d2, -, -, -⟩, -, -, hsure⟩ := HK5.out.cells
              have HLN5 := Lib.hid hsure.ln
              have HDO5 := Lib.hid (rdo_c (cap := sc) hsure (fun k hk => by rcases hk with hk | hk; exact Nat.lt_of_lt_of_le (HF.out k hk) HM5.out.size; exact (HK5.out.ownLt hk).2) o' ra j rc HRB5.out (by have h1 := HLN5.out; have h2 := HLL.out; omega) HOK3.out.1 HOK3.out.2)
              have HL2 := Lib.hid (run_cell_fl w8 ⟨m, 2, none⟩ _ _ _ d2)
              have HL4 := Lib.hid (show ∀ W : World, LC W R 0 o' ra j rc → (Instr.loadAt 94 (.pointer (some ⟨R, 0, none⟩))).run Try.prog W = .ok (.agg #[.int .i64 (o'.kind : Int), .string o'.a, .string o'.b, .slice ra j rc]) W from fun W hW => run_LC W R 0 o' ra j rc hW)
              refine anyH_begin (S := fun W => LC W R 0 o' ra j rc) (by kernel_rfl) ?_
              rw [← hw8]
              clear hw8 d2 hsure HK7 HM7 HRB7 HB7 HR7
              refine anyH_pureG 0 (d := 69) (op := .move (.tmp 0)) (gd := none) (.pointer (some ⟨m, 0, none⟩)) (by rfl) (fun o ho => wanted_plain ho _) (by kernel_rfl) (by kernel_rfl) (by kernel_rfl) (fun _ _ _ h => h) (fun o ho W hW => by unfold execOp; simp only [ho]; go_simp) HS.out ?_
              simp only [Act.put, List.setIfInBounds_toArray, List.set_cons_zero, List.set_cons_succ]
              refine anyH_pureG 1 (d := 70) (op := .move (.tmp 0)) (gd := none) (.pointer (some ⟨m, 0, none⟩)) (by rfl) (fun o ho => wanted_plain ho _) (by kernel_rfl) (by kernel_rfl) (by kernel_rfl) (fun _ _ _ h => h) (fun o ho W hW => by unfold execOp; simp only [ho]; go_simp) HS.out ?_
              simp only [Act.put, List.setIfInBounds_toArray, List.set_cons_zero, List.set_cons_succ]
              refine anyH_pureG 2 (d := 71) (op := .nilCheck (.tmp 70)) (gd := none) (.pointer (some ⟨m, 0, none⟩)) (by rfl) (fun o ho => wanted_plain ho _) (by kernel_rfl) (by kernel_rfl) (by kernel_rfl) (fun _ _ _ h => h) (fun o ho W hW => by unfold execOp; simp only [ho]; go_simp) HS.out ?_
              simp only [Act.put, List.setIfInBounds_toArray, List.set_cons_zero, List.set_cons_succ]
              refine anyH_pureG 3 (d := 72) (op := .fieldAddr 91 (.tmp 71) 2) (gd := none) (.pointer (some ⟨m, 2, none⟩)) (by rfl) (fun o ho => wanted_plain ho _) (by kernel_rfl) (by kernel_rfl) (by kernel_rfl) (fun _ _ _ h => h) (fun o ho W hW => by unfold execOp; simp only [ho]; go_simp) HS.out ?_
              simp only [Act.put, List.setIfInBounds_toArray, List.set_cons_zero, List.set_cons_succ]
              refine anyH_loadG 5 (d := 74) (ty := 94) (x := (.tmp 7)) (gd := none) (p := .pointer (some ⟨R, 0, none⟩)) (.agg #[.int .i64 (o'.kind : Int), .string o'.a, .string o'.b, .slice ra j rc]) (by rfl) (fun o ho => wanted_plain ho _) (by kernel_rfl) (by kernel_rfl) (by kernel_rfl) (fun _ _ _ h => h) (by rfl) HL4.out HS.out ?_
              simp only [Act.put, List.setIfInBounds_toArray, List.set_cons_zero, List.set_cons_succ]
              refine wpAnyH_all (rs := [4]) (by kernel_rfl) (by simp) ?_
              intro k hk; simp only [List.mem_cons, List.not_mem_nil, or_false] at hk; subst hk
              refine op_atJ 4 (d := some 73) (op := .load 88 (.tmp 72)) (by rfl) ?_
              intro o4 hod4 hoo4
              refine wp_load_g 88 (.tmp 72) hoo4 (.pointer (some ⟨m, 2, none⟩)) (.slice sa sn sc) (by rfl) HL2.out ?_
              rw [hod4]
              clear hod4 hoo4
              simp only [Act.put, List.setIfInBounds_toArray, List.set_cons_zero, List.set_cons_succ]
              refine ⟨HS.out, ?_⟩
              refine anyH_callG 6 (d := some 75) (f := 87) (xs := #[(.tmp 73), (.tmp 74)]) (ts := #[88, 94]) (gd := none) (vs := #[.slice sa sn sc, .agg #[.int .i64 (o'.kind : Int), .string o'.a, .string o'.b, .slice ra j rc]]) (by kernel_rfl) (by rfl) (fun o ho => wanted_plain ho _) (by go_simp) (by go_simp) (HDO5.out) ?_
              rintro e6 w6 ⟨ya, yl, yc, rfl, hrf6, hb6⟩
              have HK6 := Lib.hid (HK5.out.below hb6)
              have HM6 := Lib.hid (HM5.out.trans (MvR.ofBelow hb6))
              have HRF6 := Lib.hid hrf6
              have HS := Lib.hid (show LC w6 R 0 o' ra j rc from by obtain ⟨q0, q1, q2, q3⟩ := HS.out; exact ⟨(hb6.cell (p := ⟨R, 4 * 0, none⟩) HR5.out).trans q0, (hb6.cell (p := ⟨R, 4 * 0 + 1, none⟩) HR5.out).trans q1, (hb6.cell (p := ⟨R, 4 * 0 + 2, none⟩) HR5.out).trans q2, (hb6.cell (p := ⟨R, 4 * 0 + 3, none⟩) HR5.out).trans q3⟩)
              clear hb6 hrf6 HK5 HM5 HRB5 HDO5 HL2
              refine ⟨_, rfl, HS.out, fun _ => ?_⟩
              simp only [Act.put, List.setIfInBounds_toArray, List.set_cons_zero, List.set_cons_succ]
              refine anyH_pureG 7 (d := 76) (op := .nilCheck (.tmp 69)) (gd := none) (.pointer (some ⟨m, 0, none⟩)) (by rfl) (fun o ho => wanted_plain ho _) (by kernel_rfl) (by kernel_rfl) (by kernel_rfl) (fun _ _ _ h => h) (fun o ho W hW => by unfold execOp; simp only [ho]; go_simp) HS.out ?_
              simp only [Act.put, List.setIfInBounds_toArray, List.set_cons_zero, List.set_cons_succ]
              refine anyH_pureG 8 (d := 77) (op := .fieldAddr 91 (.tmp 76) 2) (gd := none) (.pointer (some ⟨m, 2, none⟩)) (by rfl) (fun o ho => wanted_plain ho _) (by kernel_rfl) (by kernel_rfl) (by kernel_rfl) (fun _ _ _ h => h) (fun o ho W hW => by unfold execOp; simp only [ho]; go_simp) HS.out ?_
              simp only [Act.put, List.setIfInBounds_toArray, List.set_cons_zero, List.set_cons_succ]
              obtain ⟨k7, m7⟩ := HK6.out.cellSet 2 (.slice ya yl yc) (A.sured (doF l o')) (na := none) (sa := none) (nn := 0) (nc := 0) (sn := 0) (sc := 0) (fun na nn nc sa sn sc _ h2 h3 => ⟨na, nn, nc, ya, yl, yc, rfl, h2, HRF6.out⟩) (by omega) rfl
              have HTH := Lib.hid (show w6.there m 2 1 from fun j hj => by
                obtain rfl : j = 0 := by omega
                obtain ⟨_, _, _, _, _, _, ⟨-, -, d2, -⟩, dz, -⟩ := HK6.out.cells
                exact ⟨by rw [Nat.add_zero, d2]; rfl, dz 2⟩)
              have HK9 := Lib.hid k7
              have HM9 := Lib.hid (HM6.out.trans m7)
              refine wpAnyH_all (rs := [9]) (by kernel_rfl) (by simp) ?_
              intro k hk; simp only [List.mem_cons, List.not_mem_nil, or_false] at hk; subst hk
              refine op_atJ 9 (d := none) (op := .store 88 (.tmp 77) (.tmp 75)) (by rfl) ?_
              intro o7 hod7 hoo7
              refine wp_store_one 88 (.tmp 77) (.tmp 75) hoo7 m 2 (.slice ya yl yc) (by rfl) (by rfl) HTH.out (by kernel_rfl) (by rfl) (by rfl) ?_
              rw [hod7]
              clear hod7 hoo7 k7 m7
              simp only [Act.put, List.setIfInBounds_toArray, List.set_cons_zero, List.set_cons_succ]
              have HS7 := Lib.hid (show LC (w6.setCells m 2 [.slice ya yl yc]) R 0 o' ra j rc from by
                obtain ⟨q0, q1, q2, q3⟩ := HS.out
                have q : ∀ i, (w6.setCells m 2 [.slice ya yl yc]).cell? ⟨R, i, none⟩ = w6.cell? ⟨R, i, none⟩ := fun i => World.cell?_of_block (one_heap HRM.out)
                exact ⟨(q _).trans q0, (q _).trans q1, (q _).trans q2, (q _).trans q3⟩)
              obtain ⟨w9, hw9⟩ : ∃ w9, w9 = w6.setCells m 2 [.slice ya yl yc] := ⟨_, rfl⟩
              have HK := Lib.hid (show RDK F B m lv (A.sured (doF l o')) w9 from by rw [hw9]; exact HK9.out)
              have HM := Lib.hid (show MvR m lv lv w1 w9 from by rw [hw9]; exact HM9.out)
              rw [← hw9] at HS7 ⊢
              clear hw9
              refine ⟨HS7.out, ?_⟩
              refine wpAnyH_done (by kernel_rfl) ?_ _
              clear HS HS7 HTH HK6 HM6 HRF6 HL4 HK9 HM9 HR5 HRM HLL HOK3 HJC HF
              obtain ⟨_, _, _, sa, sn, sc, ⟨-, c1, c2, c3, c4, c5⟩, dz, -, -⟩ := HK.out.cells
              have z1 := dz 1
              have z3 := dz 3
              have z4 := dz 4
              have z5 := dz 5
              obtain ⟨kf, mf⟩ := HK.out.crashed c2
              have HKf := Lib.hid kf
              have HMf := Lib.hid (HM.out.trans mf)
              clear kf mf dz
              go_wp2_with fail
              go_end0
              exact ⟨rfl, _, by rw [HE2.out]; exact HKf.out, HMf.out⟩
            · refine op_callC (d := some 66) (f := 89) (xs := #[(.tmp 62), (.tmp 65)]) (ts := #[3, 3]) (vs := #[.int .i64 part, .int .i64 (rn : Int)]) (by rfl) (by go_simp) (by go_simp) HCL.out ?_
              rintro e6 w6 ⟨rfl, h6⟩
              subst w6
              refine ⟨_, rfl, ?_⟩
              simp only [Act.put, List.setIfInBounds_toArray, List.set_cons_zero, List.set_cons_succ]
              refine ⟨trivial, ?_⟩
              refine wpAnyH_all (rs := [1]) (by kernel_rfl) (by simp) ?_
              intro k hk; simp only [List.mem_cons, List.not_mem_nil, or_false] at hk; subst hk
              refine op_atJ 1 (d := some 61) (op := .load 30 (.tmp 60)) (by rfl) ?_
              intro o4 hod4 hoo4
              refine wp_load_g 30 (.tmp 60) hoo4 (.pointer (some ⟨R, 3, none⟩)) (.slice ra rn rc) (by rfl) HLD.out ?_
              rw [hod4]
              clear hod4 hoo4
              simp only [Act.put, List.setIfInBounds_toArray, List.set_cons_zero, List.set_cons_succ]
              refine ⟨trivial, ?_⟩
              refine anyH_pureG 7 (d := 67) (op := .slice 30 (.tmp 61) none (some (.tmp 66)) none) (gd := none) (.slice ra j rc) (by rfl) (fun o ho => wanted_plain ho _) (by kernel_rfl) (by kernel_rfl) (by kernel_rfl) (fun _ _ _ h => h) (fun o1 ho W hW => exec_headD (x := .tmp 61) (y := .tmp 66) HJC.out (by rfl) (by rfl) o1 ho W) trivial ?_
              simp only [Act.put, List.setIfInBounds_toArray, List.set_cons_zero, List.set_cons_succ]
              refine anyH_pureG 8 (d := 68) (op := .fieldAddr 94 (.tmp 7) 3) (gd := none) (.pointer (some ⟨R, 3, none⟩)) (by rfl) (fun o ho => wanted_plain ho _) (by kernel_rfl) (by kernel_rfl) (by kernel_rfl) (fun _ _ _ h => h) (fun o ho W hW => by unfold execOp; simp only [ho]; go_simp) trivial ?_
              simp only [Act.put, List.setIfInBounds_toArray, List.set_cons_zero, List.set_cons_succ]
              refine wpAnyH_all (rs := [9]) (by kernel_rfl) (by simp) ?_
              intro k hk; simp only [List.mem_cons, List.not_mem_nil, or_false] at hk; subst hk
              refine op_atJ 9 (d := none) (op := .store 30 (.tmp 68) (.tmp 67)) (by rfl) ?_
              intro o7 hod7 hoo7
              refine wp_store_one 30 (.tmp 68) (.tmp 67) hoo7 R 3 (.slice ra j rc) (by rfl) (by rfl) HTH5.out (by kernel_rfl) (by rfl) (by rfl) ?_
              rw [hod7]
              clear hod7 hoo7
              simp only [Act.put, List.setIfInBounds_toArray, List.set_cons_zero, List.set_cons_succ]
              refine ⟨trivial, ?_⟩
              refine wpAnyH_done (by kernel_rfl) ?_ _
              rw [← hw7]
              clear hw7 HTH5 HLD HCL
              go_wp2_with fail
              (try dsimp only [Act.put, List.setIfInBounds_toArray, List.set_cons_zero, List.set_cons_succ])
              obtain ⟨w8, hw8⟩ : ∃ w8, w8 = World.drew w7 := ⟨_, rfl⟩
              have HK5 := Lib.hid (show RDK F B m lv (A.sured l) w8 from by rw [hw8]; exact HK7.out.below (Below.refl _ _).drew)
              have HM5 := Lib.hid (show MvR m lv lv w1 w8 from by rw [hw8]; exact HM7.out.trans (MvR.ofBelow (Below.refl _ _).drew))
              have HRB5 := Lib.hid (show RB (NR F m lv) w8 ra j rc o'.p from by rw [hw8]; exact HRB7.out.below (Below.refl _ _).drew)
              have HS := Lib.hid (show LC w8 R 0 o' ra j rc from by rw [hw8]; exact HB7.out)
              have HR5 := Lib.hid (show R < w8.heap.size from by rw [hw8]; exact HR7.out)
              obtain ⟨_, _, _, sa, sn, sc, ⟨-, -, d2, -, -, -⟩, -, -, hsure⟩ := HK5.out.cells
              have HLN5 := Lib.hid hsure.ln
              have HDO5 := Lib.hid (rdo_c (cap := sc) hsure (fun k hk => by rcases hk with hk | hk; exact Nat.lt_of_lt_of_le (HF.out k hk) HM5.out.size; exact (HK5.out.ownLt hk).2) o' ra j rc HRB5.out (by have h1 := HLN5.out; have h2 := HLL.out; omega) HOK3.out.1 HOK3.out.2)
              have HL2 := Lib.hid (run_cell_fl w8 ⟨m, 2, none⟩ _ _ _ d2)
              have HL4 := Lib.hid (show ∀ W : World, LC W R 0 o' ra j rc → (Instr.loadAt 94 (.pointer (some ⟨R, 0, none⟩))).run Try.prog W = .ok (.agg #[.int .i64 (o'.kind : Int), .string o'.a, .string o'.b, .slice ra j rc]) W from fun W hW => run_LC W R 0 o' ra j rc hW)
              refine anyH_begin (S := fun W => LC W R 0 o' ra j rc) (by kernel_rfl) ?_
              rw [← hw8]
              clear hw8 d2 hsure HK7 HM7 HRB7 HB7 HR7
              refine anyH_pureG 0 (d := 69) (op := .move (.tmp 0)) (gd := none) (.pointer (some ⟨m, 0, none⟩)) (by rfl) (fun o ho => wanted_plain ho _) (by kernel_rfl) (by kernel_rfl) (by kernel_rfl) (fun _ _ _ h => h) (fun o ho W hW => by unfold execOp; simp only [ho]; go_simp) HS.out ?_
              simp only [Act.put, List.setIfInBounds_toArray, List.set_cons_zero, List.set_cons_succ]
              refine anyH_pureG 1 (d := 70) (op := .move (.tmp 0)) (gd := none) (.pointer (some ⟨m, 0, none⟩)) (by rfl) (fun o ho => wanted_plain ho _) (by kernel_rfl) (by kernel_rfl) (by kernel_rfl) (fun _ _ _ h => h) (fun o ho W hW => by unfold execOp; simp only [ho]; go_simp) HS.out ?_
              simp only [Act.put, List.setIfInBounds_toArray, List.set_cons_zero, List.set_cons_succ]
              refine anyH_pureG 2 (d := 71) (op := .nilCheck (.tmp 70)) (gd := none) (.pointer (some ⟨m, 0, none⟩)) (by rfl) (fun o ho => wanted_plain ho _) (by kernel_rfl) (by kernel_rfl) (by kernel_rfl) (fun _ _ _ h => h) (fun o ho W hW => by unfold execOp; simp only [ho]; go_simp) HS.out ?_
              simp only [Act.put, List.setIfInBounds_toArray, List.set_cons_zero, List.set_cons_succ]
              refine anyH_pureG 3 (d := 72) (op := .fieldAddr 91 (.tmp 71) 2) (gd := none) (.pointer (some ⟨m, 2, none⟩)) (by rfl) (fun o ho => wanted_plain ho _) (by kernel_rfl) (by kernel_rfl) (by kernel_rfl) (fun _ _ _ h => h) (fun o ho W hW => by unfold execOp; simp only [ho]; go_simp) HS.out ?_
              simp only [Act.put, List.setIfInBounds_toArray, List.set_cons_zero, List.set_cons_succ]
              refine anyH_loadG 5 (d := 74) (ty := 94) (x := (.tmp 7)) (gd := none) (p := .pointer (some ⟨R, 0, none⟩)) (.agg #[.int .i64 (o'.kind : Int), .string o'.a, .string o'.b, .slice ra j rc]) (by rfl) (fun o ho => wanted_plain ho _) (by kernel_rfl) (by kernel_rfl) (by kernel_rfl) (fun _ _ _ h => h) (by rfl) HL4.out HS.out ?_
              simp only [Act.put, List.setIfInBounds_toArray, List.set_cons_zero, List.set_cons_succ]
              refine wpAnyH_all (rs := [4]) (by kernel_rfl) (by simp) ?_
              intro k hk; simp only [List.mem_cons, List.not_mem_nil, or_false] at hk; subst hk
              refine op_atJ 4 (d := some 73) (op := .load 88 (.tmp 72)) (by rfl) ?_
              intro o4 hod4 hoo4
              refine wp_load_g 88 (.tmp 72) hoo4 (.pointer (some ⟨m, 2, none⟩)) (.slice sa sn sc) (by rfl) HL2.out ?_
              rw [hod4]
              clear hod4 hoo4
              simp only [Act.put, List.setIfInBounds_toArray, List.set_cons_zero, List.set_cons_succ]
              refine ⟨HS.out, ?_⟩
              refine anyH_callG 6 (d := some 75) (f := 87) (xs := #[(.tmp 73), (.tmp 74)]) (ts := #[88, 94]) (gd := none) (vs := #[.slice sa sn sc, .agg #[.int .i64 (o'.kind : Int), .string o'.a, .string o'.b, .slice ra j rc]]) (by kernel_rfl) (by rfl) (fun o ho => wanted_plain ho _) (by go_simp) (by go_simp) (HDO5.out) ?_
              rintro e6 w6 ⟨ya, yl, yc, rfl, hrf6, hb6⟩
              have HK6 := Lib.hid (HK5.out.below hb6)
              have HM6 := Lib.hid (HM5.out.trans (MvR.ofBelow hb6))
              have HRF6 := Lib.hid hrf6
              have HS := Lib.hid (show LC w6 R 0 o' ra j rc from by obtain ⟨q0, q1, q2, q3⟩ := HS.out; exact ⟨(hb6.cell (p := ⟨R, 4 * 0, none⟩) HR5.out).trans q0, (hb6.cell (p := ⟨R, 4 * 0 + 1, none⟩) HR5.out).trans q1, (hb6.cell (p := ⟨R, 4 * 0 + 2, none⟩) HR5.out).trans q2, (hb6.cell (p := ⟨R, 4 * 0 + 3, none⟩) HR5.out).trans q3⟩)
              clear hb6 hrf6 HK5 HM5 HRB5 HDO5 HL2
              refine ⟨_, rfl, HS.out, fun _ => ?_⟩
              simp only [Act.put, List.setIfInBounds_toArray, List.set_cons_zero, List.set_cons_succ]
              refine anyH_pureG 7 (d := 76) (op := .nilCheck (.tmp 69)) (gd := none) (.pointer (some ⟨m, 0, none⟩)) (by rfl) (fun o ho => wanted_plain ho _) (by kernel_rfl) (by kernel_rfl) (by kernel_rfl) (fun _ _ _ h => h) (fun o ho W hW => by unfold execOp; simp only [ho]; go_simp) HS.out ?_
              simp only [Act.put, List.setIfInBounds_toArray, List.set_cons_zero, List.set_cons_succ]
              refine anyH_pureG 8 (d := 77) (op := .fieldAddr 91 (.tmp 76) 2) (gd := none) (.pointer (some ⟨m, 2, none⟩)) (by rfl) (fun o ho => wanted_plain ho _) (by kernel_rfl) (by kernel_rfl) (by kernel_rfl) (fun _ _ _ h => h) (fun o ho W hW => by unfold execOp; simp only [ho]; go_simp) HS.out ?_
              simp only [Act.put, List.setIfInBounds_toArray, List.set_cons_zero, List.set_cons_succ]
              obtain ⟨k7, m7⟩ := HK6.out.cellSet 2 (.slice ya yl yc) (A.sured (doF l o')) (na := none) (sa := none) (nn := 0) (nc := 0) (sn := 0) (sc := 0) (fun na nn nc sa sn sc _ h2 h3 => ⟨na, nn, nc, ya, yl, yc, rfl, h2, HRF6.out⟩) (by omega) rfl
              have HTH := Lib.hid (show w6.there m 2 1 from fun j hj => by
                obtain rfl : j = 0 := by omega
                obtain ⟨_, _, _, _, _, _, ⟨-, -, d2, -⟩, dz, -⟩ := HK6.out.cells
                exact ⟨by rw [Nat.add_zero, d2]; rfl, dz 2⟩)
              have HK9 := Lib.hid k7
              have HM9 := Lib.hid (HM6.out.trans m7)
              refine wpAnyH_all (rs := [9]) (by kernel_rfl) (by simp) ?_
              intro k hk; simp only [List.mem_cons, List.not_mem_nil, or_false] at hk; subst hk
              refine op_atJ 9 (d := none) (op := .store 88 (.tmp 77) (.tmp 75)) (by rfl) ?_
              intro o7 hod7 hoo7
              refine wp_store_one 88 (.tmp 77) (.tmp 75) hoo7 m 2 (.slice ya yl yc) (by rfl) (by rfl) HTH.out (by kernel_rfl) (by rfl) (by rfl) ?_
              rw [hod7]
              clear hod7 hoo7 k7 m7
              simp only [Act.put, List.setIfInBounds_toArray, List.set_cons_zero, List.set_cons_succ]
              have HS7 := Lib.hid (show LC (w6.setCells m 2 [.slice ya yl yc]) R 0 o' ra j rc from by
                obtain ⟨q0, q1, q2, q3⟩ := HS.out
                have q : ∀ i, (w6.setCells m 2 [.slice ya yl yc]).cell? ⟨R, i, none⟩ = w6.cell? ⟨R, i, none⟩ := fun i => World.cell?_of_block (one_heap HRM.out)
                exact ⟨(q _).trans q0, (q _).trans q1, (q _).trans q2, (q _).trans q3⟩)
              obtain ⟨w9, hw9⟩ : ∃ w9, w9 = w6.setCells m 2 [.slice ya yl yc] := ⟨_, rfl⟩
              have HK := Lib.hid (show RDK F B m lv (A.sured (doF l o')) w9 from by rw [hw9]; exact HK9.out)
              have HM := Lib.hid (show MvR m lv lv w1 w9 from by rw [hw9]; exact HM9.out)
              rw [← hw9] at HS7 ⊢
              clear hw9
              refine ⟨HS7.out, ?_⟩
              refine wpAnyH_done (by kernel_rfl) ?_ _
              clear HS HS7 HTH HK6 HM6 HRF6 HL4 HK9 HM9 HR5 HRM HLL HOK3 HJC HF
              obtain ⟨_, _, _, sa, sn, sc, ⟨-, c1, c2, c3, c4, c5⟩, dz, -, -⟩ := HK.out.cells
              have z1 := dz 1
              have z3 := dz 3
              have z4 := dz 4
              have z5 := dz 5
              obtain ⟨kf, mf⟩ := HK.out.crashed c2
              have HKf := Lib.hid kf
              have HMf := Lib.hid (HM.out.trans mf)
              clear kf mf dz
              go_wp2_with fail
              go_end0
              exact ⟨rfl, _, by rw [HE2.out]; exact HKf.out, HMf.out⟩
        · have HE := Lib.hid (show A.crash keep part = ⟨A.room, -1, false, (A.loose.take k).foldl doF A.sure, (A.loose.take k).foldl doF A.sure, []⟩ by
            unfold Ad.crash
            rw [HEX.out, if_neg hk1])
          have hkz : ¬ ((o.kind : Int) = 1) := by omega
          obtain ⟨_, _, _, sa, sn, sc, ⟨-, c1, c2, -, c4, c5⟩, dz, -, -⟩ := HK.out.cells
          have z1 := dz 1
          have z3 := dz 3
          have z4 := dz 4
          have z5 := dz 5
          obtain ⟨kf, mf⟩ := HK.out.crashed c2
          have HKf := Lib.hid kf
          have HMf := Lib.hid (HM.out.trans mf)
          clear kf mf dz
          clear hk1 HEX HLC HRB HGO HGL HOK HGN HKK HK0 HF HLS
          go_wp2_with fail
          trace_state
          go_end0
          exact ⟨rfl, _, by rw [HE.out]; exact HKf.out, HMf.out⟩
end Go.Proofs.Ytcjlbonflecbkaa
