/-
  The table's put: changes done in memory.
-/
import Derived.Test.YtjjkfbebaoikbaaTbd
import Derived.Test.YtjjkfbebaoikbaaJoad
namespace Go.Proofs.Ytjjkfbebaoikbaa
open Go.RowKit Go.Maps
set_option linter.unusedVariables false
theorem tclone_c (s : ByteArray) (w : World) (hs : s.size ≤ 400) : Calls Try.prog 30 #[.string s] w fun e w' => e = .returned (.string s) ∧ Below w.heap.size w w' := by
  have H := Lib.hid (stringslite_Clone s w (by omega))
  go_enter Try.func30, Try.ntmps30
  go_wp2_with fail
  refine H.out.mono ?_
  rintro e1 w1 ⟨rfl, hb⟩
  have HB := Lib.hid hb
  clear hb H
  go_wp2_with fail
  go_ret
  exact ⟨rfl, HB.out⟩
theorem exec_delete {P : Program} {a : Act} {o : Oper} {w w' : World} {x y : Operand} {t s : TypeId} {v u r : Value} (ho : o.op = .call { callee := .builtin .delete, args := #[x, y], argTypes := #[t, s] }) (hx : a.eval x = v) (hy : a.eval y = u)
    (hr : (Builtin.delete_ #[t, s] o.type #[v, u]).run P w = .ok r w') : (execOp a.eval o).run P w = .ok (.value r) w' := by
  unfold execOp
  simp only [ho]
  rw [Sem.run_bind]
  unfold resolve
  simp only [Sem.run_pure, Result.andThen_ok, invoke, builtin, List.map_toArray, List.map_cons, List.map_nil, hx, hy]
  rw [Sem.run_bind, hr]
  rfl
theorem wp_mapUpdT {P : Program} {op : Oper} {a : Act} {w w' : World} {K : Act → World → Prop} {Q : Exit → Act → World → Prop} (t : TypeId) (m x v : Operand) (ho : op.op = .mapUpdate t m x v) (mv kv vv : Value) (hm : a.eval m = mv) (hx : a.eval x = kv) (hv : a.eval v = vv) (hrun : (Instr.mapUpdate t mv kv vv).run P w = .ok () w') (h : K (a.put op.dst undef) w') : op.wp P a w K Q := by
  unfold Oper.wp
  simp [execOp, ho, hm, hx, hv, hrun, Result.andThen]
  exact h
theorem run_cell_tm (W : World) (p : Addr) (m : Nat) (hc : W.cell? p = some (.map (some m))) : (Instr.loadAt 65 (.pointer (some p))).run Try.prog W = .ok (.map (some m)) W := by go_simp
/-- all old blocks but one stand -/
def Kb (w w' : World) (m : Nat) : Prop := w.heap.size ≤ w'.heap.size ∧ (∀ k, k < w.heap.size → k ≠ m → w'.heap[k]? = w.heap[k]?) ∧ ∀ B, B ≤ m → B ≤ w.heap.size → Below B w w'
theorem Kb.refl (w : World) (m : Nat) : Kb w w m := ⟨Nat.le_refl _, fun _ _ _ => rfl, fun B _ _ => Below.refl _ _⟩
theorem Kb.below {w w1 w2 : World} {m : Nat} (h : Kb w w1 m) (hb : Below w1.heap.size w1 w2) : Kb w w2 m := ⟨Nat.le_trans h.1 hb.size, fun k hk hn => (hb.block k (Nat.lt_of_lt_of_le hk h.1)).trans (h.2.1 k hk hn), fun B h1 h2 => (h.2.2 B h1 h2).trans (hb.mono (Nat.le_trans h2 h.1))⟩
theorem Kb.grown {w w1 w2 : World} {m : Nat} (h : Kb w w1 m) (hg : w1.grownBy w2 (some m)) : Kb w w2 m := ⟨Nat.le_trans h.1 hg.size, fun k hk hn => (hg.block k (Nat.lt_of_lt_of_le hk h.1) fun e => hn (by simpa using e)).trans (h.2.1 k hk hn), fun B h1 h2 => (h.2.2 B h1 h2).grown hg (Nat.le_trans h2 h.1) fun k hk => by cases hk; exact h1⟩
theorem Kb.cell {w w' : World} {m : Nat} (h : Kb w w' m) {p : Addr} (hp : p.block < w.heap.size) (hn : p.block ≠ m) : w'.cell? p = w.cell? p := World.cell?_of_block (h.2.1 p.block hp hn)
theorem cell_notmap {w : World} {m : Nat} {es : Array MapEntry} {cl : Nat} (hm : w.heap[m]? = some (.map es cl)) {p : Addr} {v : Value} (hc : w.cell? p = some v) : p.block ≠ m := by
  intro e
  subst e
  unfold World.cell? at hc
  simp [hm] at hc
theorem Kb.rd {w w' : World} {m : Nat} (h : Kb w w' m) {es : Array MapEntry} {cl : Nat} (hm : w.heap[m]? = some (.map es cl)) {a : Option Addr} {n : Nat} {zs : List Nat} (hr : Rd w a n zs) : Rd w' a n zs := by
  obtain ⟨h1, h2, h3⟩ := hr
  refine ⟨h1, h2, h3.imp id fun ⟨b, off, e, hb, hc⟩ => ⟨b, off, e, Nat.lt_of_lt_of_le hb h.1, fun i hi => ?_⟩⟩
  exact (h.cell (p := ⟨b, off + i, none⟩) hb (cell_notmap hm (hc i hi))).trans (hc i hi)
/-- changes done, plain -/
def applyC (f : ByteArray → Option (List Nat)) (c : Cg) : ByteArray → Option (List Nat) := if c.gone then fun t => if t = c.key then none else f t else fun t => if t = c.key then some c.val else f t
def applyL (f : ByteArray → Option (List Nat)) (L : List Cg) : ByteArray → Option (List Nat) := L.foldl applyC f
theorem applyL_snoc (f : ByteArray → Option (List Nat)) (L : List Cg) (k : Nat) (c : Cg) (hc : L[k]? = some c) : applyL f (L.take (k + 1)) = applyC (applyL f (L.take k)) c := by
  obtain ⟨h, rfl⟩ := List.getElem?_eq_some_iff.1 hc
  unfold applyL
  rw [List.take_succ_eq_append_getElem h, List.foldl_append]
  rfl
theorem TM.upto {B m n n' : Nat} {V : Nat → Prop} {w : World} {D : DU} {f : ByteArray → Option (List Nat)} (h : TM B V w m n D f) (hn : n ≤ n') : TM B V w m n' D f := ⟨h.bm, h.mp.mono hn, h.vs, h.ks⟩
/-- in the middle of put -/
def PutW (B : Nat) (V : Nat → Prop) (w : World) (m n0 : Nat) (f : ByteArray → Option (List Nat)) (L : List Cg) (k : Nat) (wr : World) : Prop := ∃ D, TM B (fun j => V j ∨ (w.heap.size ≤ j ∧ j < wr.heap.size)) wr m (n0 + k) D (applyL f (L.take k)) ∧ Kb w wr m
set_option maxRecDepth 100000 in
set_option maxHeartbeats 8000000 in
theorem put_c {B m n0 tb : Nat} {V : Nat → Prop} {D0 : DU} {f : ByteArray → Option (List Nat)} {jv : Value} {dn : Bool} {w : World} (h : TM B V w m n0 D0 f) (ht : w.heap[tb]? = some (.cells #[jv, .map (some m), .bool dn] 67 (0, 0))) (hB : B ≤ w.heap.size) (a : Option Addr) (len cap : Nat) (L : List Cg) (hl : CgIn w a len cap L) (hs : ∀ c ∈ L, soundC c.key c.vn = true) (hn : n0 + len < 1000000000) :
    Calls Try.prog 24 #[.pointer (some ⟨tb, 0, none⟩), .slice a len cap] w fun e w' => e = .returned (.tuple #[]) ∧ PutW B V w m n0 f L len w' := by
  obtain ⟨es0, cl0, hm0⟩ := tmap_block h.mp
  have HMB := Lib.hid hm0
  have htm : tb ≠ m := fun e => by rw [e, hm0] at ht; cases ht
  have htl : tb < w.heap.size := (Array.getElem?_eq_some_iff.1 ht).1
  have HT := Lib.hid (show w.cell? ⟨tb, 1, none⟩ = some (.map (some m)) from (cell_of_row w tb 1 _ _ _ ht).trans rfl)
  have HTM := Lib.hid (And.intro htm htl)
  have HP0 := Lib.hid (show PutW B V w m n0 f L 0 w from ⟨D0, by rw [List.take_zero]; exact h.moreV fun j hj => .inl hj, Kb.refl _ _⟩)
  obtain ⟨hll, hlc, hcm, hh, hcb⟩ := hl
  have HL := Lib.hid hll
  have HH := Lib.hid hh
  have HC := Lib.hid hcb
  have HSO := Lib.hid hs
  have HNN := Lib.hid hn
  have HBB := Lib.hid hB
  clear h ht hB hll hh hcb hs hn htm htl hm0
  go_enter Try.func24, Try.ntmps24
  go_wp2_with fail
  go_loopw [8] (fun i wr => ∃ k : Nat, k ≤ len ∧ i = .int .i64 k ∧ Hid (PutW B V w m n0 f L k wr)) (fun i _ => len - (intOf i).toNat)
  case atStart => exact ⟨0, Nat.zero_le _, rfl, HP0⟩
  case round =>
    clear HP0
    obtain ⟨k, hk, rfl, HP⟩ := hrel
    by_cases hkl : k < len
    · obtain ⟨c, hc⟩ : ∃ c, L[k]? = some c := ⟨_, List.getElem?_eq_getElem (by rw [HL.out]; exact hkl)⟩
      obtain ⟨b, off, rfl, hblt, hcells⟩ := HH.out.resolve_left (by omega)
      obtain ⟨d0, d1, d2⟩ := hcells k c hc
      have HLC := Lib.hid hc
      have HCB := Lib.hid (HC.out c (List.mem_of_getElem? hc))
      obtain ⟨hk1, hk2, hv1⟩ := sound_bounds (HSO.out c (List.mem_of_getElem? hc))
      obtain ⟨key, gone, va, vn, vc, val⟩ := c
      simp only at d0 d1 d2 hk1 hk2 hv1
      obtain ⟨D, hD, hkb⟩ := HP.out
      have c0 := (hkb.cell (p := ⟨b, off + k * 3, none⟩) hblt (cell_notmap HMB.out d0)).trans d0
      have c1 := (hkb.cell (p := ⟨b, off + k * 3 + 1, none⟩) hblt (cell_notmap HMB.out d1)).trans d1
      have c2 := (hkb.cell (p := ⟨b, off + k * 3 + 2, none⟩) hblt (cell_notmap HMB.out d2)).trans d2
      have hix := fun W => run_tchg_idx W b off len cap k hkl
      obtain ⟨w5, hw5⟩ : ∃ w5, w5 = wr.alloc (.cells #[.string key, .bool gone, .slice va vn vc] 51) := ⟨_, rfl⟩
      have hb5 : Below wr.heap.size wr w5 := by rw [hw5]; exact (Below.refl _ _).alloc (Nat.le_refl _) _
      obtain ⟨X, hX⟩ : ∃ X, X = wr.heap.size := ⟨_, rfl⟩
      have hbx : w5.heap[X]? = some (.cells #[.string key, .bool gone, .slice va vn vc] 51 (0, 0)) := by rw [hw5, hX]; exact heap_alloc_new wr _
      have hxl : X < w5.heap.size := (Array.getElem?_eq_some_iff.1 hbx).1
      have y0 : w5.cell? ⟨X, 0, none⟩ = some (.string key) := (cell_of_row w5 X 0 _ _ _ hbx).trans rfl
      have y1 : w5.cell? ⟨X, 1, none⟩ = some (.bool gone) := (cell_of_row w5 X 1 _ _ _ hbx).trans rfl
      have y2 : w5.cell? ⟨X, 2, none⟩ = some (.slice va vn vc) := (cell_of_row w5 X 2 _ _ _ hbx).trans rfl
      have HM5 := Lib.hid (hD.below hb5)
      have HW5 := Lib.hid hb5.size
      have HK5 := Lib.hid (hkb.below hb5)
      have hty : w5.cell? ⟨tb, 1, none⟩ = some (.map (some m)) := (HK5.out.cell (p := ⟨tb, 1, none⟩) HTM.out.2 HTM.out.1).trans HT.out
      have hmw : m < wr.heap.size := hD.mp.lt
      have HS5 := Lib.hid (show HasC [(⟨tb, 1, none⟩, .map (some m)), (⟨X, 0, none⟩, .string key), (⟨X, 2, none⟩, .slice va vn vc)] w5 from by
        intro p hp
        simp only [List.mem_cons, List.not_mem_nil, or_false] at hp
        rcases hp with rfl | rfl | rfl
        · exact hty
        · exact y0
        · exact y2)
      have HBL5 := Lib.hid (show ∀ p ∈ ([(⟨tb, 1, none⟩, .map (some m)), (⟨X, 0, none⟩, .string key), (⟨X, 2, none⟩, .slice va vn vc)] : List (Addr × Value)), p.1.block < w5.heap.size from by
        intro p hp
        simp only [List.mem_cons, List.not_mem_nil, or_false] at hp
        rcases hp with rfl | rfl | rfl
        · exact Nat.lt_of_lt_of_le HTM.out.2 HK5.out.1
        · exact hxl
        · exact hxl)
      have HNM := Lib.hid (show ∀ p ∈ ([(⟨tb, 1, none⟩, .map (some m)), (⟨X, 0, none⟩, .string key), (⟨X, 2, none⟩, .slice va vn vc)] : List (Addr × Value)), some p.1.block ≠ some m from by
        intro p hp
        simp only [List.mem_cons, List.not_mem_nil, or_false] at hp
        rcases hp with rfl | rfl | rfl
        · exact fun e => HTM.out.1 (by simpa using e)
        · exact fun e => by have e2 : X = m := by simpa using e
                            omega
        · exact fun e => by have e2 : X = m := by simpa using e
                            omega)
      have HKS := Lib.hid (show key.size ≤ maxLen from HCB.out.2.2)
      have HKL := Lib.hid (show key.size ≤ 400 from by omega)
      have HVN := Lib.hid (show vn ≤ 300000 from by omega)
      have HVR := Lib.hid (HK5.out.rd HMB.out HCB.out.1)
      have HVB := Lib.hid HCB.out.1.2.1
      clear hbx hxl hkb hD hb5 d0 d1 d2 hcells hc hk1 hk2 hv1 hty hmw
      cases gone with
      | true =>
        go_upto_region 3 with fail
        rw [← hX]
        rw [← hw5]
        clear hX hw5 c0 c1 c2 hix hblt
        go_upto_region 4 with fail
        clear y0 y1 y2
        · obtain ⟨W0, hW0⟩ : ∃ W0, W0 = World.drew w5 := ⟨_, rfl⟩
          have hb90 : Below w5.heap.size w5 W0 := by rw [hW0]; exact below_drewN' _ w5 1
          have HM0 := Lib.hid (HM5.out.below hb90)
          have HWR := Lib.hid (show wr.heap.size ≤ W0.heap.size from Nat.le_trans HW5.out hb90.size)
          have HK0 := Lib.hid (show Kb w W0 m from HK5.out.below hb90)
          have HS := Lib.hid (show HasC [(⟨tb, 1, none⟩, .map (some m)), (⟨X, 0, none⟩, .string key), (⟨X, 2, none⟩, .slice va vn vc)] W0 from HS5.out.below hb90 HBL5.out)
          have HBL := Lib.hid (show ∀ p ∈ ([(⟨tb, 1, none⟩, .map (some m)), (⟨X, 0, none⟩, .string key), (⟨X, 2, none⟩, .slice va vn vc)] : List (Addr × Value)), p.1.block < W0.heap.size from fun p hp => Nat.lt_of_lt_of_le (HBL5.out p hp) hb90.size)
          have HBW := Lib.hid (show B ≤ W0.heap.size from Nat.le_trans HBB.out (Nat.le_trans HK5.out.1 hb90.size))
          have HCK := Lib.hid (fun W (hW : Below W0.heap.size W0 W) => tclone_c key W HKL.out)
          have HCV := Lib.hid (fun W (hW : Below W0.heap.size W0 W) => bclone_c va vn vc val W ((HVR.out.below hb90).below hW) HCB.out.2.1 (by have := HVN.out; omega))
          have HL1 := Lib.hid (fun W (hW : HasC [(⟨tb, 1, none⟩, .map (some m)), (⟨X, 0, none⟩, .string key), (⟨X, 2, none⟩, .slice va vn vc)] W) => run_cell_tm W ⟨tb, 1, none⟩ m (hW (⟨tb, 1, none⟩, .map (some m)) (by simp)))
          have HL2 := Lib.hid (fun W (hW : HasC [(⟨tb, 1, none⟩, .map (some m)), (⟨X, 0, none⟩, .string key), (⟨X, 2, none⟩, .slice va vn vc)] W) => run_cell_s W ⟨X, 0, none⟩ key (hW (⟨X, 0, none⟩, .string key) (by simp)))
          have HL3 := Lib.hid (fun W (hW : HasC [(⟨tb, 1, none⟩, .map (some m)), (⟨X, 0, none⟩, .string key), (⟨X, 2, none⟩, .slice va vn vc)] W) => run_cell_sl W X 2 va vn vc (hW (⟨X, 2, none⟩, .slice va vn vc) (by simp)))
          clear hb90
          refine anyH_begin (S := HasC [(⟨tb, 1, none⟩, .map (some m)), (⟨X, 0, none⟩, .string key), (⟨X, 2, none⟩, .slice va vn vc)]) (by kernel_rfl) ?_
          rw [← hW0]
          clear hW0
          refine anyH_pureG 0 (d := 14) (op := .move (.tmp 0)) (gd := none) (.pointer (some ⟨tb, 0, none⟩)) (by rfl) (fun o ho => wanted_plain ho _) (by kernel_rfl) (by kernel_rfl) (by kernel_rfl) (fun _ _ _ h => h) (fun o ho W hW => by unfold execOp; simp only [ho]; go_simp) HS.out ?_
          simp only [Act.put, List.setIfInBounds_toArray, List.set_cons_zero, List.set_cons_succ]
          refine anyH_pureG 1 (d := 15) (op := .nilCheck (.tmp 14)) (gd := none) (.pointer (some ⟨tb, 0, none⟩)) (by rfl) (fun o ho => wanted_plain ho _) (by kernel_rfl) (by kernel_rfl) (by kernel_rfl) (fun _ _ _ h => h) (fun o ho W hW => by unfold execOp; simp only [ho]; go_simp) HS.out ?_
          simp only [Act.put, List.setIfInBounds_toArray, List.set_cons_zero, List.set_cons_succ]
          refine anyH_pureG 2 (d := 16) (op := .fieldAddr 67 (.tmp 15) 1) (gd := none) (.pointer (some ⟨tb, 1, none⟩)) (by rfl) (fun o ho => wanted_plain ho _) (by kernel_rfl) (by kernel_rfl) (by kernel_rfl) (fun _ _ _ h => h) (fun o ho W hW => by unfold execOp; simp only [ho]; go_simp) HS.out ?_
          simp only [Act.put, List.setIfInBounds_toArray, List.set_cons_zero, List.set_cons_succ]
          refine anyH_loadG 3 (d := 17) (ty := 65) (x := (.tmp 16)) (gd := none) (p := .pointer (some ⟨tb, 1, none⟩)) (.map (some m)) (by rfl) (fun o ho => wanted_plain ho _) (by kernel_rfl) (by kernel_rfl) (by kernel_rfl) (fun _ _ _ h => h) (by rfl) HL1.out HS.out ?_
          simp only [Act.put, List.setIfInBounds_toArray, List.set_cons_zero, List.set_cons_succ]
          refine anyH_pureG 4 (d := 18) (op := .fieldAddr 51 (.tmp 5) 0) (gd := none) (.pointer (some ⟨X, 0, none⟩)) (by rfl) (fun o ho => wanted_plain ho _) (by kernel_rfl) (by kernel_rfl) (by kernel_rfl) (fun _ _ _ h => h) (fun o ho W hW => by unfold execOp; simp only [ho]; go_simp) HS.out ?_
          simp only [Act.put, List.setIfInBounds_toArray, List.set_cons_zero, List.set_cons_succ]
          refine anyH_loadG 5 (d := 19) (ty := 9) (x := (.tmp 18)) (gd := none) (p := .pointer (some ⟨X, 0, none⟩)) (.string key) (by rfl) (fun o ho => wanted_plain ho _) (by kernel_rfl) (by kernel_rfl) (by kernel_rfl) (fun _ _ _ h => h) (by rfl) HL2.out HS.out ?_
          simp only [Act.put, List.setIfInBounds_toArray, List.set_cons_zero, List.set_cons_succ]
          have HSZ := Lib.hid (show wr.heap.size ≤ W0.heap.size from HWR.out)
          obtain ⟨w7, D7, hrun, hm7, hg7⟩ := HM0.out.del (s := key) HKS.out 0
          have HRUN := Lib.hid hrun
          have HM7 := Lib.hid hm7
          have HG7 := Lib.hid hg7
          have HS7 := Lib.hid (show HasC [(⟨tb, 1, none⟩, .map (some m)), (⟨X, 0, none⟩, .string key), (⟨X, 2, none⟩, .slice va vn vc)] w7 from fun p hp => (World.cell?_of_block (HG7.out.block p.1.block (HBL.out p hp) (HNM.out p hp))).trans (HS.out p hp))
          clear hrun hm7 hg7
          refine anyH_runG 6 (d := none) (op := .call { callee := .builtin .delete, args := #[(.tmp 17), (.tmp 19)], argTypes := #[65, 9] }) (v := .tuple #[]) (w' := w7) (by kernel_rfl) (by rfl) (fun o ho => exec_delete ho (by rfl) (by rfl) (show (Builtin.delete_ #[65, 9] o.type #[.map (some m), .string key]).run Try.prog W0 = .ok (.tuple #[]) w7 from HRUN.out)) HS7.out ?_
          simp only [Act.put, List.setIfInBounds_toArray, List.set_cons_zero, List.set_cons_succ]
          refine wpAnyH_done (by kernel_rfl) ?_ _
          have HPN := Lib.hid (show PutW B V w m n0 f L (k + 1) w7 from ⟨D7, by
            have := HM7.out
            rw [applyL_snoc f L k _ HLC.out]
            exact (this.upto (by omega)).moreV fun j hj => by
              rcases hj with hj | hj
              · exact .inl hj
              · exact .inr ⟨hj.1, by have h1 := hj.2; have h2 := HG7.out.size; have h3 := HSZ.out; omega⟩, HK0.out.grown HG7.out⟩)
          clear HL1 HL2 HL3 HS HCK HCV HRUN HS7
          go_wp2_with fail
          go_roundw
          case rel => exact ⟨k + 1, by omega, by go_num, HPN⟩
          case measure => simp [intOf]; omega
      | false =>
        go_upto_region 3 with fail
        rw [← hX]
        rw [← hw5]
        clear hX hw5 c0 c1 c2 hix hblt
        go_upto_region 5 with fail
        clear y0 y1 y2
        · obtain ⟨W0, hW0⟩ : ∃ W0, W0 = World.drew w5 := ⟨_, rfl⟩
          have hb90 : Below w5.heap.size w5 W0 := by rw [hW0]; exact below_drewN' _ w5 1
          have HM0 := Lib.hid (HM5.out.below hb90)
          have HWR := Lib.hid (show wr.heap.size ≤ W0.heap.size from Nat.le_trans HW5.out hb90.size)
          have HK0 := Lib.hid (show Kb w W0 m from HK5.out.below hb90)
          have HS := Lib.hid (show HasC [(⟨tb, 1, none⟩, .map (some m)), (⟨X, 0, none⟩, .string key), (⟨X, 2, none⟩, .slice va vn vc)] W0 from HS5.out.below hb90 HBL5.out)
          have HBL := Lib.hid (show ∀ p ∈ ([(⟨tb, 1, none⟩, .map (some m)), (⟨X, 0, none⟩, .string key), (⟨X, 2, none⟩, .slice va vn vc)] : List (Addr × Value)), p.1.block < W0.heap.size from fun p hp => Nat.lt_of_lt_of_le (HBL5.out p hp) hb90.size)
          have HBW := Lib.hid (show B ≤ W0.heap.size from Nat.le_trans HBB.out (Nat.le_trans HK5.out.1 hb90.size))
          have HCK := Lib.hid (fun W (hW : Below W0.heap.size W0 W) => tclone_c key W HKL.out)
          have HCV := Lib.hid (fun W (hW : Below W0.heap.size W0 W) => bclone_c va vn vc val W ((HVR.out.below hb90).below hW) HCB.out.2.1 (by have := HVN.out; omega))
          have HL1 := Lib.hid (fun W (hW : HasC [(⟨tb, 1, none⟩, .map (some m)), (⟨X, 0, none⟩, .string key), (⟨X, 2, none⟩, .slice va vn vc)] W) => run_cell_tm W ⟨tb, 1, none⟩ m (hW (⟨tb, 1, none⟩, .map (some m)) (by simp)))
          have HL2 := Lib.hid (fun W (hW : HasC [(⟨tb, 1, none⟩, .map (some m)), (⟨X, 0, none⟩, .string key), (⟨X, 2, none⟩, .slice va vn vc)] W) => run_cell_s W ⟨X, 0, none⟩ key (hW (⟨X, 0, none⟩, .string key) (by simp)))
          have HL3 := Lib.hid (fun W (hW : HasC [(⟨tb, 1, none⟩, .map (some m)), (⟨X, 0, none⟩, .string key), (⟨X, 2, none⟩, .slice va vn vc)] W) => run_cell_sl W X 2 va vn vc (hW (⟨X, 2, none⟩, .slice va vn vc) (by simp)))
          clear hb90
          refine anyH_begin (S := HasC [(⟨tb, 1, none⟩, .map (some m)), (⟨X, 0, none⟩, .string key), (⟨X, 2, none⟩, .slice va vn vc)]) (by kernel_rfl) ?_
          rw [← hW0]
          clear hW0
          refine anyH_pureG 0 (d := 20) (op := .move (.tmp 0)) (gd := none) (.pointer (some ⟨tb, 0, none⟩)) (by rfl) (fun o ho => wanted_plain ho _) (by kernel_rfl) (by kernel_rfl) (by kernel_rfl) (fun _ _ _ h => h) (fun o ho W hW => by unfold execOp; simp only [ho]; go_simp) HS.out ?_
          simp only [Act.put, List.setIfInBounds_toArray, List.set_cons_zero, List.set_cons_succ]
          refine anyH_pureG 1 (d := 21) (op := .nilCheck (.tmp 20)) (gd := none) (.pointer (some ⟨tb, 0, none⟩)) (by rfl) (fun o ho => wanted_plain ho _) (by kernel_rfl) (by kernel_rfl) (by kernel_rfl) (fun _ _ _ h => h) (fun o ho W hW => by unfold execOp; simp only [ho]; go_simp) HS.out ?_
          simp only [Act.put, List.setIfInBounds_toArray, List.set_cons_zero, List.set_cons_succ]
          refine anyH_pureG 2 (d := 22) (op := .fieldAddr 67 (.tmp 21) 1) (gd := none) (.pointer (some ⟨tb, 1, none⟩)) (by rfl) (fun o ho => wanted_plain ho _) (by kernel_rfl) (by kernel_rfl) (by kernel_rfl) (fun _ _ _ h => h) (fun o ho W hW => by unfold execOp; simp only [ho]; go_simp) HS.out ?_
          simp only [Act.put, List.setIfInBounds_toArray, List.set_cons_zero, List.set_cons_succ]
          refine anyH_loadG 3 (d := 23) (ty := 65) (x := (.tmp 22)) (gd := none) (p := .pointer (some ⟨tb, 1, none⟩)) (.map (some m)) (by rfl) (fun o ho => wanted_plain ho _) (by kernel_rfl) (by kernel_rfl) (by kernel_rfl) (fun _ _ _ h => h) (by rfl) HL1.out HS.out ?_
          simp only [Act.put, List.setIfInBounds_toArray, List.set_cons_zero, List.set_cons_succ]
          refine anyH_pureG 4 (d := 24) (op := .fieldAddr 51 (.tmp 5) 0) (gd := none) (.pointer (some ⟨X, 0, none⟩)) (by rfl) (fun o ho => wanted_plain ho _) (by kernel_rfl) (by kernel_rfl) (by kernel_rfl) (fun _ _ _ h => h) (fun o ho W hW => by unfold execOp; simp only [ho]; go_simp) HS.out ?_
          simp only [Act.put, List.setIfInBounds_toArray, List.set_cons_zero, List.set_cons_succ]
          refine anyH_loadG 5 (d := 25) (ty := 9) (x := (.tmp 24)) (gd := none) (p := .pointer (some ⟨X, 0, none⟩)) (.string key) (by rfl) (fun o ho => wanted_plain ho _) (by kernel_rfl) (by kernel_rfl) (by kernel_rfl) (fun _ _ _ h => h) (by rfl) HL2.out HS.out ?_
          simp only [Act.put, List.setIfInBounds_toArray, List.set_cons_zero, List.set_cons_succ]
          refine anyH_pureG 7 (d := 27) (op := .fieldAddr 51 (.tmp 5) 2) (gd := none) (.pointer (some ⟨X, 2, none⟩)) (by rfl) (fun o ho => wanted_plain ho _) (by kernel_rfl) (by kernel_rfl) (by kernel_rfl) (fun _ _ _ h => h) (fun o ho W hW => by unfold execOp; simp only [ho]; go_simp) HS.out ?_
          simp only [Act.put, List.setIfInBounds_toArray, List.set_cons_zero, List.set_cons_succ]
          refine anyH_loadG 8 (d := 28) (ty := 41) (x := (.tmp 27)) (gd := none) (p := .pointer (some ⟨X, 2, none⟩)) (.slice va vn vc) (by rfl) (fun o ho => wanted_plain ho _) (by kernel_rfl) (by kernel_rfl) (by kernel_rfl) (fun _ _ _ h => h) (by rfl) HL3.out HS.out ?_
          simp only [Act.put, List.setIfInBounds_toArray, List.set_cons_zero, List.set_cons_succ]
          refine anyH_callG 6 (d := some 26) (f := 30) (xs := #[(.tmp 25)]) (ts := #[9]) (gd := none) (vs := #[.string key]) (by kernel_rfl) (by rfl) (fun o ho => wanted_plain ho _) (by go_simp) (by go_simp) (HCK.out W0 (Below.refl _ _)) ?_
          rintro e8 w8 ⟨rfl, hb8⟩
          have HS8 := Lib.hid (show HasC [(⟨tb, 1, none⟩, .map (some m)), (⟨X, 0, none⟩, .string key), (⟨X, 2, none⟩, .slice va vn vc)] w8 from HS.out.below hb8 HBL.out)
          have HB8 := Lib.hid hb8
          clear hb8
          refine ⟨_, rfl, HS8.out, fun hS => ?_⟩
          clear hS
          simp only [Act.put, List.setIfInBounds_toArray, List.set_cons_zero, List.set_cons_succ]
          refine anyH_callG 9 (d := some 29) (f := 33) (xs := #[(.tmp 28)]) (ts := #[41]) (gd := none) (vs := #[.slice va vn vc]) (by kernel_rfl) (by rfl) (fun o ho => wanted_plain ho _) (by go_simp) (by go_simp) (HCV.out w8 HB8.out) ?_
          rintro e9 w9 ⟨v9, rfl, ho9, hb9⟩
          have HS9 := Lib.hid (show HasC [(⟨tb, 1, none⟩, .map (some m)), (⟨X, 0, none⟩, .string key), (⟨X, 2, none⟩, .slice va vn vc)] w9 from HS8.out.below hb9 fun p hp => Nat.lt_of_lt_of_le (HBL.out p hp) HB8.out.size)
          have HB9 := Lib.hid (HB8.out.trans (hb9.mono HB8.out.size))
          have HN9 := Lib.hid (show ∀ j, v9.ownBlock = some j → W0.heap.size ≤ j ∧ j < w9.heap.size from fun j e => ⟨Nat.le_trans HB8.out.size (World.ownsRow.lt ho9 j e).1, (World.ownsRow.lt ho9 j e).2⟩)
          have HO9 := Lib.hid (own_mono ho9 (Nat.le_trans HBW.out HB8.out.size))
          clear hb9 ho9
          refine ⟨_, rfl, HS9.out, fun hS => ?_⟩
          clear hS
          simp only [Act.put, List.setIfInBounds_toArray, List.set_cons_zero, List.set_cons_succ]
          have HSZ := Lib.hid (show w9.heap.size ≤ w9.heap.size from Nat.le_refl _)
          obtain ⟨w7, D7, hrun, hm7, hg7⟩ := ((HM0.out.below HB9.out).moreV (V' := fun j => V j ∨ (w.heap.size ≤ j ∧ j < w9.heap.size)) fun j hj => hj.imp id fun e => ⟨e.1, by have h1 := e.2; have h2 := HWR.out; have h3 := HB9.out.size; omega⟩).put (s := key) HKS.out (by have := HNN.out; unfold maxLen; omega) HO9.out HVB.out (fun j e => .inr ⟨by have h1 := (HN9.out j e).1; have h2 := HK0.out.1; omega, (HN9.out j e).2⟩)
          have HRUN := Lib.hid hrun
          have HM7 := Lib.hid hm7
          have HG7 := Lib.hid hg7
          have HS7 := Lib.hid (show HasC [(⟨tb, 1, none⟩, .map (some m)), (⟨X, 0, none⟩, .string key), (⟨X, 2, none⟩, .slice va vn vc)] w7 from fun p hp => (World.cell?_of_block (HG7.out.block p.1.block (Nat.lt_of_lt_of_le (HBL.out p hp) HB9.out.size) (HNM.out p hp))).trans (HS9.out p hp))
          clear hrun hm7 hg7
          refine anyH_oneT 10 (d1 := none) (op1 := .mapUpdate 65 (.tmp 23) (.tmp 26) (.tmp 29)) (by kernel_rfl) (by rfl) ?_
          intro o hod hoo
          refine wp_mapUpdT 65 (.tmp 23) (.tmp 26) (.tmp 29) hoo (.map (some m)) (.string key) v9 (by rfl) (by rfl) (by rfl) HRUN.out ?_
          rw [hod]
          simp only [Act.put, List.setIfInBounds_toArray, List.set_cons_zero, List.set_cons_succ]
          refine ⟨HS7.out, ?_⟩
          --nosimp
          refine wpAnyH_done (by kernel_rfl) ?_ _
          have HPN := Lib.hid (show PutW B V w m n0 f L (k + 1) w7 from ⟨D7, by
            have := HM7.out
            rw [applyL_snoc f L k _ HLC.out]
            exact (this.upto (by omega)).moreV fun j hj => by
              rcases hj with hj | hj
              · exact .inl hj
              · exact .inr ⟨hj.1, by have h1 := hj.2; have h2 := HG7.out.size; have h3 := HSZ.out; omega⟩, (HK0.out.below HB9.out).grown HG7.out⟩)
          clear HL1 HL2 HL3 HS HCK HCV HRUN HS7
          go_wp2_with fail
          go_roundw
          case rel => exact ⟨k + 1, by omega, by go_num, HPN⟩
          case measure => simp [intOf]; omega
    · have hkr : k = len := by omega
      subst hkr
      go_wp2_with fail
      go_end0
      exact ⟨rfl, HP.out⟩
end Go.Proofs.Ytjjkfbebaoikbaa
