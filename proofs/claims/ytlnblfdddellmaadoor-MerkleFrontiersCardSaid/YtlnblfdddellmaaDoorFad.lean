/-
  The walk over Add of a frontier.
-/
import Derived.Test.YtlnblfdddellmaaDoorFro
import Derived.Test.YtlnblfdddellmaaDoorAnw
namespace Go.Proofs.YtlnblfdddellmaaDoor
open Go.RowKit
set_option linter.unusedVariables false
/-- while a leaf is added -/
def FA (w : World) (g n B g5 : Nat) (v : Value) (top : List Nat) (ds : Ds) (W : World) : Prop := FR W g n v ∧ OwnD W B 32 v ds ∧ Brow W g5 32 top ∧ Kp g B w W ∧ ∀ k, v.ownBlock = some k → k < w.heap.size
theorem FA.step {w W W' : World} {g n B g5 : Nat} {v : Value} {top : List Nat} {ds : Ds} (h : FA w g n B g5 v top ds W) (hB : B ≤ w.heap.size) (hb : Below W.heap.size W W') : FA w g n B g5 v top ds W' := ⟨h.1.below hb h.1.lt, h.2.1.below hb (Nat.le_refl _), h.2.2.1.below hb h.2.2.1.lt, h.2.2.2.1.trans (Kp.of hb (Nat.le_trans hB h.2.2.2.1.size)), h.2.2.2.2⟩
theorem FA.drew {w W : World} {g n B g5 : Nat} {v : Value} {top : List Nat} {ds : Ds} (h : FA w g n B g5 v top ds W) : FA w g n B g5 v top ds W.drew := ⟨h.1.drew, h.2.1, h.2.2.1.drew, ⟨h.2.2.2.1.os, h.2.2.2.1.tape, h.2.2.2.1.output, h.2.2.2.1.size, h.2.2.2.1.block⟩, h.2.2.2.2⟩
theorem tab_kp {g B : Nat} {w W : World} (ht : Tab w) (hk : Kp g B w W) (hB : 0 < B) (hg : 0 < g) : Tab W := fun i hi => (World.cell?_of_block (w := w) (a := ⟨0, i, none⟩) (hk.block 0 hB (by omega))).trans (ht i hi)
theorem FR.stops {g n : Nat} {W : World} {v : Value} (h : FR W g n v) (a : Option Addr) (l c : Nat) : (Instr.storeAt 28 (.pointer (some ⟨g, 1, none⟩)) (.slice a l c)).run Tryd.prog W = .ok () (W.setCell ⟨g, 1, none⟩ (.slice a l c)) := by
  have hc := h.topsc
  have hf := h.froz 1
  go_simp
theorem wp_store_run {P : Program} {o : Oper} {a : Act} {w w' : World} {K : Act → World → Prop} {Q : Exit → Act → World → Prop} (ty : TypeId) (x y : Operand) (ho : o.op = .store ty x y) (p v : Value) (hx : a.eval x = p) (hy : a.eval y = v)
    (hrun : (Instr.storeAt ty p v).run P w = .ok () w') (h : K (a.put o.dst undef) w') : o.wp P a w K Q := by
  unfold Oper.wp execOp
  simp only [ho, hx, hy, Sem.run_bind, hrun, Result.andThen_ok, Sem.run_pure]
  exact h
theorem wp_load_run {P : Program} {o : Oper} {a : Act} {w : World} {K : Act → World → Prop} {Q : Exit → Act → World → Prop} (ty : TypeId) (x : Operand) (ho : o.op = .load ty x) (p v : Value) (hx : a.eval x = p)
    (hrun : (Instr.loadAt ty p).run P w = .ok v w) (h : K (a.put o.dst v) w) : o.wp P a w K Q := by
  unfold Oper.wp execOp
  simp only [ho, hx, Sem.run_bind, hrun, Result.andThen_ok, Sem.run_pure]
  exact h
def FB (w : World) (g n B : Nat) (v : Value) (W : World) : Prop := FR W g n v ∧ Kp g B w W
theorem wp_dpush2 {T E : TypeId} (hT : DT T E) {w : World} {o : Oper} {a : Act} {K : Act → World → Prop} {Q : Exit → Act → World → Prop} (s x : Operand)
    (ho : o.op = .call { callee := .builtin .append, args := #[s, x], argTypes := #[T, T] })
    (B : Nat) (v : Value) (ds : Ds) (d : List Nat) (hd : D32 d) (hs : a.eval s = v) (hown : OwnD w B E v ds) (hB : B ≤ w.heap.size) (hx : a.eval x = .slice (some ⟨w.heap.size, 0, none⟩) 1 1)
    (hlen : ds.length + 1 ≤ 4398046511104)
    (h : ∀ v' w', OwnD w' B E v' (ds ++ [d]) → Below B w w' → (∀ k, k < w.heap.size → v.ownBlock ≠ some k → w'.heap[k]? = w.heap[k]?) → K (a.put o.dst v') w') :
    o.wp Tryd.prog a (w.alloc (.cells (cellsOf d).toArray E)) K Q := by
  obtain ⟨i0, z, hi, hz0, hz1, hz2, hz3⟩ := hT.info
  refine wp_append_own _ s x T ho B E i0 z 32 32 hT.und hi hz0 hz1 hz2 hz3 (by decide) v ds.length (cellsOf ds.flatten) hs (hown.alloc _) ⟨w.heap.size, 0, none⟩ 1 1 (cellsOf d) hx (by rw [cellsOf_length, hd.1]) ?_ (cellsOf_one _) (by unfold maxLen; omega) (by omega) (by simp; omega) ?_
  · intro j u hj
    rw [Addr.add_mid, Nat.zero_add, cell_of_row _ _ _ _ _ _ (heap_new _ _)]
    simpa using hj
  · intro v' w' h1 h2 _
    refine h v' w' ?_ ?_ ?_
    · have e : (ds ++ [d]).length = ds.length + 1 := by simp
      unfold OwnD
      rw [e, List.flatten_append, List.flatten_cons, List.flatten_nil, List.append_nil, cellsOf_append]
      exact h1
    · exact ((Below.refl B w).alloc hB _).grown h2 (by simp; omega) fun k hk => (hown.block k hk).1
    · exact fun k hk hne => (h2.block k (by simp; omega) (fun e => hne e.symm)).trans (Below.heap_alloc _ _ _ hk)
theorem exec_dindex {T E : TypeId} (hT : DT T E) {x y : Operand} (b o' len cap k : Nat) (hk : k < len) (a : Act) (hx : a.eval x = .slice (some ⟨b, o', none⟩) len cap) (hy : a.eval y = .int .i64 (k : Int)) (o : Oper) (ho : o.op = .indexAddr T x y) (W : World) :
    (execOp a.eval o).run Tryd.prog W = .ok (.value (.pointer (some ⟨b, o' + k * 32, none⟩))) W := by
  unfold execOp
  simp only [ho, hx, hy, run_dindex hT W b _ len cap k hk, Sem.run_bind, Result.andThen_ok, Sem.run_pure]
theorem andi1 (q : Nat) (h : q ≤ 9223372036854775807) : bits .and .i64 (q : Int) 1 = ((q % 2 : Nat) : Int) := by
  show IntKind.i64.wrap ((BitVec.ofInt 64 (q : Int) &&& BitVec.ofInt 64 1).toNat : Int) = _
  have h1 : (BitVec.ofInt 64 (q : Int) &&& BitVec.ofInt 64 1).toNat = (BitVec.ofInt 64 (q : Int)).toNat % 2 := by
    rw [BitVec.toNat_and, show (BitVec.ofInt 64 1).toNat = 2 ^ 1 - 1 by rfl, Nat.and_two_pow_sub_one_eq_mod]
  have h2 : ((BitVec.ofInt 64 (q : Int)).toNat : Int) % 2 = (q : Int) % 2 := by
    rw [BitVec.toNat_ofInt]
    omega
  rw [h1]
  have : IntKind.i64.wrap (((BitVec.ofInt 64 (q : Int)).toNat % 2 : Nat) : Int) = (((BitVec.ofInt 64 (q : Int)).toNat % 2 : Nat) : Int) := by
    simp [IntKind.wrap, IntKind.bits, IntKind.signed]
    omega
  rw [this]
  omega
theorem OwnD.only {g B : Nat} {w w' : World} {E : TypeId} {v : Value} {ds : Ds} (h : OwnD w B E v ds) (ho : Only g w w') (hg : ∀ k, v.ownBlock = some k → k ≠ g) : OwnD w' B E v ds := by
  refine ⟨h.1, ?_⟩
  rcases h.2 with h0 | ⟨b, cap, cur, h1, h2, h3, h4⟩
  · exact .inl h0
  · exact .inr ⟨b, cap, cur, h1, h2, (ho.block b (Array.getElem?_eq_some_iff.1 h3).1 (hg b (by rw [h1]; rfl))).trans h3, h4⟩
set_option maxRecDepth 100000 in
set_option maxHeartbeats 8000000 in
theorem fadd_c (g n B : Nat) (v0 : Value) (ds0 : Ds) (leaf : List Nat) (w : World) (hF : FR w g n v0) (hO : OwnD w B 32 v0 ds0) (hgB : g < B) (hB : B ≤ w.heap.size) (hlf : D32 leaf) (hd : ∀ d ∈ ds0, D32 d) (hlen : ds0.length = ones n) (hn : n < 2 ^ 62) (ht : Tab w) (hg0 : 0 < g) :
    Calls Tryd.prog 17 #[.pointer (some ⟨g, 0, none⟩), .agg (cellsOf leaf).toArray] w fun e w' => e = .returned (.int .i64 0) ∧ ∃ v', FR w' g (n + 1) v' ∧ OwnD w' B 32 v' (carryS 62 n ds0 leaf) ∧ Kp g B w w' := by
  have hn62 : n < 4611686018427387904 := by simpa using hn
  obtain ⟨R, hR⟩ : ∃ R, R = carryS 62 n ds0 leaf := ⟨_, rfl⟩
  rw [← hR]
  have HTAB := Lib.hid (show ∀ W, Kp g B w W → Tab W from fun W hW => tab_kp ht hW (by omega) hg0)
  have HLF := Lib.hid hlf
  have HRD := Lib.hid (show ∀ d ∈ R, D32 d from by rw [hR]; exact carry_d32 62 n ds0 leaf hd hlf)
  have HIL := Lib.hid (info32 dtA hlf)
  have HZL := Lib.hid (zsize hlf)
  have HSTART := Lib.hid (show carryS 62 n ds0 leaf = R ∧ ds0.length = ones n ∧ (∀ d ∈ ds0, D32 d) ∧ n < 2 ^ 62 from ⟨hR.symm, hlen, hd, hn⟩)
  have HF0 := Lib.hid hF
  have HO0 := Lib.hid hO
  have HOB := Lib.hid (show ∀ k, v0.ownBlock = some k → k < w.heap.size from fun k hk => (OwnD.block hO k hk).2)
  have hglt := hF.lt
  have hc0 := hF.sizec
  clear hR hlf hd hn hlen hF hO ht
  go_enter Tryd.func17, Tryd.ntmps17
  go_upto_region 1 with fail
  refine gen_code (F := fun W => FR W g n v0 ∧ OwnD W B 32 v0 ds0 ∧ Brow W w.heap.size 32 leaf ∧ Kp g B w W) ⟨HF0.out.below ((Below.refl _ _).alloc (Nat.le_refl _) _) hglt, OwnD.below HO0.out ((Below.refl _ _).alloc (Nat.le_refl _) _) (Nat.le_refl _), heap_new _ _, Kp.of ((Below.refl _ _).alloc (Nat.le_refl _) _) hB⟩ ?_
  rintro wA ⟨hF, hO, hL, hK⟩
  have HF := Lib.hid hF
  have HO := Lib.hid hO
  have HL := Lib.hid hL
  have HK := Lib.hid hK
  have hcA := hF.sizec
  have q1 : ¬ (n : Int) = 9223372036854775807 := by omega
  clear hc0 hF hO hL hK HF0 HO0
  go_upto_region 6 with (first | (refine wpList_load_row (by rfl) 32 _ (by rfl) w.heap.size (by rfl) _ (cellsOf leaf).toArray (0, 0) _ HL.out Tryd.underlying32 (by rfl) HIL.out ?_) | (refine wpList_store_row (by rfl) 32 _ _ (by rfl) wA.heap.size (cellsOf leaf).toArray (by rfl) (by rfl) 32 (cellsOf zs32).toArray (by exact heap_new _ _) HIL.out HZL.out (cellsOf_all _) ?_))
  obtain ⟨g5, hg5⟩ : ∃ g5, g5 = wA.heap.size := ⟨_, rfl⟩
  have hg5B : B ≤ g5 := by have := HK.out.size; omega
  have hg5w : w.heap.size ≤ g5 := by have := HK.out.size; omega
  have hgg5 : g ≠ g5 := by have := HF.out.lt; omega
  refine gen_code (F := FA w g n B g5 v0 leaf ds0) (by
    rw [hg5]
    have hb : Below wA.heap.size wA ((wA.alloc (.cells (cellsOf zs32).toArray 32 (0, 0))).setRow wA.heap.size (cellsOf leaf).toArray) := ((Below.refl _ _).alloc (Nat.le_refl _) _).setRow (Nat.le_refl _) _
    exact ⟨HF.out.below hb HF.out.lt, OwnD.below HO.out hb (Nat.le_refl _), (Brow.new wA 32 zs32).setRow, HK.out.trans (Kp.of hb (by have := HK.out.size; omega)), HOB.out⟩) ?_
  rw [← hg5]
  intro wB hs
  have HS0 := Lib.hid hs
  have hcB := hs.1.sizec
  clear hs HF HO HL HK hcA hg5 HIL HZL
  go_wp2_with fail
  clear hcB
  go_loopw [6] (fun qv wr => ∃ (f q : Nat) (top : List Nat) (v : Value) (ds : Ds), qv = .int .i64 q ∧ f ≤ 62 ∧ q < 4611686018427387904 ∧ Hid (FA w g n B g5 v top ds wr) ∧ Hid (carryS f q ds top = R ∧ ds.length = ones q ∧ (∀ d ∈ ds, D32 d) ∧ q < 2 ^ f ∧ D32 top)) (fun qv _ => (intOf qv).toNat)
  case atStart => exact ⟨62, n, leaf, v0, ds0, rfl, by omega, hn62, HS0, Lib.hid ⟨HSTART.out.1, HSTART.out.2.1, HSTART.out.2.2.1, HSTART.out.2.2.2, HLF.out⟩⟩
  case round =>
    clear HS0
    obtain ⟨f, q, top, v, ds, rfl, hf62, hq62, HS, HI⟩ := hrel
    have s1 := andi1 q (by omega)
    have HTD := Lib.hid HI.out.2.2.2.2
    have HTI := Lib.hid (info32 dtA HTD.out)
    by_cases hodd : q % 2 = 1
    · rw [hodd] at s1
      have hL1 : ds.length = ones (q / 2) + 1 := by rw [HI.out.2.1, ones_odd hodd]
      obtain ⟨L, hL⟩ : ∃ L, L = ones (q / 2) := ⟨_, rfl⟩
      rw [← hL] at hL1
      have HLL := Lib.hid hL
      obtain ⟨a, n1, c, hv, hn1, hnc, hcm, _, hr⟩ := OwnD.form HS.out.2.1 HI.out.2.2.1
      obtain rfl : n1 = L + 1 := by omega
      obtain ⟨gb, go, hab, _, _⟩ := hr.at L (by omega)
      subst hab
      have hgo : go = 0 ∧ B ≤ gb ∧ gb < wr.heap.size := by
        have h := HS.out.2.1
        rw [hv] at h
        rcases h.2 with ⟨he, _⟩ | ⟨g', cap, cur, he, hbg, hg', _⟩
        · cases he
        · simp only [Value.slice.injEq, Option.some.injEq, Addr.mk.injEq] at he
          obtain ⟨⟨e1, e2, _⟩, _⟩ := he
          subst e1
          exact ⟨e2, hbg, (Array.getElem?_eq_some_iff.1 hg').1⟩
      obtain ⟨rfl, hgbB, hgbl⟩ := hgo
      obtain ⟨s, hs⟩ : ∃ s, s = ds.getD L [] := ⟨_, rfl⟩
      have HSD := Lib.hid (show D32 s from by rw [hs]; exact D32.get HI.out.2.2.1 L (by omega))
      obtain ⟨f', rfl⟩ : ∃ f', f = f' + 1 := ⟨f - 1, by
        have := HI.out.2.2.2.1
        cases f with
        | zero => simp at this; omega
        | succ f => rfl⟩
      obtain ⟨N, hN⟩ : ∃ N, N = nodeS s top := ⟨_, rfl⟩
      have HND := Lib.hid (show D32 N from by rw [hN]; exact d32_sum _)
      have HNEXT := Lib.hid (show carryS f' (q / 2) (ds.take L) N = R ∧ (ds.take L).length = ones (q / 2) ∧ (∀ d ∈ ds.take L, D32 d) ∧ q / 2 < 2 ^ f' ∧ D32 N from by
        obtain ⟨e1, e2, e3, e4, e5⟩ := HI.out
        rw [carryS, if_pos hodd, hL1, Nat.add_sub_cancel, ← hs, ← hN] at e1
        refine ⟨e1, by rw [List.length_take, hL1, ← hL]; omega, d32_take e3 L, by rw [Nat.pow_succ] at e4; omega, HND.out⟩)
      have HNODE := Lib.hid (show ∀ W, Kp g B w W → Calls Tryd.prog 33 #[.agg (cellsOf s).toArray, .agg (cellsOf top).toArray] W (DigRet N W) from fun W hW => by rw [hN]; exact node_c s top W HSD.out HTD.out (HTAB.out W hW))
      have HDS := Lib.hid HI.out.2.2.1
      have HNI := Lib.hid (info32 dtA HND.out)
      have HSS := Lib.hid hs
      have hv' := hv
      subst hv
      have hct := HS.out.1.topsc
      have hq1 : 0 < q := by omega
      clear hs hN hL hr HI hn1 hodd
      go_upto_region 10 with fail
      (try dsimp only [Act.put, List.setIfInBounds_toArray, List.set_cons_zero, List.set_cons_succ])
      clear hct
      have HLT := Lib.hid (fun W (hW : FA w g n B g5 (.slice (some ⟨gb, 0, none⟩) (L + 1) c) top ds W) => hW.1.ltops)
      have HLS := Lib.hid (fun W (hW : FA w g n B g5 (.slice (some ⟨gb, 0, none⟩) (L + 1) c) top ds W) => run_dload dtA W gb (0 + L * 32) s HSD.out (by
        obtain ⟨a', n', c', he, hl', _, _, _, hr'⟩ := OwnD.form hW.2.1 HDS.out
        cases he
        obtain ⟨b', o', h1, _, h3⟩ := hr'.at L (by omega)
        simp only [Option.some.injEq, Addr.mk.injEq, and_true] at h1
        obtain ⟨rfl, rfl⟩ := h1
        rw [HSS.out]
        exact h3))
      have HL5 := Lib.hid (fun W (hW : FA w g n B g5 (.slice (some ⟨gb, 0, none⟩) (L + 1) c) top ds W) => run_dload dtA W g5 0 top HTD.out hW.2.2.1.range)
      have HS := Lib.hid HS.out.drew
      have HSd := HS.out
      have HL3 := Lib.hid (HLT.out _ HSd)
      have HL7 := Lib.hid (HL5.out _ HSd)
      have HL6 := Lib.hid (HLS.out _ HSd)
      refine wp_region_any (by kernel_rfl) ?_
      refine any_pure 0 (d := 31) (op := .move (.tmp 0)) (.pointer (some ⟨g, 0, none⟩)) (by rfl) (by kernel_rfl) (by kernel_rfl) (by kernel_rfl) (fun _ _ _ h => h) (fun o ho W => by unfold execOp; simp only [ho]; go_simp) ?_
      simp only [Act.put, List.setIfInBounds_toArray, List.set_cons_zero, List.set_cons_succ]
      refine any_pure 1 (d := 32) (op := .nilCheck (.tmp 31)) (.pointer (some ⟨g, 0, none⟩)) (by rfl) (by kernel_rfl) (by kernel_rfl) (by kernel_rfl) (fun _ _ _ h => h) (fun o ho W => by unfold execOp; simp only [ho]; go_simp) ?_
      simp only [Act.put, List.setIfInBounds_toArray, List.set_cons_zero, List.set_cons_succ]
      refine any_pure 2 (d := 33) (op := .fieldAddr 68 (.tmp 32) 1) (.pointer (some ⟨g, 1, none⟩)) (by rfl) (by kernel_rfl) (by kernel_rfl) (by kernel_rfl) (fun _ _ _ h => h) (fun o ho W => by unfold execOp; simp only [ho]; go_simp) ?_
      simp only [Act.put, List.setIfInBounds_toArray, List.set_cons_zero, List.set_cons_succ]
      refine any_pure 4 (d := 35) (op := .move (.tmp 7)) (.int .i64 (L : Int)) (by rfl) (by kernel_rfl) (by kernel_rfl) (by kernel_rfl) (fun _ _ _ h => h) (fun o ho W => by unfold execOp; simp only [ho]; go_simp) ?_
      simp only [Act.put, List.setIfInBounds_toArray, List.set_cons_zero, List.set_cons_succ]
      refine any_two 3 7 (d1 := some 34) (d2 := some 38) (op1 := .load 28 (.tmp 33)) (op2 := .load 32 (.tmp 5)) (by kernel_rfl) (by rfl) (by rfl) ?_ ?_
      · intro o1 hod hoo
        refine wp_load_run 28 (.tmp 33) hoo (.pointer (some ⟨g, 1, none⟩)) (.slice (some ⟨gb, 0, none⟩) (L + 1) c) (by rfl) HL3.out ?_
        rw [hod]
        clear hod hoo
        simp only [Act.put, List.setIfInBounds_toArray, List.set_cons_zero, List.set_cons_succ]
        refine any_pure 5 (d := 36) (op := .indexAddr 28 (.tmp 34) (.tmp 35)) (.pointer (some ⟨gb, 0 + L * 32, none⟩)) (by rfl) (by kernel_rfl) (by kernel_rfl) (by kernel_rfl) (fun _ _ _ h => h) (fun o ho W => exec_dindex dtA (x := .tmp 34) (y := .tmp 35) gb 0 (L + 1) c L (by omega) _ (by rfl) (by rfl) o ho W) ?_
        simp only [Act.put, List.setIfInBounds_toArray, List.set_cons_zero, List.set_cons_succ]
        refine any_loads2 6 7 (d1 := 37) (d2 := 38) (t1 := 32) (t2 := 32) (x1 := (.tmp 36)) (x2 := (.tmp 5)) (p1 := .pointer (some ⟨gb, 0 + L * 32, none⟩)) (p2 := .pointer (some ⟨g5, 0, none⟩)) (v1 := .agg (cellsOf s).toArray) (v2 := .agg (cellsOf top).toArray) (by kernel_rfl) (by kernel_rfl) (by kernel_rfl) (by decide) (by decide) (by rfl) (by rfl) (by rfl) (by rfl) (by rfl) (by rfl) HL6.out HL7.out ?_
        simp only [Act.put, List.setIfInBounds_toArray, List.set_cons_zero, List.set_cons_succ]
        refine any_call 8 (d := some 39) (f := 33) (xs := #[.tmp 37, .tmp 38]) (ts := #[32, 32]) (vs := #[.agg (cellsOf s).toArray, .agg (cellsOf top).toArray]) (by kernel_rfl) (by rfl) (by go_simp) (by go_simp) (HNODE.out _ HS.out.2.2.2.1) ?_
        rintro e91 w91 ⟨rfl, hb91⟩
        refine ⟨_, rfl, ?_⟩
        have HS := Lib.hid (HS.out.step hB hb91)
        clear hb91 HSd HL3 HL7 HL6 HLT HLS HL5
        simp only [Act.put, List.setIfInBounds_toArray, List.set_cons_zero, List.set_cons_succ]
        have HTH := Lib.hid (HS.out.2.2.1.there _ (show (cellsOf N).toArray.size = top.length from by rw [cellsOf_size, HND.out.1, HTD.out.1]))
        refine any_store_mid 9 (ty := 32) (x := .tmp 5) (y := .tmp 39) g5 0 (cellsOf N).toArray (by kernel_rfl) (by rfl) (by rfl) (by rfl) HTH.out HNI.out (cellsOf_all _) ?_
        rw [List.toList_toArray]
        have HOO := Lib.hid (Only.setCells (cellsOf N) 0 (Only.refl g5 w91))
        have HTOP2 := Lib.hid (HS.out.2.2.1.setAll (ys := N) (by rw [HND.out.1, HTD.out.1]))
        have hgbw : gb < w.heap.size := HS.out.2.2.2.2 gb rfl
        have HS2 := Lib.hid (show FA w g n B g5 (.slice (some ⟨gb, 0, none⟩) (L + 1) c) N ds (w91.setCells g5 0 (cellsOf N)) from ⟨HS.out.1.only HOO.out hgg5, OwnD.only HS.out.2.1 HOO.out (fun k hk => by have : gb = k := Option.some.inj hk; omega), HTOP2.out, HS.out.2.2.2.1.trans (Kp.one HOO.out (by have := HS.out.2.2.2.1.size; omega) (.inr hg5B)), HS.out.2.2.2.2⟩)
        clear HS HTH HOO HTOP2
        refine wpAny_done (by kernel_rfl) ?_ _
        refine gen_exit (F := FA w g n B g5 (.slice (some ⟨gb, 0, none⟩) (L + 1) c) N ds) HS2.out ?_
        intro wF hf
        have HF2 := Lib.hid hf
        have hct := hf.1.topsc
        have hfz := hf.1.froz 1
        have kH := fun W => run_dheadAt dtA W (some ⟨gb, 0, none⟩) (L + 1) c L (by omega)
        clear hf HS2
        have s5 : (q : Int).fdiv (2 ^ min (Int.toNat 1) IntKind.i64.bits) = ((q / 2 : Nat) : Int) := by
          rw [show (2 : Int) ^ min (Int.toNat 1) IntKind.i64.bits = 2 by rfl, Int.fdiv_eq_ediv_of_nonneg _ (by omega)]
          omega
        go_wp2
        go_roundw
        case rel => exact ⟨f', q / 2, N, .slice (some ⟨gb, 0, none⟩) L c, ds.take L, by go_num, by omega, by omega, Lib.hid ⟨HF2.out.1.setTops _, OwnD.only (OwnD.head HF2.out.2.1 HDS.out L (by omega)) (Only.setCell (Only.refl g _) 1 _) (fun k hk => by have : gb = k := Option.some.inj hk; omega), HF2.out.2.2.1.only (Only.setCell (Only.refl g _) 1 _) (by omega), HF2.out.2.2.2.1.trans (Kp.one (Only.setCell (Only.refl g _) 1 _) (by have := HF2.out.2.2.2.1.size; omega) (.inl rfl)), fun k hk => by have : gb = k := Option.some.inj hk; omega⟩, HNEXT⟩
        case measure => simp [intOf]; omega
      · intro o1 hod hoo
        refine wp_load_run 32 (.tmp 5) hoo (.pointer (some ⟨g5, 0, none⟩)) (.agg (cellsOf top).toArray) (by rfl) HL7.out ?_
        rw [hod]
        clear hod hoo
        simp only [Act.put, List.setIfInBounds_toArray, List.set_cons_zero, List.set_cons_succ]
        refine any_load 3 (d := 34) (ty := 28) (x := .tmp 33) (p := .pointer (some ⟨g, 1, none⟩)) (v := .slice (some ⟨gb, 0, none⟩) (L + 1) c) (by kernel_rfl) (by rfl) (by rfl) HL3.out ?_
        simp only [Act.put, List.setIfInBounds_toArray, List.set_cons_zero, List.set_cons_succ]
        refine any_pure 5 (d := 36) (op := .indexAddr 28 (.tmp 34) (.tmp 35)) (.pointer (some ⟨gb, 0 + L * 32, none⟩)) (by rfl) (by kernel_rfl) (by kernel_rfl) (by kernel_rfl) (fun _ _ _ h => h) (fun o ho W => exec_dindex dtA (x := .tmp 34) (y := .tmp 35) gb 0 (L + 1) c L (by omega) _ (by rfl) (by rfl) o ho W) ?_
        simp only [Act.put, List.setIfInBounds_toArray, List.set_cons_zero, List.set_cons_succ]
        refine any_load 6 (d := 37) (ty := 32) (x := .tmp 36) (p := .pointer (some ⟨gb, 0 + L * 32, none⟩)) (v := .agg (cellsOf s).toArray) (by kernel_rfl) (by rfl) (by rfl) HL6.out ?_
        simp only [Act.put, List.setIfInBounds_toArray, List.set_cons_zero, List.set_cons_succ]
        refine any_call 8 (d := some 39) (f := 33) (xs := #[.tmp 37, .tmp 38]) (ts := #[32, 32]) (vs := #[.agg (cellsOf s).toArray, .agg (cellsOf top).toArray]) (by kernel_rfl) (by rfl) (by go_simp) (by go_simp) (HNODE.out _ HS.out.2.2.2.1) ?_
        rintro e91 w91 ⟨rfl, hb91⟩
        refine ⟨_, rfl, ?_⟩
        have HS := Lib.hid (HS.out.step hB hb91)
        clear hb91 HSd HL3 HL7 HL6 HLT HLS HL5
        simp only [Act.put, List.setIfInBounds_toArray, List.set_cons_zero, List.set_cons_succ]
        have HTH := Lib.hid (HS.out.2.2.1.there _ (show (cellsOf N).toArray.size = top.length from by rw [cellsOf_size, HND.out.1, HTD.out.1]))
        refine any_store_mid 9 (ty := 32) (x := .tmp 5) (y := .tmp 39) g5 0 (cellsOf N).toArray (by kernel_rfl) (by rfl) (by rfl) (by rfl) HTH.out HNI.out (cellsOf_all _) ?_
        rw [List.toList_toArray]
        have HOO := Lib.hid (Only.setCells (cellsOf N) 0 (Only.refl g5 w91))
        have HTOP2 := Lib.hid (HS.out.2.2.1.setAll (ys := N) (by rw [HND.out.1, HTD.out.1]))
        have hgbw : gb < w.heap.size := HS.out.2.2.2.2 gb rfl
        have HS2 := Lib.hid (show FA w g n B g5 (.slice (some ⟨gb, 0, none⟩) (L + 1) c) N ds (w91.setCells g5 0 (cellsOf N)) from ⟨HS.out.1.only HOO.out hgg5, OwnD.only HS.out.2.1 HOO.out (fun k hk => by have : gb = k := Option.some.inj hk; omega), HTOP2.out, HS.out.2.2.2.1.trans (Kp.one HOO.out (by have := HS.out.2.2.2.1.size; omega) (.inr hg5B)), HS.out.2.2.2.2⟩)
        clear HS HTH HOO HTOP2
        refine wpAny_done (by kernel_rfl) ?_ _
        refine gen_exit (F := FA w g n B g5 (.slice (some ⟨gb, 0, none⟩) (L + 1) c) N ds) HS2.out ?_
        intro wF hf
        have HF2 := Lib.hid hf
        have hct := hf.1.topsc
        have hfz := hf.1.froz 1
        have kH := fun W => run_dheadAt dtA W (some ⟨gb, 0, none⟩) (L + 1) c L (by omega)
        clear hf HS2
        have s5 : (q : Int).fdiv (2 ^ min (Int.toNat 1) IntKind.i64.bits) = ((q / 2 : Nat) : Int) := by
          rw [show (2 : Int) ^ min (Int.toNat 1) IntKind.i64.bits = 2 by rfl, Int.fdiv_eq_ediv_of_nonneg _ (by omega)]
          omega
        go_wp2
        go_roundw
        case rel => exact ⟨f', q / 2, N, .slice (some ⟨gb, 0, none⟩) L c, ds.take L, by go_num, by omega, by omega, Lib.hid ⟨HF2.out.1.setTops _, OwnD.only (OwnD.head HF2.out.2.1 HDS.out L (by omega)) (Only.setCell (Only.refl g _) 1 _) (fun k hk => by have : gb = k := Option.some.inj hk; omega), HF2.out.2.2.1.only (Only.setCell (Only.refl g _) 1 _) (by omega), HF2.out.2.2.2.1.trans (Kp.one (Only.setCell (Only.refl g _) 1 _) (by have := HF2.out.2.2.2.1.size; omega) (.inl rfl)), fun k hk => by have : gb = k := Option.some.inj hk; omega⟩, HNEXT⟩
        case measure => simp [intOf]; omega
    · have hq0 : q % 2 = 0 := by omega
      rw [hq0] at s1
      have HEND := Lib.hid (show R = ds ++ [top] from by
        rw [← HI.out.1]
        cases f with
        | zero => rfl
        | succ f => rw [carryS, if_neg (by omega)])
      have HLN := Lib.hid (show ds.length + 1 ≤ 4398046511104 from by have := ones_le f q HI.out.2.2.2.1; rw [HI.out.2.1]; omega)
      clear hq0 hodd
      go_upto_region 12 with fail
      (try dsimp only [Act.put, List.setIfInBounds_toArray, List.set_cons_zero, List.set_cons_succ])
      have HS := Lib.hid HS.out.drew
      have HL5 := Lib.hid (run_dload dtA wr.drew g5 0 top HTD.out HS.out.2.2.1.range)
      have HLT := Lib.hid HS.out.1.ltops
      have hBr : B ≤ wr.drew.heap.size := Nat.le_trans hB HS.out.2.2.2.1.size
      refine wp_region_any (by kernel_rfl) ?_
      refine any_pure 0 (d := 49) (op := .move (.tmp 0)) (.pointer (some ⟨g, 0, none⟩)) (by rfl) (by kernel_rfl) (by kernel_rfl) (by kernel_rfl) (fun _ _ _ h => h) (fun o ho W => by unfold execOp; simp only [ho]; go_simp) ?_
      simp only [Act.put, List.setIfInBounds_toArray, List.set_cons_zero, List.set_cons_succ]
      refine any_pure 1 (d := 50) (op := .move (.tmp 0)) (.pointer (some ⟨g, 0, none⟩)) (by rfl) (by kernel_rfl) (by kernel_rfl) (by kernel_rfl) (fun _ _ _ h => h) (fun o ho W => by unfold execOp; simp only [ho]; go_simp) ?_
      simp only [Act.put, List.setIfInBounds_toArray, List.set_cons_zero, List.set_cons_succ]
      refine any_pure 2 (d := 51) (op := .nilCheck (.tmp 50)) (.pointer (some ⟨g, 0, none⟩)) (by rfl) (by kernel_rfl) (by kernel_rfl) (by kernel_rfl) (fun _ _ _ h => h) (fun o ho W => by unfold execOp; simp only [ho]; go_simp) ?_
      simp only [Act.put, List.setIfInBounds_toArray, List.set_cons_zero, List.set_cons_succ]
      refine any_pure 3 (d := 52) (op := .fieldAddr 68 (.tmp 51) 1) (.pointer (some ⟨g, 1, none⟩)) (by rfl) (by kernel_rfl) (by kernel_rfl) (by kernel_rfl) (fun _ _ _ h => h) (fun o ho W => by unfold execOp; simp only [ho]; go_simp) ?_
      simp only [Act.put, List.setIfInBounds_toArray, List.set_cons_zero, List.set_cons_succ]
      refine any_two 4 5 (d1 := some 53) (d2 := some 54) (op1 := .load 28 (.tmp 52)) (op2 := .load 32 (.tmp 5)) (by kernel_rfl) (by rfl) (by rfl) ?_ ?_
      · intro o1 hod hoo
        refine wp_load_run 28 (.tmp 52) hoo (.pointer (some ⟨g, 1, none⟩)) (v) (by rfl) HLT.out ?_
        rw [hod]
        clear hod hoo
        simp only [Act.put, List.setIfInBounds_toArray, List.set_cons_zero, List.set_cons_succ]
        refine any_load 5 (d := 54) (ty := 32) (x := .tmp 5) (p := .pointer (some ⟨g5, 0, none⟩)) (v := .agg (cellsOf top).toArray) (by kernel_rfl) (by rfl) (by rfl) HL5.out ?_
        simp only [Act.put, List.setIfInBounds_toArray, List.set_cons_zero, List.set_cons_succ]
        refine any_op 6 (d := some 55) (op := .buildSlice 28 1 #[(0, (.tmp 54))]) (by kernel_rfl) (by rfl) ?_
        intro o1 hod hoo
        refine wp_dlay dtA (.tmp 54) hoo top HTD.out (by rfl) ?_
        rw [hod]
        clear hod hoo
        simp only [Act.put, List.setIfInBounds_toArray, List.set_cons_zero, List.set_cons_succ]
        refine any_op 7 (d := some 56) (op := .call { callee := .builtin .append, args := #[(.tmp 53), (.tmp 55)], argTypes := #[28, 28] }) (by kernel_rfl) (by rfl) ?_
        intro o1 hod hoo
        refine wp_dpush dtA (.tmp 53) (.tmp 55) hoo B v ds top HTD.out (by rfl) HS.out.2.1 hBr (by rfl) HLN.out ?_
        intro v9 w9 hown9 hb9
        rw [hod]
        have HO9 := Lib.hid hown9
        have HK9 := Lib.hid (show Kp g B w w9 from HS.out.2.2.2.1.trans (Kp.of hb9 (Nat.le_refl _)))
        have HR9 := Lib.hid (show FR w9 g n v from HS.out.1.below hb9 hgB)
        clear hod hoo hown9 hb9
        simp only [Act.put, List.setIfInBounds_toArray, List.set_cons_zero, List.set_cons_succ]
        obtain ⟨a9, n9, c9, hv9, _, _, _, _, _⟩ := OwnD.form HO9.out (by
          intro d hd
          rw [← HEND.out] at hd
          exact HRD.out d hd)
        have HO9' := Lib.hid (show OwnD w9 B 32 (.slice a9 n9 c9) R from by rw [HEND.out, ← hv9]; exact HO9.out)
        subst hv9
        refine any_pure 8 (d := 57) (op := .nilCheck (.tmp 49)) (.pointer (some ⟨g, 0, none⟩)) (by rfl) (by kernel_rfl) (by kernel_rfl) (by kernel_rfl) (fun _ _ _ h => h) (fun o ho W => by unfold execOp; simp only [ho]; go_simp) ?_
        simp only [Act.put, List.setIfInBounds_toArray, List.set_cons_zero, List.set_cons_succ]
        refine any_pure 9 (d := 58) (op := .fieldAddr 68 (.tmp 57) 1) (.pointer (some ⟨g, 1, none⟩)) (by rfl) (by kernel_rfl) (by kernel_rfl) (by kernel_rfl) (fun _ _ _ h => h) (fun o ho W => by unfold execOp; simp only [ho]; go_simp) ?_
        simp only [Act.put, List.setIfInBounds_toArray, List.set_cons_zero, List.set_cons_succ]
        have HST := Lib.hid (FR.stops HR9.out a9 n9 c9)
        refine any_op 10 (d := none) (op := .store 28 (.tmp 58) (.tmp 56)) (by kernel_rfl) (by rfl) ?_
        intro o1 hod hoo
        refine wp_store_run 28 (.tmp 58) (.tmp 56) hoo _ _ (by rfl) (by rfl) HST.out ?_
        rw [hod]
        have HOO := Lib.hid (Only.setCell (Only.refl g w9) 1 (.slice a9 n9 c9))
        have HR10 := Lib.hid (HR9.out.setTops (.slice a9 n9 c9))
        have HO10 := Lib.hid (OwnD.only HO9'.out HOO.out (fun k hk => by have := (OwnD.block HO9'.out k hk).1; omega))
        have HK10 := Lib.hid (HK9.out.trans (Kp.one HOO.out (by have := HK9.out.size; omega) (.inl rfl)))
        clear hod hoo HOO HO9 HO9' HK9 HR9 HST
        simp only [Act.put]
        refine wpAny_done (by kernel_rfl) ?_ _
        refine gen_exit (F := fun W => FR W g n (.slice a9 n9 c9) ∧ OwnD W B 32 (.slice a9 n9 c9) R ∧ Kp g B w W) ⟨HR10.out, HO10.out, HK10.out⟩ ?_
        rintro wF ⟨hr, ho, hk⟩
        have HRF := Lib.hid hr
        have HOF := Lib.hid ho
        have HKF := Lib.hid hk
        have hcs := hr.sizec
        have hfz := hr.froz 0
        clear hr ho hk HR10 HO10 HK10
        go_wp2
        go_ret
        exact ⟨rfl, _, HRF.out.setSize (n + 1), OwnD.only HOF.out (Only.setCell (Only.refl g _) 0 _) (fun k hk => by have := (OwnD.block HOF.out k hk).1; omega), HKF.out.trans (Kp.one (Only.setCell (Only.refl g _) 0 _) (by have := HKF.out.size; omega) (.inl rfl))⟩
      · intro o1 hod hoo
        refine wp_load_run 32 (.tmp 5) hoo (.pointer (some ⟨g5, 0, none⟩)) (.agg (cellsOf top).toArray) (by rfl) HL5.out ?_
        rw [hod]
        clear hod hoo
        simp only [Act.put, List.setIfInBounds_toArray, List.set_cons_zero, List.set_cons_succ]
        refine any_two 4 6 (d1 := some 53) (d2 := some 55) (op1 := .load 28 (.tmp 52)) (op2 := .buildSlice 28 1 #[(0, (.tmp 54))]) (by kernel_rfl) (by rfl) (by rfl) ?_ ?_
        · intro o1 hod hoo
          refine wp_load_run 28 (.tmp 52) hoo (.pointer (some ⟨g, 1, none⟩)) (v) (by rfl) HLT.out ?_
          rw [hod]
          clear hod hoo
          simp only [Act.put, List.setIfInBounds_toArray, List.set_cons_zero, List.set_cons_succ]
          refine any_op 6 (d := some 55) (op := .buildSlice 28 1 #[(0, (.tmp 54))]) (by kernel_rfl) (by rfl) ?_
          intro o1 hod hoo
          refine wp_dlay dtA (.tmp 54) hoo top HTD.out (by rfl) ?_
          rw [hod]
          clear hod hoo
          simp only [Act.put, List.setIfInBounds_toArray, List.set_cons_zero, List.set_cons_succ]
          refine any_op 7 (d := some 56) (op := .call { callee := .builtin .append, args := #[(.tmp 53), (.tmp 55)], argTypes := #[28, 28] }) (by kernel_rfl) (by rfl) ?_
          intro o1 hod hoo
          refine wp_dpush dtA (.tmp 53) (.tmp 55) hoo B v ds top HTD.out (by rfl) HS.out.2.1 hBr (by rfl) HLN.out ?_
          intro v9 w9 hown9 hb9
          rw [hod]
          have HO9 := Lib.hid hown9
          have HK9 := Lib.hid (show Kp g B w w9 from HS.out.2.2.2.1.trans (Kp.of hb9 (Nat.le_refl _)))
          have HR9 := Lib.hid (show FR w9 g n v from HS.out.1.below hb9 hgB)
          clear hod hoo hown9 hb9
          simp only [Act.put, List.setIfInBounds_toArray, List.set_cons_zero, List.set_cons_succ]
          obtain ⟨a9, n9, c9, hv9, _, _, _, _, _⟩ := OwnD.form HO9.out (by
            intro d hd
            rw [← HEND.out] at hd
            exact HRD.out d hd)
          have HO9' := Lib.hid (show OwnD w9 B 32 (.slice a9 n9 c9) R from by rw [HEND.out, ← hv9]; exact HO9.out)
          subst hv9
          refine any_pure 8 (d := 57) (op := .nilCheck (.tmp 49)) (.pointer (some ⟨g, 0, none⟩)) (by rfl) (by kernel_rfl) (by kernel_rfl) (by kernel_rfl) (fun _ _ _ h => h) (fun o ho W => by unfold execOp; simp only [ho]; go_simp) ?_
          simp only [Act.put, List.setIfInBounds_toArray, List.set_cons_zero, List.set_cons_succ]
          refine any_pure 9 (d := 58) (op := .fieldAddr 68 (.tmp 57) 1) (.pointer (some ⟨g, 1, none⟩)) (by rfl) (by kernel_rfl) (by kernel_rfl) (by kernel_rfl) (fun _ _ _ h => h) (fun o ho W => by unfold execOp; simp only [ho]; go_simp) ?_
          simp only [Act.put, List.setIfInBounds_toArray, List.set_cons_zero, List.set_cons_succ]
          have HST := Lib.hid (FR.stops HR9.out a9 n9 c9)
          refine any_op 10 (d := none) (op := .store 28 (.tmp 58) (.tmp 56)) (by kernel_rfl) (by rfl) ?_
          intro o1 hod hoo
          refine wp_store_run 28 (.tmp 58) (.tmp 56) hoo _ _ (by rfl) (by rfl) HST.out ?_
          rw [hod]
          have HOO := Lib.hid (Only.setCell (Only.refl g w9) 1 (.slice a9 n9 c9))
          have HR10 := Lib.hid (HR9.out.setTops (.slice a9 n9 c9))
          have HO10 := Lib.hid (OwnD.only HO9'.out HOO.out (fun k hk => by have := (OwnD.block HO9'.out k hk).1; omega))
          have HK10 := Lib.hid (HK9.out.trans (Kp.one HOO.out (by have := HK9.out.size; omega) (.inl rfl)))
          clear hod hoo HOO HO9 HO9' HK9 HR9 HST
          simp only [Act.put]
          refine wpAny_done (by kernel_rfl) ?_ _
          refine gen_exit (F := fun W => FR W g n (.slice a9 n9 c9) ∧ OwnD W B 32 (.slice a9 n9 c9) R ∧ Kp g B w W) ⟨HR10.out, HO10.out, HK10.out⟩ ?_
          rintro wF ⟨hr, ho, hk⟩
          have HRF := Lib.hid hr
          have HOF := Lib.hid ho
          have HKF := Lib.hid hk
          have hcs := hr.sizec
          have hfz := hr.froz 0
          clear hr ho hk HR10 HO10 HK10
          go_wp2
          go_ret
          exact ⟨rfl, _, HRF.out.setSize (n + 1), OwnD.only HOF.out (Only.setCell (Only.refl g _) 0 _) (fun k hk => by have := (OwnD.block HOF.out k hk).1; omega), HKF.out.trans (Kp.one (Only.setCell (Only.refl g _) 0 _) (by have := HKF.out.size; omega) (.inl rfl))⟩
        · intro o1 hod hoo
          refine wp_dlay dtA (.tmp 54) hoo top HTD.out (by rfl) ?_
          rw [hod]
          clear hod hoo
          simp only [Act.put, List.setIfInBounds_toArray, List.set_cons_zero, List.set_cons_succ]
          have HLT2 := Lib.hid (FR.ltops (HS.out.1.below ((Below.refl wr.drew.heap.size wr.drew).alloc (Nat.le_refl _) (.cells (cellsOf top).toArray 32)) HS.out.1.lt))
          refine any_load 4 (d := 53) (ty := 28) (x := .tmp 52) (p := .pointer (some ⟨g, 1, none⟩)) (v := v) (by kernel_rfl) (by rfl) (by rfl) HLT2.out ?_
          simp only [Act.put, List.setIfInBounds_toArray, List.set_cons_zero, List.set_cons_succ]
          refine any_op 7 (d := some 56) (op := .call { callee := .builtin .append, args := #[(.tmp 53), (.tmp 55)], argTypes := #[28, 28] }) (by kernel_rfl) (by rfl) ?_
          intro o1 hod hoo
          refine wp_dpush dtA (.tmp 53) (.tmp 55) hoo B v ds top HTD.out (by rfl) HS.out.2.1 hBr (by rfl) HLN.out ?_
          intro v9 w9 hown9 hb9
          rw [hod]
          have HO9 := Lib.hid hown9
          have HK9 := Lib.hid (show Kp g B w w9 from HS.out.2.2.2.1.trans (Kp.of hb9 (Nat.le_refl _)))
          have HR9 := Lib.hid (show FR w9 g n v from HS.out.1.below hb9 hgB)
          clear hod hoo hown9 hb9
          simp only [Act.put, List.setIfInBounds_toArray, List.set_cons_zero, List.set_cons_succ]
          obtain ⟨a9, n9, c9, hv9, _, _, _, _, _⟩ := OwnD.form HO9.out (by
            intro d hd
            rw [← HEND.out] at hd
            exact HRD.out d hd)
          have HO9' := Lib.hid (show OwnD w9 B 32 (.slice a9 n9 c9) R from by rw [HEND.out, ← hv9]; exact HO9.out)
          subst hv9
          refine any_pure 8 (d := 57) (op := .nilCheck (.tmp 49)) (.pointer (some ⟨g, 0, none⟩)) (by rfl) (by kernel_rfl) (by kernel_rfl) (by kernel_rfl) (fun _ _ _ h => h) (fun o ho W => by unfold execOp; simp only [ho]; go_simp) ?_
          simp only [Act.put, List.setIfInBounds_toArray, List.set_cons_zero, List.set_cons_succ]
          refine any_pure 9 (d := 58) (op := .fieldAddr 68 (.tmp 57) 1) (.pointer (some ⟨g, 1, none⟩)) (by rfl) (by kernel_rfl) (by kernel_rfl) (by kernel_rfl) (fun _ _ _ h => h) (fun o ho W => by unfold execOp; simp only [ho]; go_simp) ?_
          simp only [Act.put, List.setIfInBounds_toArray, List.set_cons_zero, List.set_cons_succ]
          have HST := Lib.hid (FR.stops HR9.out a9 n9 c9)
          refine any_op 10 (d := none) (op := .store 28 (.tmp 58) (.tmp 56)) (by kernel_rfl) (by rfl) ?_
          intro o1 hod hoo
          refine wp_store_run 28 (.tmp 58) (.tmp 56) hoo _ _ (by rfl) (by rfl) HST.out ?_
          rw [hod]
          have HOO := Lib.hid (Only.setCell (Only.refl g w9) 1 (.slice a9 n9 c9))
          have HR10 := Lib.hid (HR9.out.setTops (.slice a9 n9 c9))
          have HO10 := Lib.hid (OwnD.only HO9'.out HOO.out (fun k hk => by have := (OwnD.block HO9'.out k hk).1; omega))
          have HK10 := Lib.hid (HK9.out.trans (Kp.one HOO.out (by have := HK9.out.size; omega) (.inl rfl)))
          clear hod hoo HOO HO9 HO9' HK9 HR9 HST
          simp only [Act.put]
          refine wpAny_done (by kernel_rfl) ?_ _
          refine gen_exit (F := fun W => FR W g n (.slice a9 n9 c9) ∧ OwnD W B 32 (.slice a9 n9 c9) R ∧ Kp g B w W) ⟨HR10.out, HO10.out, HK10.out⟩ ?_
          rintro wF ⟨hr, ho, hk⟩
          have HRF := Lib.hid hr
          have HOF := Lib.hid ho
          have HKF := Lib.hid hk
          have hcs := hr.sizec
          have hfz := hr.froz 0
          clear hr ho hk HR10 HO10 HK10
          go_wp2
          go_ret
          exact ⟨rfl, _, HRF.out.setSize (n + 1), OwnD.only HOF.out (Only.setCell (Only.refl g _) 0 _) (fun k hk => by have := (OwnD.block HOF.out k hk).1; omega), HKF.out.trans (Kp.one (Only.setCell (Only.refl g _) 0 _) (by have := HKF.out.size; omega) (.inl rfl))⟩
end Go.Proofs.YtlnblfdddellmaaDoor
