/-
  The walk over MerkleChecks.
-/
import Derived.Test.YthnfbdmkdpokcaaDoorRck
import Derived.Test.YthnfbdmkdpokcaaDoorMpt
namespace Go.Proofs.YthnfbdmkdpokcaaDoor
open Go.RowKit
set_option linter.unusedVariables false
/-- what Check says, of any numbers -/
def ckB (n i : Int) (leaf : List Nat) (way : Ds) (root : List Nat) : Bool := if i < 0 ∨ n ≤ i then false else decide (topS n.toNat i.toNat leaf way = some root)
theorem check_g (n i : Int) (root leaf : List Nat) (a : Option Addr) (l cap : Nat) (way : Ds) (w : World) (hn : n ≤ 9223372036854775807) (hr : D32 root) (hl : D32 leaf) (hw : DR w a l way) (hlc : l ≤ cap) (hcm : cap ≤ 9223372036854775807) (ht : Tab w) :
    Calls Tryd.prog 24 #[.agg (cellsOf root).toArray, .int .i64 n, .int .i64 i, .agg (cellsOf leaf).toArray, .slice a l cap] w fun e w' => e = .returned (.bool (ckB n i leaf way root)) ∧ Below w.heap.size w w' := by
  unfold ckB
  by_cases h : i < 0 ∨ n ≤ i
  · rw [if_pos h]; exact check_no n i root leaf a l cap w h
  · rw [if_neg h]
    have e1 : n = (n.toNat : Int) := by omega
    have e2 : i = (i.toNat : Int) := by omega
    have := check_yes n.toNat i.toNat root leaf a l cap way w (by omega) (by omega) hr hl hw hlc hcm ht
    rw [← e1, ← e2] at this
    exact this
theorem rcheck_g (n i : Int) (root leaf : List Nat) (a : Option Addr) (l cap : Nat) (way : Ds) (w : World) (hn : n ≤ 9223372036854775807) (hr : D32 root) (hl : D32 leaf) (hw : DR w a l way) (hlc : l ≤ cap) (hcm : cap ≤ 9223372036854775807) (hab : ∀ b, blkOf a = some b → b < w.heap.size) :
    Calls Tryd.prog 26 #[.agg (cellsOf root).toArray, .int .i64 n, .int .i64 i, .agg (cellsOf leaf).toArray, .slice a l cap] w fun e w' => e = .returned (.bool (ckB n i leaf way root)) ∧ Below w.heap.size w w' := by
  unfold ckB
  by_cases h : i < 0 ∨ n ≤ i
  · rw [if_pos h]; exact rcheck_no n i root leaf a l cap w h
  · rw [if_neg h]
    have e1 : n = (n.toNat : Int) := by omega
    have e2 : i = (i.toNat : Int) := by omega
    have := rcheck_yes n.toNat i.toNat root leaf a l cap way w (by omega) (by omega) hr hl hw hlc hcm hab
    rw [← e1, ← e2] at this
    exact this
theorem run_alloc_r (a : Act) (o : Oper) (ho : o.op = .alloc 26) (W : World) : (execOp a.eval o).run Tryd.prog W = .ok (.value (.pointer (some ⟨W.heap.size, 0, none⟩))) (W.alloc (.cells (cellsOf zs32).toArray 26)) := by
  unfold execOp
  simp only [ho]
  kernel_rfl
theorem wp_alloc_r {o : Oper} {a : Act} {w : World} {K : Act → World → Prop} {Q : Exit → Act → World → Prop} (ho : o.op = .alloc 26)
    (h : K (a.put o.dst (.pointer (some ⟨w.heap.size, 0, none⟩))) (w.alloc (.cells (cellsOf zs32).toArray 26))) : o.wp Tryd.prog a w K Q := by
  unfold Oper.wp
  rw [run_alloc_r a o ho w]
  exact h
theorem OwnD.blk {w : World} {B : Nat} {E : TypeId} {a : Option Addr} {n c : Nat} {ds : Ds} (h : OwnD w B E (.slice a n c) ds) : ∀ b, blkOf a = some b → b < w.heap.size := by
  intro b hb
  refine (h.block b ?_).2
  cases a with
  | none => simp [blkOf] at hb
  | some a => simpa [blkOf, Value.ownBlock] using hb
/-- the first part: a leaf, and the way behind it, in memory of the law's own -/
def MC1 (w : World) (root : List Nat) (a1 : Option Addr) (n1 : Nat) (es : Ds) (W : World) : Prop := Brow W w.heap.size 26 root ∧ DR W a1 n1 es ∧ Below w.heap.size w W
theorem MC1.step {w W W' : World} {root : List Nat} {a1 : Option Addr} {n1 : Nat} {es : Ds} (h : MC1 w root a1 n1 es W) (hb : Below W.heap.size W W') : MC1 w root a1 n1 es W' := ⟨h.1.below hb h.1.lt, h.2.1.below hb, h.2.2.trans (hb.mono h.2.2.size)⟩
theorem built_two {E : TypeId} (hr : (Tryd.prog.info? E).map (fun i => (i.zero.map (·.cells.size), i.size, i.bytes)) = some (some 32, 32, 32)) (x y : List Nat) (hx : x.length = 32) (hy : y.length = 32) : Tryd.prog.builtSlice E 2 [(0, .agg (cellsOf x).toArray), (1, .agg (cellsOf y).toArray)] = some (cellsOf [x, y].flatten).toArray := by
  unfold Program.builtSlice
  cases hi : Tryd.prog.info? E with
  | none => simp [hi] at hr
  | some i =>
    simp only [hi, Option.map_some, Option.some.injEq, Prod.mk.injEq] at hr
    obtain ⟨h1, h2, h3⟩ := hr
    obtain ⟨z, hz, hs⟩ := Option.map_eq_some_iff.1 h1
    simp only [hz, h2]
    have := Great.fill_whole (s := 32) (by omega) [.agg (cellsOf x).toArray, .agg (cellsOf y).toArray] ((Array.range (2 * 32)).map (z.cells[· % z.cells.size]!)) (by
      intro v hv
      simp only [List.mem_cons, List.not_mem_nil, or_false] at hv
      rcases hv with rfl | rfl
      · show (cellsOf x).toArray.size = 32; rw [cellsOf_size, hx]
      · show (cellsOf y).toArray.size = 32; rw [cellsOf_size, hy]) (by simp)
    have e : ([Value.agg (cellsOf x).toArray, .agg (cellsOf y).toArray].flatMap fun v => v.cells.toList).toArray = (cellsOf [x, y].flatten).toArray := by simp [Value.cells, cellsOf_append]
    rw [e] at this
    rw [if_neg (by omega)]
    exact this
theorem wpList_lay2 {w : World} {ops : Array Oper} {rest : List Oper} {o : Oper} {a : Act} {Q : Exit → Act → World → Prop} (hgd : o.guard = none) (x y : Operand) (d : Tmp) (p q : List Nat) (hp : D32 p) (hq : D32 q)
    (ho : (o.dst, o.op) = (some d, .buildSlice 22 2 #[(0, x), (1, y)])) (hx : a.eval x = .agg (cellsOf p).toArray) (hy : a.eval y = .agg (cellsOf q).toArray)
    (h : ∀ W, DR W (some ⟨w.heap.size, 0, none⟩) 2 [p, q] → Below w.heap.size w W → wpList Tryd.prog ops Q rest (a.put (some d) (.slice (some ⟨w.heap.size, 0, none⟩) 2 2)) W) : wpList Tryd.prog ops Q (o :: rest) a w :=
  Great.wpList_buildSliceTo hgd 22 26 2 _ (congrArg Prod.snd ho) w.heap.size rfl (some d) (congrArg Prod.fst ho) Tryd.underlying22 (cellsOf [p, q].flatten).toArray (by simp only [List.map_toArray, List.map_cons, List.map_nil, hx, hy]; exact built_two row_r p q hp.1 hq.1)
    (h _ (dr_new w 26 [p, q] (by intro d hd; simp only [List.mem_cons, List.not_mem_nil, or_false] at hd; rcases hd with rfl | rfl <;> assumption)) ((Below.refl _ _).alloc (Nat.le_refl _) _))
/-- where no root follows from a way, Check is false -/
theorem up_ck {n i : Int} {N I : Nat} {leaf : List Nat} {way : Ds} (hN : (N : Int) = max n 1) (hI : 1 ≤ n → (I : Int) = max 0 (min i (n - 1))) (h : upS N I leaf way = none) (root : List Nat) : ckB n i leaf way root = false := by
  unfold ckB
  split
  · rfl
  · have e1 : n.toNat = N := by omega
    have e2 : i.toNat = I := by have := hI (by omega); omega
    rw [e1, e2, top_up, h]
def UpC (n i : Int) (leaf : List Nat) (way : Ds) (w : World) (e : Ending) (w' : World) : Prop :=
  ∃ d ra rl rc c, D32 d ∧ e = .returned (.tuple #[.agg (cellsOf d).toArray, .slice ra rl rc, .bool c]) ∧ (c = false → ∀ root, ckB n i leaf way root = false) ∧ Below w.heap.size w w'
theorem up_any (n i j : Int) (hj : j = max 0 (min i (wrap64 (n - 1)))) (hn1 : -9223372036854775808 ≤ n) (hn2 : n ≤ 9223372036854775807) (leaf : List Nat) (a : Option Addr) (l cap : Nat) (way : Ds) (w : World) (hl : D32 leaf) (hr : DR w a l way) (hlc : l ≤ cap) (hcm : cap ≤ 9223372036854775807) (hab : ∀ b, blkOf a = some b → b < w.heap.size) :
    Calls Tryd.prog 25 #[.int .i64 (max n 1), .int .i64 j, .agg (cellsOf leaf).toArray, .slice a l cap] w (UpC n i leaf way w) := by
  obtain ⟨I, hI⟩ : ∃ I : Nat, (I : Int) = j := ⟨j.toNat, by omega⟩
  obtain ⟨N, hN⟩ : ∃ N : Nat, (N : Int) = max n 1 := ⟨(max n 1).toNat, by omega⟩
  have hw1 : 1 ≤ n → wrap64 (n - 1) = n - 1 := by intro h; unfold wrap64; omega
  have hU : Calls Tryd.prog 25 #[.int .i64 (N : Int), .int .i64 (I : Int), .agg (cellsOf leaf).toArray, .slice a l cap] w (UpRet w.heap.size N I leaf way w) := by
    by_cases h1 : N = 1
    · subst h1
      exact rup_1 w.heap.size I leaf a l cap way w hl hr hlc hcm hab (Nat.le_refl _)
    · exact rup_g N w.heap.size (by omega) (by omega) I leaf a l cap way w (by have := hw1 (by omega); omega) hl hr hlc hcm hab (Nat.le_refl _)
  rw [← hN, ← hI]
  refine hU.mono ?_
  rintro e w' ⟨hb, ⟨hu, rfl⟩ | ⟨d, rest, ra, rl, rc, hu, hd, _, _, _, _, rfl⟩⟩
  · exact ⟨zs32, none, 0, 0, false, ⟨zs32_len, by decide⟩, rfl, fun _ root => up_ck hN (fun h => by rw [hI, hj, hw1 h]) hu root, hb⟩
  · exact ⟨d, ra, rl, rc, true, hd, rfl, fun h => by (exact absurd h (by decide)), hb⟩
/-- while the two roots are tried -/
def MCL (w : World) (root leaf d : List Nat) (g9 gp : Nat) (pa : Option Addr) (pl : Nat) (way : Ds) (W : World) : Prop :=
  Brow W w.heap.size 26 root ∧ Brow W g9 26 leaf ∧ DR W pa pl way ∧ DR W (some ⟨gp, 0, none⟩) 2 [root, d] ∧ Below w.heap.size w W
theorem MCL.step {w W W' : World} {root leaf d : List Nat} {g9 gp : Nat} {pa : Option Addr} {pl : Nat} {way : Ds} (h : MCL w root leaf d g9 gp pa pl way W) (hb : Below W.heap.size W W') : MCL w root leaf d g9 gp pa pl way W' :=
  ⟨h.1.below hb h.1.lt, h.2.1.below hb h.2.1.lt, h.2.2.1.below hb, h.2.2.2.1.below hb, h.2.2.2.2.trans (hb.mono h.2.2.2.2.size)⟩
theorem MCL.drew {w W : World} {root leaf d : List Nat} {g9 gp : Nat} {pa : Option Addr} {pl : Nat} {way : Ds} (h : MCL w root leaf d g9 gp pa pl way W) : MCL w root leaf d g9 gp pa pl way W.drew := ⟨h.1.drew, h.2.1.drew, h.2.2.1, h.2.2.2.1, h.2.2.2.2.drew⟩
def MCX (w : World) (root leaf d : List Nat) (g9 gp : Nat) (pa : Option Addr) (pl : Nat) (way : Ds) (g : Nat) (x : List Nat) (W : World) : Prop := MCL w root leaf d g9 gp pa pl way W ∧ Brow W g 26 x
theorem MCX.step {w W W' : World} {root leaf d : List Nat} {g9 gp : Nat} {pa : Option Addr} {pl : Nat} {way : Ds} {g : Nat} {x : List Nat} (h : MCX w root leaf d g9 gp pa pl way g x W) (hb : Below W.heap.size W W') : MCX w root leaf d g9 gp pa pl way g x W' := ⟨h.1.step hb, h.2.below hb h.2.lt⟩
set_option maxRecDepth 100000 in
set_option maxHeartbeats 4000000 in
theorem checks_in (root : List Nat) (n i : Int) (wa : Option Addr) (wl wc : Nat) (ws : Ds) (w : World) (hr : D32 root) (hwl : 0 < wl) (r : DigsIn w wa wl wc ws) (ht : Tab w) (hn1 : -9223372036854775808 ≤ n) (hn2 : n ≤ 9223372036854775807) (hi1 : -9223372036854775808 ≤ i) (hi2 : i ≤ 9223372036854775807) :
    Calls Tryd.prog 5 #[.agg (cellsOf root).toArray, .int .i64 n, .int .i64 i, .slice wa wl wc] w fun e w' => e = .returned (.bool true) ∧ Below w.heap.size w w' := by
  obtain ⟨hw, hnil, hlc, hcm⟩ := r
  have HT := Lib.hid ht
  have hpos := ht.pos
  have HR := Lib.hid hr
  obtain ⟨m, hmm⟩ : ∃ m : Nat, m = min wl 70 := ⟨_, rfl⟩
  have HCUT := Lib.hid (show ∀ W, Below w.heap.size w W → Calls Tryd.prog 13 #[.slice wa wl wc, .int .i64 70] W (RetDs 26 (ws.take m) W) from fun W hW => cut_c wl m 70 ws wa wc W (hw.below hW) hlc hnil (by omega) (by omega))
  obtain ⟨es, hes⟩ : ∃ es, es = ws.take m := ⟨_, rfl⟩
  rw [← hes] at HCUT
  have HES := Lib.hid (show ∀ d ∈ es, D32 d from by rw [hes]; exact d32_take hw.2.1 m)
  have hel : es.length = m := by rw [hes, List.length_take, hw.1]; omega
  have hm70 : m ≤ 70 := by omega
  have hm0 : 0 < m := by omega
  have qwl : ¬ wl = 0 := by omega
  clear hw hnil ht hmm hes hr
  go_enter Tryd.func5, Tryd.ntmps5
  go_upto_region 1 with fail
  refine gen_code (F := fun W => Brow W w.heap.size 26 root ∧ Below w.heap.size w W) ⟨heap_new _ _, (Below.refl _ _).alloc (Nat.le_refl _) _⟩ ?_
  rintro wA ⟨hb, hbw⟩
  have HB := Lib.hid hb
  have HBW := Lib.hid hbw
  clear hb hbw
  go_wp2_with fail
  refine (HCUT.out _ HBW.out).mono ?_
  rintro e w1 ⟨v, rfl, hov, hb1⟩
  obtain ⟨a1, n1, c1, rfl, hnn, hc1, hc1m, _, hr1⟩ := hov.form HES.out
  have hab := hov.blk
  obtain rfl : n1 = m := by rw [← hnn, hel]
  obtain ⟨lb, lo, rfl, _, _⟩ := hr1.at 0 hm0
  have h1n : 0 < n1 := hm0
  obtain ⟨leaf, hleaf⟩ : ∃ leaf, leaf = es.getD 0 [] := ⟨_, rfl⟩
  have HLD := Lib.hid (show D32 leaf from by rw [hleaf]; exact D32.get HES.out 0 (by omega))
  have HS := Lib.hid (show MC1 w root (some ⟨lb, lo, none⟩) n1 es w1.drew from ⟨(HB.out.below hb1 HB.out.lt).drew, hr1, (HBW.out.trans (hb1.mono HBW.out.size)).drew⟩)
  have HLF := Lib.hid (fun W (hW : MC1 w root (some ⟨lb, lo, none⟩) n1 es W) => run_dload dtR W lb (lo + 0 * 32) leaf HLD.out (by
    obtain ⟨b', o', h1, _, h3⟩ := hW.2.1.at 0 h1n
    simp only [Option.some.injEq, Addr.mk.injEq, and_true] at h1
    obtain ⟨rfl, rfl⟩ := h1
    rw [hleaf]
    exact h3))
  have HAB := Lib.hid hab
  have HDR1 := Lib.hid hr1
  clear hov hb1 hr1 hab HB HBW HCUT hnn hel hleaf
  go_upto_region 4 with fail
  (try dsimp only [Act.put, List.setIfInBounds_toArray, List.set_cons_zero, List.set_cons_succ])
  refine anyH_begin (S := MC1 w root (some ⟨lb, lo, none⟩) n1 es) (by kernel_rfl) ?_
  refine anyH_pureG 0 (d := 22) (op := .move (.tmp 3)) (gd := none) (.slice (some ⟨lb, lo, none⟩) n1 c1) (by rfl) (fun o ho => wanted_plain ho _) (by kernel_rfl) (by kernel_rfl) (by kernel_rfl) (fun _ _ _ h => h) (fun o ho W hW => by unfold execOp; simp only [ho]; go_simp) HS.out ?_
  simp only [Act.put, List.setIfInBounds_toArray, List.set_cons_zero, List.set_cons_succ]
  refine anyH_dindex dtR 1 (d := 23) (x := .tmp 22) (y := .const (.int .i64 0)) lb lo n1 c1 0 h1n (by rfl) (by kernel_rfl) (by kernel_rfl) (by kernel_rfl) (fun _ _ _ h => h) (by rfl) (by rfl) HS.out ?_
  simp only [Act.put, List.setIfInBounds_toArray, List.set_cons_zero, List.set_cons_succ]
  refine anyH_loadG 2 (d := 24) (ty := 26) (x := (.tmp 23)) (gd := none) (p := .pointer (some ⟨lb, lo + 0 * 32, none⟩)) (.agg (cellsOf leaf).toArray) (by rfl) (fun o ho => wanted_plain ho _) (by kernel_rfl) (by kernel_rfl) (by kernel_rfl) (fun _ _ _ h => h) (by rfl) HLF.out HS.out ?_
  simp only [Act.put, List.setIfInBounds_toArray, List.set_cons_zero, List.set_cons_succ]
  refine anyH_pureG 3 (d := 25) (op := .move (.tmp 3)) (gd := none) (.slice (some ⟨lb, lo, none⟩) n1 c1) (by rfl) (fun o ho => wanted_plain ho _) (by kernel_rfl) (by kernel_rfl) (by kernel_rfl) (fun _ _ _ h => h) (fun o ho W hW => by unfold execOp; simp only [ho]; go_simp) HS.out ?_
  simp only [Act.put, List.setIfInBounds_toArray, List.set_cons_zero, List.set_cons_succ]
  refine anyH_dcut dtR 4 (d := 26) (x := .tmp 25) (y := .const (.int .i64 1)) (some ⟨lb, lo, none⟩) n1 c1 1 (by omega) (by rfl) (by kernel_rfl) (by kernel_rfl) (by kernel_rfl) (fun _ _ _ h => h) (by rfl) (by rfl) HS.out ?_
  simp only [Act.put, List.setIfInBounds_toArray, List.set_cons_zero, List.set_cons_succ]
  refine anyH_op 5 (d := some 9) (op := .alloc 26) (by kernel_rfl) (by rfl) ?_
  intro o0 hod hoo
  refine wp_alloc_r hoo ?_
  have HBa := Lib.hid (show Below w1.drew.heap.size w1.drew (w1.drew.alloc (.cells (cellsOf zs32).toArray 26)) from (Below.refl _ _).alloc (Nat.le_refl _) _)
  have HZ := Lib.hid (Brow.new w1.drew 26 zs32)
  have hg1 := HS.out.1.lt
  refine ⟨HS.out.step HBa.out, ?_⟩
  have HS := Lib.hid (HS.out.step HBa.out)
  rw [hod]
  clear hod hoo HBa
  simp only [Act.put, List.setIfInBounds_toArray, List.set_cons_zero, List.set_cons_succ]
  obtain ⟨g9, hg⟩ : ∃ g, g = w1.drew.heap.size := ⟨_, rfl⟩
  have hg91 : g9 = w1.heap.size := hg
  rw [← hg] at HZ hg1 ⊢
  have HGI := Lib.hid (info32 dtR HLD.out)
  have HTH := Lib.hid (HZ.out.there _ (show (cellsOf leaf).toArray.size = zs32.length from by rw [cellsOf_size, HLD.out.1, zs32_len]))
  refine anyH_op 6 (d := none) (op := .store 26 (.tmp 9) (.tmp 24)) (by kernel_rfl) (by rfl) ?_
  intro o1 hod hoo
  refine wp_store_mid 26 (.tmp 9) (.tmp 24) hoo g9 0 (cellsOf leaf).toArray (by rfl) (by rfl) HTH.out HGI.out (cellsOf_all _) ?_
  rw [hod, List.toList_toArray]
  have HO := Lib.hid (Only.setCells (cellsOf leaf) 0 (Only.refl g9 (w1.drew.alloc (.cells (cellsOf zs32).toArray 26))))
  have HZ2 := Lib.hid (HZ.out.setAll (ys := leaf) (by rw [HLD.out.1, zs32_len]))
  have HS2 := Lib.hid (show MC1 w root (some ⟨lb, lo, none⟩) n1 es _ from ⟨HS.out.1.only HO.out (by omega), HS.out.2.1.onlyB HAB.out (by omega) HO.out, HS.out.2.2.trans (HO.out.below (by omega) HS.out.2.2.size)⟩)
  refine ⟨HS2.out, ?_⟩
  clear HS HZ HTH HO hod hoo
  simp only [Act.put]
  refine anyH_pureG 7 (d := 3) (op := .assign (.tmp 26)) (gd := none) (.slice (sld (some ⟨lb, lo, none⟩) c1 1) (n1 - 1) (c1 - 1)) (by rfl) (fun o ho => wanted_plain ho _) (by kernel_rfl) (by kernel_rfl) (by kernel_rfl) (fun _ _ _ h => h) (fun o ho W hW => by unfold execOp; simp only [ho]; go_simp) HS2.out ?_
  simp only [Act.put, List.setIfInBounds_toArray, List.set_cons_zero, List.set_cons_succ]
  refine wpAnyH_done (by kernel_rfl) ?_ _
  refine gen_exit (F := fun W => MC1 w root (some ⟨lb, lo, none⟩) n1 es W ∧ Brow W g9 26 leaf) ⟨HS2.out, HZ2.out⟩ ?_
  rintro w2 ⟨hs, hz⟩
  have HS := Lib.hid hs
  have HZ := Lib.hid hz
  have HIL := Lib.hid (info32 dtR HLD.out)
  clear hs hz HS2 HZ2
  clear hg
  subst hg91
  go_wp2_with (first | (refine wpList_load_row (by rfl) 26 _ (by rfl) w1.heap.size (by rfl) _ (cellsOf leaf).toArray (0, 0) _ HZ.out Tryd.underlying26 (by rfl) HIL.out ?_))
  refine (up_any n i _ rfl hn1 hn2 leaf (sld (some ⟨lb, lo, none⟩) c1 1) (n1 - 1) (c1 - 1) (es.drop 1) w2 HLD.out (HS.out.2.1.drop c1 1 (by omega) hc1) (by omega) (by omega) (by rw [sld_blk]; exact fun b hb => Nat.lt_of_lt_of_le (HAB.out b hb) (by have := HZ.out.lt; omega))).mono ?_
  rintro e w3 ⟨d, ra, rl, rc, c, hd, rfl, hc, hb3⟩
  have HC := Lib.hid hc
  have HD := Lib.hid hd
  have HID := Lib.hid (info32 dtR hd)
  have HZD := Lib.hid (zsize hd)
  have HIR := Lib.hid (info32 dtR HR.out)
  have HWAY := Lib.hid (show ∀ W, MC1 w root (some ⟨lb, lo, none⟩) n1 es W → DR W (sld (some ⟨lb, lo, none⟩) c1 1) (n1 - 1) (es.drop 1) from fun W hW => hW.2.1.drop c1 1 (by omega) hc1)
  have HS3 := Lib.hid (HS.out.step hb3)
  have HZ3 := Lib.hid (HZ.out.below hb3 HZ.out.lt)
  have HWD := Lib.hid (show ∀ x ∈ es.drop 1, D32 x from d32_drop HES.out 1)
  have K1 := Lib.hid (fun (O : Obj) (hO : O = .cells (cellsOf zs32).toArray 26 (0, 0)) => show MC1 w root (some ⟨lb, lo, none⟩) n1 es ((w3.alloc O).setRow w3.heap.size (cellsOf d).toArray) ∧ Brow ((w3.alloc O).setRow w3.heap.size (cellsOf d).toArray) w1.heap.size 26 leaf ∧ Brow ((w3.alloc O).setRow w3.heap.size (cellsOf d).toArray) w3.heap.size 26 d from by
    subst hO
    have hb : Below w3.heap.size w3 ((w3.alloc (.cells (cellsOf zs32).toArray 26 (0, 0))).setRow w3.heap.size (cellsOf d).toArray) := ((Below.refl _ _).alloc (Nat.le_refl _) _).setRow (Nat.le_refl _) _
    exact ⟨HS3.out.step hb, HZ3.out.below hb HZ3.out.lt, (Brow.new w3 26 zs32).setRow⟩)
  clear hc hd hb3 HS HZ
  go_upto_region 6 with (first | (refine wpList_store_row (by rfl) 26 _ _ (by rfl) w3.heap.size (cellsOf d).toArray (by rfl) (by rfl) 26 (cellsOf zs32).toArray (by exact heap_new _ _) HID.out HZD.out (cellsOf_all _) ?_))
  refine gen_code (F := fun W => MC1 w root (some ⟨lb, lo, none⟩) n1 es W ∧ Brow W w1.heap.size 26 leaf ∧ Brow W w3.heap.size 26 d) (K1.out _ rfl) ?_
  rintro w4 ⟨hs, hz, hx⟩
  have HS4 := Lib.hid hs
  have HZ4 := Lib.hid hz
  have HX4 := Lib.hid hx
  clear hs hz hx K1 HS3 HZ3
  go_wp2_with (first | (refine wpList_load_row (by rfl) 26 _ (by rfl) w.heap.size (by rfl) _ (cellsOf root).toArray (0, 0) _ HS4.out.1 Tryd.underlying26 (by rfl) HIR.out ?_) | (refine wpList_load_row (by rfl) 26 _ (by rfl) w3.heap.size (by rfl) _ (cellsOf d).toArray (0, 0) _ HX4.out Tryd.underlying26 (by rfl) HID.out ?_) | (refine wpList_lay2 (by rfl) (.tmp 41) (.tmp 42) 43 root d HR.out HD.out (by rfl) (by rfl) (by rfl) ?_; intro w5 hdr hb5; have HL5 := Lib.hid (show MCL w root leaf d w1.heap.size w4.heap.size (sld (some ⟨lb, lo, none⟩) c1 1) (n1 - 1) (es.drop 1) w5 from ⟨HS4.out.1.below hb5 HS4.out.1.lt, HZ4.out.below hb5 HZ4.out.lt, (HWAY.out _ HS4.out).below hb5, hdr, HS4.out.2.2.trans (hb5.mono HS4.out.2.2.size)⟩); clear hdr hb5))
  obtain ⟨gp, hgp⟩ : ∃ g, g = w4.heap.size := ⟨_, rfl⟩
  rw [← hgp] at HL5 ⊢
  have hablk : ∀ W, MCL w root leaf d w1.heap.size gp (sld (some ⟨lb, lo, none⟩) c1 1) (n1 - 1) (es.drop 1) W → ∀ b, blkOf (sld (some ⟨lb, lo, none⟩) c1 1) = some b → b < W.heap.size := by
    intro W hW b hb
    rw [sld_blk] at hb
    have h1 := HAB.out b hb
    have h2 := hW.2.1.lt
    omega
  have HABL := Lib.hid hablk
  clear hablk HS4 HZ4 HX4 hgp
  go_loopw [45] (fun q wr => ∃ k : Nat, k ≤ 2 ∧ q = .int .i64 k ∧ Hid (MCL w root leaf d w1.heap.size gp (sld (some ⟨lb, lo, none⟩) c1 1) (n1 - 1) (es.drop 1) wr)) (fun q _ => 2 - (intOf q).toNat)
  case atStart => exact ⟨0, by omega, rfl, HL5⟩
  case round =>
    clear HL5
    obtain ⟨k, hk2, rfl, HM⟩ := hrel
    by_cases hk : k < 2
    · obtain ⟨x, hx⟩ : ∃ x, x = [root, d].getD k [] := ⟨_, rfl⟩
      have HX := Lib.hid (show D32 x from by rw [hx]; exact D32.get HM.out.2.2.2.1.2.1 k hk)
      have kI := fun W => run_dindex dtR W gp 0 2 2 k hk
      have HLX0 := Lib.hid (run_dload dtR wr gp (0 + k * 32) x HX.out (by
        obtain ⟨b', o', h1, _, h3⟩ := HM.out.2.2.2.1.at k hk
        simp only [Option.some.injEq, Addr.mk.injEq, and_true] at h1
        obtain ⟨rfl, rfl⟩ := h1
        rw [hx]
        exact h3))
      have HIX := Lib.hid (info32 dtR HX.out)
      have HZX := Lib.hid (zsize HX.out)
      have K2 := Lib.hid (fun (O : Obj) (hO : O = .cells (cellsOf zs32).toArray 26 (0, 0)) => show MCX w root leaf d w1.heap.size gp (sld (some ⟨lb, lo, none⟩) c1 1) (n1 - 1) (es.drop 1) wr.heap.size x ((wr.alloc O).setRow wr.heap.size (cellsOf x).toArray) from by
        subst hO
        have hb : Below wr.heap.size wr ((wr.alloc (.cells (cellsOf zs32).toArray 26 (0, 0))).setRow wr.heap.size (cellsOf x).toArray) := ((Below.refl _ _).alloc (Nat.le_refl _) _).setRow (Nat.le_refl _) _
        exact ⟨HM.out.step hb, (Brow.new wr 26 zs32).setRow⟩)
      simp only [Nat.zero_add] at kI HLX0
      clear hx
      go_upto_region 9 with (first | (refine wpList_loadg 26 _ (by rfl) (by rfl) (.pointer (some ⟨gp, k * 32, none⟩)) (by rfl) (.agg (cellsOf x).toArray) HLX0.out ?_) | (refine wpList_store_row (by rfl) 26 _ _ (by rfl) wr.heap.size (cellsOf x).toArray (by rfl) (by rfl) 26 (cellsOf zs32).toArray (by exact heap_new _ _) HIX.out HZX.out (cellsOf_all _) ?_))
      obtain ⟨gx, hgx⟩ : ∃ g, g = wr.heap.size := ⟨_, rfl⟩
      rw [← hgx] at K2 ⊢
      refine gen_code (F := MCX w root leaf d w1.heap.size gp (sld (some ⟨lb, lo, none⟩) c1 1) (n1 - 1) (es.drop 1) gx x) (by rw [hgx]; rw [hgx] at K2; exact K2.out _ rfl) ?_
      intro w6 h6
      have HS := Lib.hid (show MCX w root leaf d w1.heap.size gp (sld (some ⟨lb, lo, none⟩) c1 1) (n1 - 1) (es.drop 1) gx x w6.drew from ⟨h6.1.drew, h6.2.drew⟩)
      clear h6 K2 hgx kI HLX0 HM
      (try dsimp only [Act.put, List.setIfInBounds_toArray, List.set_cons_zero, List.set_cons_succ])
      have HLX := Lib.hid (fun W (hW : MCX w root leaf d w1.heap.size gp (sld (some ⟨lb, lo, none⟩) c1 1) (n1 - 1) (es.drop 1) gx x W) => run_dload dtR W gx 0 x HX.out hW.2.range)
      have HLL := Lib.hid (fun W (hW : MCX w root leaf d w1.heap.size gp (sld (some ⟨lb, lo, none⟩) c1 1) (n1 - 1) (es.drop 1) gx x W) => run_dload dtR W w1.heap.size 0 leaf HLD.out hW.1.2.1.range)
      have HTO := Lib.hid (fun W (hW : DR W (sld (some ⟨lb, lo, none⟩) c1 1) (n1 - 1) (es.drop 1)) => to_c (n1 - 1) (es.drop 1) (sld (some ⟨lb, lo, none⟩) c1 1) (c1 - 1) W hW (by omega))
      obtain ⟨B, hB⟩ : ∃ B, B = ckB n i leaf (es.drop 1) x := ⟨_, rfl⟩
      have HCK := Lib.hid (show ∀ W fa fn fc, Below w.heap.size w W → DR W fa fn (es.drop 1) → fn ≤ fc → fc ≤ 9223372036854775807 → Calls Tryd.prog 24 #[.agg (cellsOf x).toArray, .int .i64 n, .int .i64 i, .agg (cellsOf leaf).toArray, .slice fa fn fc] W (fun e w' => e = .returned (.bool B) ∧ Below W.heap.size W w') from fun W fa fn fc h1 h2 h3 h4 => by rw [hB]; exact check_g n i x leaf fa fn fc _ W hn2 HX.out HLD.out h2 h3 h4 (HT.out.below h1 hpos))
      have HRK := Lib.hid (show ∀ W, MCL w root leaf d w1.heap.size gp (sld (some ⟨lb, lo, none⟩) c1 1) (n1 - 1) (es.drop 1) W → Calls Tryd.prog 26 #[.agg (cellsOf x).toArray, .int .i64 n, .int .i64 i, .agg (cellsOf leaf).toArray, .slice (sld (some ⟨lb, lo, none⟩) c1 1) (n1 - 1) (c1 - 1)] W (fun e w' => e = .returned (.bool B) ∧ Below W.heap.size W w') from fun W hW => by rw [hB]; exact rcheck_g n i x leaf _ _ _ _ W hn2 HX.out HLD.out hW.2.2.1 (by omega) (by omega) (HABL.out W hW))
      clear hB
      refine anyH_begin (S := MCX w root leaf d w1.heap.size gp (sld (some ⟨lb, lo, none⟩) c1 1) (n1 - 1) (es.drop 1) gx x) (by kernel_rfl) ?_
      refine anyH_loadG 0 (d := 49) (ty := 26) (x := (.tmp 14)) (gd := none) (p := .pointer (some ⟨gx, 0, none⟩)) (.agg (cellsOf x).toArray) (by rfl) (fun o ho => wanted_plain ho _) (by kernel_rfl) (by kernel_rfl) (by kernel_rfl) (fun _ _ _ h => h) (by rfl) HLX.out HS.out ?_
      simp only [Act.put, List.setIfInBounds_toArray, List.set_cons_zero, List.set_cons_succ]
      refine anyH_pureG 1 (d := 50) (op := .move (.tmp 1)) (gd := none) (.int .i64 n) (by rfl) (fun o ho => wanted_plain ho _) (by kernel_rfl) (by kernel_rfl) (by kernel_rfl) (fun _ _ _ h => h) (fun o ho W hW => by unfold execOp; simp only [ho]; go_simp) HS.out ?_
      simp only [Act.put, List.setIfInBounds_toArray, List.set_cons_zero, List.set_cons_succ]
      refine anyH_pureG 2 (d := 51) (op := .move (.tmp 2)) (gd := none) (.int .i64 i) (by rfl) (fun o ho => wanted_plain ho _) (by kernel_rfl) (by kernel_rfl) (by kernel_rfl) (fun _ _ _ h => h) (fun o ho W hW => by unfold execOp; simp only [ho]; go_simp) HS.out ?_
      simp only [Act.put, List.setIfInBounds_toArray, List.set_cons_zero, List.set_cons_succ]
      refine anyH_loadG 3 (d := 52) (ty := 26) (x := (.tmp 9)) (gd := none) (p := .pointer (some ⟨w1.heap.size, 0, none⟩)) (.agg (cellsOf leaf).toArray) (by rfl) (fun o ho => wanted_plain ho _) (by kernel_rfl) (by kernel_rfl) (by kernel_rfl) (fun _ _ _ h => h) (by rfl) HLL.out HS.out ?_
      simp only [Act.put, List.setIfInBounds_toArray, List.set_cons_zero, List.set_cons_succ]
      refine anyH_pureG 4 (d := 53) (op := .move (.tmp 3)) (gd := none) (.slice (sld (some ⟨lb, lo, none⟩) c1 1) (n1 - 1) (c1 - 1)) (by rfl) (fun o ho => wanted_plain ho _) (by kernel_rfl) (by kernel_rfl) (by kernel_rfl) (fun _ _ _ h => h) (fun o ho W hW => by unfold execOp; simp only [ho]; go_simp) HS.out ?_
      simp only [Act.put, List.setIfInBounds_toArray, List.set_cons_zero, List.set_cons_succ]
      refine anyH_loadG 7 (d := 56) (ty := 26) (x := (.tmp 14)) (gd := none) (p := .pointer (some ⟨gx, 0, none⟩)) (.agg (cellsOf x).toArray) (by rfl) (fun o ho => wanted_plain ho _) (by kernel_rfl) (by kernel_rfl) (by kernel_rfl) (fun _ _ _ h => h) (by rfl) HLX.out HS.out ?_
      simp only [Act.put, List.setIfInBounds_toArray, List.set_cons_zero, List.set_cons_succ]
      refine anyH_pureG 8 (d := 57) (op := .move (.tmp 1)) (gd := none) (.int .i64 n) (by rfl) (fun o ho => wanted_plain ho _) (by kernel_rfl) (by kernel_rfl) (by kernel_rfl) (fun _ _ _ h => h) (fun o ho W hW => by unfold execOp; simp only [ho]; go_simp) HS.out ?_
      simp only [Act.put, List.setIfInBounds_toArray, List.set_cons_zero, List.set_cons_succ]
      refine anyH_pureG 9 (d := 58) (op := .move (.tmp 2)) (gd := none) (.int .i64 i) (by rfl) (fun o ho => wanted_plain ho _) (by kernel_rfl) (by kernel_rfl) (by kernel_rfl) (fun _ _ _ h => h) (fun o ho W hW => by unfold execOp; simp only [ho]; go_simp) HS.out ?_
      simp only [Act.put, List.setIfInBounds_toArray, List.set_cons_zero, List.set_cons_succ]
      refine anyH_loadG 10 (d := 59) (ty := 26) (x := (.tmp 9)) (gd := none) (p := .pointer (some ⟨w1.heap.size, 0, none⟩)) (.agg (cellsOf leaf).toArray) (by rfl) (fun o ho => wanted_plain ho _) (by kernel_rfl) (by kernel_rfl) (by kernel_rfl) (fun _ _ _ h => h) (by rfl) HLL.out HS.out ?_
      simp only [Act.put, List.setIfInBounds_toArray, List.set_cons_zero, List.set_cons_succ]
      refine anyH_pureG 11 (d := 60) (op := .move (.tmp 3)) (gd := none) (.slice (sld (some ⟨lb, lo, none⟩) c1 1) (n1 - 1) (c1 - 1)) (by rfl) (fun o ho => wanted_plain ho _) (by kernel_rfl) (by kernel_rfl) (by kernel_rfl) (fun _ _ _ h => h) (fun o ho W hW => by unfold execOp; simp only [ho]; go_simp) HS.out ?_
      simp only [Act.put, List.setIfInBounds_toArray, List.set_cons_zero, List.set_cons_succ]
      refine anyH_callG 5 (d := some 54) (f := 18) (xs := #[(.tmp 53)]) (ts := #[22]) (gd := none) (vs := #[.slice (sld (some ⟨lb, lo, none⟩) c1 1) (n1 - 1) (c1 - 1)]) (by kernel_rfl) (by rfl) (fun o ho => wanted_plain ho _) (by go_simp) (by go_simp) (HTO.out _ HS.out.1.2.2.1) ?_
      rintro e71 w71 ⟨v71, rfl, hov71, hb71⟩
      obtain ⟨fa, fn, fc, rfl, hfn, hfc, hfm, _, hr71⟩ := hov71.form HWD.out
      refine ⟨_, rfl, HS.out.step hb71, fun hS71 => ?_⟩
      have HS := Lib.hid hS71
      have HF := Lib.hid hr71
      clear hov71 hr71 hS71 hb71
      simp only [Act.put, List.setIfInBounds_toArray, List.set_cons_zero, List.set_cons_succ]
      refine anyH_callG 6 (d := some 55) (f := 24) (xs := #[(.tmp 49), (.tmp 50), (.tmp 51), (.tmp 52), (.tmp 54)]) (ts := #[27, 3, 3, 27, 31]) (gd := none) (vs := #[.agg (cellsOf x).toArray, .int .i64 n, .int .i64 i, .agg (cellsOf leaf).toArray, .slice fa fn fc]) (by kernel_rfl) (by rfl) (fun o ho => wanted_plain ho _) (by go_simp) (by go_simp) (HCK.out _ fa fn fc HS.out.1.2.2.2.2 HF.out hfc hfm) ?_
      rintro e72 w72 ⟨rfl, hb72⟩
      refine ⟨_, rfl, HS.out.step hb72, fun hS72 => ?_⟩
      have HS := Lib.hid hS72
      clear hS72 hb72
      simp only [Act.put, List.setIfInBounds_toArray, List.set_cons_zero, List.set_cons_succ]
      refine anyH_callG 12 (d := some 61) (f := 26) (xs := #[(.tmp 56), (.tmp 57), (.tmp 58), (.tmp 59), (.tmp 60)]) (ts := #[26, 3, 3, 26, 22]) (gd := none) (vs := #[.agg (cellsOf x).toArray, .int .i64 n, .int .i64 i, .agg (cellsOf leaf).toArray, .slice (sld (some ⟨lb, lo, none⟩) c1 1) (n1 - 1) (c1 - 1)]) (by kernel_rfl) (by rfl) (fun o ho => wanted_plain ho _) (by go_simp) (by go_simp) (HRK.out _ HS.out.1) ?_
      rintro e73 w73 ⟨rfl, hb73⟩
      refine ⟨_, rfl, HS.out.step hb73, fun hS73 => ?_⟩
      have HS := Lib.hid hS73
      clear hS73 hb73
      simp only [Act.put, List.setIfInBounds_toArray, List.set_cons_zero, List.set_cons_succ]
      refine anyH_pureG 13 (d := 62) (op := .binOp .neq 4 (.tmp 55) (.tmp 61) 4) (gd := none) (.bool false) (by rfl) (fun o ho => wanted_plain ho _) (by kernel_rfl) (by kernel_rfl) (by kernel_rfl) (fun _ _ _ h => h) (fun o ho W hW => by unfold execOp; simp only [ho]; cases B <;> go_simp) HS.out ?_
      simp only [Act.put, List.setIfInBounds_toArray, List.set_cons_zero, List.set_cons_succ]
      refine wpAnyH_done (by kernel_rfl) ?_ _
      have HM2 := Lib.hid HS.out.1
      clear HS HLX HLL HTO HCK HRK
      go_wp2
      go_roundw
      case rel => exact ⟨k + 1, by omega, by go_num, HM2⟩
      case measure => simp [intOf]; omega
    · go_upto_region 12 with fail
      (try dsimp only [Act.put, List.setIfInBounds_toArray, List.set_cons_zero, List.set_cons_succ])
      have HS := Lib.hid HM.out.drew
      have HLL := Lib.hid (fun W (hW : MCL w root leaf d w1.heap.size gp (sld (some ⟨lb, lo, none⟩) c1 1) (n1 - 1) (es.drop 1) W) => run_dload dtR W w1.heap.size 0 leaf HLD.out hW.2.1.range)
      have HLR := Lib.hid (fun W (hW : MCL w root leaf d w1.heap.size gp (sld (some ⟨lb, lo, none⟩) c1 1) (n1 - 1) (es.drop 1) W) => run_dload dtR W w.heap.size 0 root HR.out hW.1.range)
      have HAW := Lib.hid (fun W (hW : MCL w root leaf d w1.heap.size gp (sld (some ⟨lb, lo, none⟩) c1 1) (n1 - 1) (es.drop 1) W) => awake3_c W (HT.out.below hW.2.2.2.2 hpos))
      cases c with
      | true =>
        refine anyH_begin (S := MCL w root leaf d w1.heap.size gp (sld (some ⟨lb, lo, none⟩) c1 1) (n1 - 1) (es.drop 1)) (by kernel_rfl) ?_
        refine anyH_callG 0 (d := some 64) (f := 14) (xs := #[]) (ts := #[]) (gd := none) (vs := #[]) (by kernel_rfl) (by rfl) (fun o ho => wanted_plain ho _) (by go_simp) (by go_simp) (HAW.out _ HS.out) ?_
        rintro e81 w81 ⟨rfl, hb81⟩
        refine ⟨_, rfl, HS.out.step hb81, fun hS81 => ?_⟩
        have HS := Lib.hid hS81
        clear hS81 hb81
        simp only [Act.put, List.setIfInBounds_toArray, List.set_cons_zero, List.set_cons_succ]
        refine anyH_pureG 1 (d := 65) (op := .move (.tmp 64)) (gd := none) (.bool true) (by rfl) (fun o ho => wanted_plain ho _) (by kernel_rfl) (by kernel_rfl) (by kernel_rfl) (fun _ _ _ h => h) (fun o ho W hW => by unfold execOp; simp only [ho]; go_simp) HS.out ?_
        simp only [Act.put, List.setIfInBounds_toArray, List.set_cons_zero, List.set_cons_succ]
        refine anyH_pureG 2 (d := 66) (op := .move (.tmp 12)) (gd := some (1, true)) (.bool true) (by rfl) (fun o ho => by simp only [Region.wanted, ho]; rfl) (by kernel_rfl) (by kernel_rfl) (by kernel_rfl) (fun _ _ _ h => h) (fun o ho W hW => by unfold execOp; simp only [ho]; go_simp) HS.out ?_
        simp only [Act.put, List.setIfInBounds_toArray, List.set_cons_zero, List.set_cons_succ]
        refine anyH_pureG 3 (d := 67) (op := .move (.tmp 66)) (gd := some (1, true)) (.bool true) (by rfl) (fun o ho => by simp only [Region.wanted, ho]; rfl) (by kernel_rfl) (by kernel_rfl) (by kernel_rfl) (fun _ _ _ h => h) (fun o ho W hW => by unfold execOp; simp only [ho]; go_simp) HS.out ?_
        simp only [Act.put, List.setIfInBounds_toArray, List.set_cons_zero, List.set_cons_succ]
        refine anyH_skip 4 (d := 68) (op := .load 26 (.tmp 4)) (gd := some (3, false)) (by rfl) (fun o ho => by simp only [Region.wanted, ho]; rfl) (by kernel_rfl) (by kernel_rfl) (by kernel_rfl) (fun _ _ _ h => h) HS.out ?_
        simp only [Act.put, List.setIfInBounds_toArray, List.set_cons_zero, List.set_cons_succ]
        refine anyH_skip 5 (d := 69) (op := .move (.tmp 1)) (gd := some (3, false)) (by rfl) (fun o ho => by simp only [Region.wanted, ho]; rfl) (by kernel_rfl) (by kernel_rfl) (by kernel_rfl) (fun _ _ _ h => h) HS.out ?_
        simp only [Act.put, List.setIfInBounds_toArray, List.set_cons_zero, List.set_cons_succ]
        refine anyH_skip 6 (d := 70) (op := .move (.tmp 2)) (gd := some (3, false)) (by rfl) (fun o ho => by simp only [Region.wanted, ho]; rfl) (by kernel_rfl) (by kernel_rfl) (by kernel_rfl) (fun _ _ _ h => h) HS.out ?_
        simp only [Act.put, List.setIfInBounds_toArray, List.set_cons_zero, List.set_cons_succ]
        refine anyH_skip 7 (d := 71) (op := .load 26 (.tmp 9)) (gd := some (3, false)) (by rfl) (fun o ho => by simp only [Region.wanted, ho]; rfl) (by kernel_rfl) (by kernel_rfl) (by kernel_rfl) (fun _ _ _ h => h) HS.out ?_
        simp only [Act.put, List.setIfInBounds_toArray, List.set_cons_zero, List.set_cons_succ]
        refine anyH_skip 8 (d := 72) (op := .move (.tmp 3)) (gd := some (3, false)) (by rfl) (fun o ho => by simp only [Region.wanted, ho]; rfl) (by kernel_rfl) (by kernel_rfl) (by kernel_rfl) (fun _ _ _ h => h) HS.out ?_
        simp only [Act.put, List.setIfInBounds_toArray, List.set_cons_zero, List.set_cons_succ]
        refine anyH_skip 9 (d := 73) (op := .call { callee := .value (.func 18), args := #[(.tmp 72)], argTypes := #[22] }) (gd := some (3, false)) (by rfl) (fun o ho => by simp only [Region.wanted, ho]; rfl) (by kernel_rfl) (by kernel_rfl) (by kernel_rfl) (fun _ _ _ h => h) HS.out ?_
        simp only [Act.put, List.setIfInBounds_toArray, List.set_cons_zero, List.set_cons_succ]
        refine anyH_skip 10 (d := 74) (op := .call { callee := .value (.func 24), args := #[(.tmp 68), (.tmp 69), (.tmp 70), (.tmp 71), (.tmp 73)], argTypes := #[27, 3, 3, 27, 31] }) (gd := some (3, false)) (by rfl) (fun o ho => by simp only [Region.wanted, ho]; rfl) (by kernel_rfl) (by kernel_rfl) (by kernel_rfl) (fun _ _ _ h => h) HS.out ?_
        simp only [Act.put, List.setIfInBounds_toArray, List.set_cons_zero, List.set_cons_succ]
        refine anyH_skip 11 (d := 75) (op := .unOp .not 4 (.tmp 74)) (gd := some (3, false)) (by rfl) (fun o ho => by simp only [Region.wanted, ho]; rfl) (by kernel_rfl) (by kernel_rfl) (by kernel_rfl) (fun _ _ _ h => h) HS.out ?_
        simp only [Act.put, List.setIfInBounds_toArray, List.set_cons_zero, List.set_cons_succ]
        refine anyH_pureG 12 (d := 76) (op := .pick (.tmp 67) (.const (.bool true)) (.tmp 75)) (gd := some (1, true)) (.bool true) (by rfl) (fun o ho => by simp only [Region.wanted, ho]; rfl) (by kernel_rfl) (by kernel_rfl) (by kernel_rfl) (fun _ _ _ h => h) (fun o ho W hW => by unfold execOp; simp only [ho]; go_simp) HS.out ?_
        simp only [Act.put, List.setIfInBounds_toArray, List.set_cons_zero, List.set_cons_succ]
        refine anyH_pureG 13 (d := 77) (op := .pick (.tmp 65) (.tmp 76) (.const (.bool false))) (gd := none) (.bool true) (by rfl) (fun o ho => wanted_plain ho _) (by kernel_rfl) (by kernel_rfl) (by kernel_rfl) (fun _ _ _ h => h) (fun o ho W hW => by unfold execOp; simp only [ho]; go_simp) HS.out ?_
        simp only [Act.put, List.setIfInBounds_toArray, List.set_cons_zero, List.set_cons_succ]
        refine anyH_pureG 14 (d := 8) (op := .assign (.tmp 77)) (gd := none) (.bool true) (by rfl) (fun o ho => wanted_plain ho _) (by kernel_rfl) (by kernel_rfl) (by kernel_rfl) (fun _ _ _ h => h) (fun o ho W hW => by unfold execOp; simp only [ho]; go_simp) HS.out ?_
        simp only [Act.put, List.setIfInBounds_toArray, List.set_cons_zero, List.set_cons_succ]
        refine wpAnyH_done (by kernel_rfl) ?_ _
        go_wp2
        go_ret
        exact ⟨rfl, HS.out.2.2.2.2⟩
      | false =>
        have HTO := Lib.hid (fun W (hW : DR W (sld (some ⟨lb, lo, none⟩) c1 1) (n1 - 1) (es.drop 1)) => to_c (n1 - 1) (es.drop 1) (sld (some ⟨lb, lo, none⟩) c1 1) (c1 - 1) W hW (by omega))
        have HCK := Lib.hid (show ∀ W fa fn fc, Below w.heap.size w W → DR W fa fn (es.drop 1) → fn ≤ fc → fc ≤ 9223372036854775807 → Calls Tryd.prog 24 #[.agg (cellsOf root).toArray, .int .i64 n, .int .i64 i, .agg (cellsOf leaf).toArray, .slice fa fn fc] W (fun e w' => e = .returned (.bool false) ∧ Below W.heap.size W w') from fun W fa fn fc h1 h2 h3 h4 => by
          have h := check_g n i root leaf fa fn fc _ W hn2 HR.out HLD.out h2 h3 h4 (HT.out.below h1 hpos)
          rw [HC.out rfl root] at h
          exact h)
        refine anyH_begin (S := MCL w root leaf d w1.heap.size gp (sld (some ⟨lb, lo, none⟩) c1 1) (n1 - 1) (es.drop 1)) (by kernel_rfl) ?_
        refine anyH_callG 0 (d := some 64) (f := 14) (xs := #[]) (ts := #[]) (gd := none) (vs := #[]) (by kernel_rfl) (by rfl) (fun o ho => wanted_plain ho _) (by go_simp) (by go_simp) (HAW.out _ HS.out) ?_
        rintro e81 w81 ⟨rfl, hb81⟩
        refine ⟨_, rfl, HS.out.step hb81, fun hS81 => ?_⟩
        have HS := Lib.hid hS81
        clear hS81 hb81
        simp only [Act.put, List.setIfInBounds_toArray, List.set_cons_zero, List.set_cons_succ]
        refine anyH_pureG 1 (d := 65) (op := .move (.tmp 64)) (gd := none) (.bool true) (by rfl) (fun o ho => wanted_plain ho _) (by kernel_rfl) (by kernel_rfl) (by kernel_rfl) (fun _ _ _ h => h) (fun o ho W hW => by unfold execOp; simp only [ho]; go_simp) HS.out ?_
        simp only [Act.put, List.setIfInBounds_toArray, List.set_cons_zero, List.set_cons_succ]
        refine anyH_pureG 2 (d := 66) (op := .move (.tmp 12)) (gd := some (1, true)) (.bool false) (by rfl) (fun o ho => by simp only [Region.wanted, ho]; rfl) (by kernel_rfl) (by kernel_rfl) (by kernel_rfl) (fun _ _ _ h => h) (fun o ho W hW => by unfold execOp; simp only [ho]; go_simp) HS.out ?_
        simp only [Act.put, List.setIfInBounds_toArray, List.set_cons_zero, List.set_cons_succ]
        refine anyH_pureG 3 (d := 67) (op := .move (.tmp 66)) (gd := some (1, true)) (.bool false) (by rfl) (fun o ho => by simp only [Region.wanted, ho]; rfl) (by kernel_rfl) (by kernel_rfl) (by kernel_rfl) (fun _ _ _ h => h) (fun o ho W hW => by unfold execOp; simp only [ho]; go_simp) HS.out ?_
        simp only [Act.put, List.setIfInBounds_toArray, List.set_cons_zero, List.set_cons_succ]
        refine anyH_loadG 4 (d := 68) (ty := 26) (x := (.tmp 4)) (gd := some (3, false)) (p := .pointer (some ⟨w.heap.size, 0, none⟩)) (.agg (cellsOf root).toArray) (by rfl) (fun o ho => by simp only [Region.wanted, ho]; rfl) (by kernel_rfl) (by kernel_rfl) (by kernel_rfl) (fun _ _ _ h => h) (by rfl) HLR.out HS.out ?_
        simp only [Act.put, List.setIfInBounds_toArray, List.set_cons_zero, List.set_cons_succ]
        refine anyH_pureG 5 (d := 69) (op := .move (.tmp 1)) (gd := some (3, false)) (.int .i64 n) (by rfl) (fun o ho => by simp only [Region.wanted, ho]; rfl) (by kernel_rfl) (by kernel_rfl) (by kernel_rfl) (fun _ _ _ h => h) (fun o ho W hW => by unfold execOp; simp only [ho]; go_simp) HS.out ?_
        simp only [Act.put, List.setIfInBounds_toArray, List.set_cons_zero, List.set_cons_succ]
        refine anyH_pureG 6 (d := 70) (op := .move (.tmp 2)) (gd := some (3, false)) (.int .i64 i) (by rfl) (fun o ho => by simp only [Region.wanted, ho]; rfl) (by kernel_rfl) (by kernel_rfl) (by kernel_rfl) (fun _ _ _ h => h) (fun o ho W hW => by unfold execOp; simp only [ho]; go_simp) HS.out ?_
        simp only [Act.put, List.setIfInBounds_toArray, List.set_cons_zero, List.set_cons_succ]
        refine anyH_loadG 7 (d := 71) (ty := 26) (x := (.tmp 9)) (gd := some (3, false)) (p := .pointer (some ⟨w1.heap.size, 0, none⟩)) (.agg (cellsOf leaf).toArray) (by rfl) (fun o ho => by simp only [Region.wanted, ho]; rfl) (by kernel_rfl) (by kernel_rfl) (by kernel_rfl) (fun _ _ _ h => h) (by rfl) HLL.out HS.out ?_
        simp only [Act.put, List.setIfInBounds_toArray, List.set_cons_zero, List.set_cons_succ]
        refine anyH_pureG 8 (d := 72) (op := .move (.tmp 3)) (gd := some (3, false)) (.slice (sld (some ⟨lb, lo, none⟩) c1 1) (n1 - 1) (c1 - 1)) (by rfl) (fun o ho => by simp only [Region.wanted, ho]; rfl) (by kernel_rfl) (by kernel_rfl) (by kernel_rfl) (fun _ _ _ h => h) (fun o ho W hW => by unfold execOp; simp only [ho]; go_simp) HS.out ?_
        simp only [Act.put, List.setIfInBounds_toArray, List.set_cons_zero, List.set_cons_succ]
        refine anyH_callG 9 (d := some 73) (f := 18) (xs := #[(.tmp 72)]) (ts := #[22]) (gd := some (3, false)) (vs := #[.slice (sld (some ⟨lb, lo, none⟩) c1 1) (n1 - 1) (c1 - 1)]) (by kernel_rfl) (by rfl) (fun o ho => by simp only [Region.wanted, ho]; rfl) (by go_simp) (by go_simp) (HTO.out _ HS.out.2.2.1) ?_
        rintro e82 w82 ⟨v82, rfl, hov82, hb82⟩
        obtain ⟨fa, fn, fc, rfl, hfn, hfc, hfm, _, hr82⟩ := hov82.form HWD.out
        refine ⟨_, rfl, HS.out.step hb82, fun hS82 => ?_⟩
        have HS := Lib.hid hS82
        have HF := Lib.hid hr82
        clear hov82 hr82 hS82 hb82
        simp only [Act.put, List.setIfInBounds_toArray, List.set_cons_zero, List.set_cons_succ]
        refine anyH_callG 10 (d := some 74) (f := 24) (xs := #[(.tmp 68), (.tmp 69), (.tmp 70), (.tmp 71), (.tmp 73)]) (ts := #[27, 3, 3, 27, 31]) (gd := some (3, false)) (vs := #[.agg (cellsOf root).toArray, .int .i64 n, .int .i64 i, .agg (cellsOf leaf).toArray, .slice fa fn fc]) (by kernel_rfl) (by rfl) (fun o ho => by simp only [Region.wanted, ho]; rfl) (by go_simp) (by go_simp) (HCK.out _ fa fn fc HS.out.2.2.2.2 HF.out hfc hfm) ?_
        rintro e83 w83 ⟨rfl, hb83⟩
        refine ⟨_, rfl, HS.out.step hb83, fun hS83 => ?_⟩
        have HS := Lib.hid hS83
        clear hS83 hb83
        simp only [Act.put, List.setIfInBounds_toArray, List.set_cons_zero, List.set_cons_succ]
        refine anyH_pureG 11 (d := 75) (op := .unOp .not 4 (.tmp 74)) (gd := some (3, false)) (.bool true) (by rfl) (fun o ho => by simp only [Region.wanted, ho]; rfl) (by kernel_rfl) (by kernel_rfl) (by kernel_rfl) (fun _ _ _ h => h) (fun o ho W hW => by unfold execOp; simp only [ho]; go_simp) HS.out ?_
        simp only [Act.put, List.setIfInBounds_toArray, List.set_cons_zero, List.set_cons_succ]
        refine anyH_pureG 12 (d := 76) (op := .pick (.tmp 67) (.const (.bool true)) (.tmp 75)) (gd := some (1, true)) (.bool true) (by rfl) (fun o ho => by simp only [Region.wanted, ho]; rfl) (by kernel_rfl) (by kernel_rfl) (by kernel_rfl) (fun _ _ _ h => h) (fun o ho W hW => by unfold execOp; simp only [ho]; go_simp) HS.out ?_
        simp only [Act.put, List.setIfInBounds_toArray, List.set_cons_zero, List.set_cons_succ]
        refine anyH_pureG 13 (d := 77) (op := .pick (.tmp 65) (.tmp 76) (.const (.bool false))) (gd := none) (.bool true) (by rfl) (fun o ho => wanted_plain ho _) (by kernel_rfl) (by kernel_rfl) (by kernel_rfl) (fun _ _ _ h => h) (fun o ho W hW => by unfold execOp; simp only [ho]; go_simp) HS.out ?_
        simp only [Act.put, List.setIfInBounds_toArray, List.set_cons_zero, List.set_cons_succ]
        refine anyH_pureG 14 (d := 8) (op := .assign (.tmp 77)) (gd := none) (.bool true) (by rfl) (fun o ho => wanted_plain ho _) (by kernel_rfl) (by kernel_rfl) (by kernel_rfl) (fun _ _ _ h => h) (fun o ho W hW => by unfold execOp; simp only [ho]; go_simp) HS.out ?_
        simp only [Act.put, List.setIfInBounds_toArray, List.set_cons_zero, List.set_cons_succ]
        refine wpAnyH_done (by kernel_rfl) ?_ _
        go_wp2
        go_ret
        exact ⟨rfl, HS.out.2.2.2.2⟩
set_option maxRecDepth 100000 in
set_option maxHeartbeats 4000000 in
theorem checks_nil (root : List Nat) (n i : Int) (wa : Option Addr) (wc : Nat) (w : World) (hr : D32 root) (ht : Tab w) (hn1 : -9223372036854775808 ≤ n) (hn2 : n ≤ 9223372036854775807) (hi1 : -9223372036854775808 ≤ i) (hi2 : i ≤ 9223372036854775807) :
    Calls Tryd.prog 5 #[.agg (cellsOf root).toArray, .int .i64 n, .int .i64 i, .slice wa 0 wc] w fun e w' => e = .returned (.bool true) ∧ Below w.heap.size w w' := by
  have HT := Lib.hid ht
  have hpos := ht.pos
  have HR := Lib.hid hr
  obtain ⟨m, hm1⟩ : ∃ m : Nat, m = 1 := ⟨_, rfl⟩
  have hzd : D32 zs32 := ⟨zs32_len, by decide⟩
  have HZD0 := Lib.hid hzd
  obtain ⟨es, hes⟩ : ∃ es : Ds, es = [zs32] := ⟨_, rfl⟩
  have HCUT := Lib.hid (show ∀ W g, DR W (some ⟨g, 0, none⟩) 1 [zs32] → Calls Tryd.prog 13 #[.slice (some ⟨g, 0, none⟩) 1 1, .int .i64 70] W (RetDs 26 es W) from fun W g hW => by
    have h := cut_c 1 1 70 [zs32] (some ⟨g, 0, none⟩) 1 W hW (by omega) (by simp) (by omega) (by omega)
    rw [hes]
    exact h)
  have HES := Lib.hid (show ∀ d ∈ es, D32 d from by rw [hes]; intro d hd; simp only [List.mem_singleton] at hd; subst hd; exact hzd)
  have hel : es.length = m := by rw [hes, hm1]; rfl
  have hm70 : m ≤ 70 := by omega
  have hm0 : 0 < m := by omega
  clear ht hes hr hzd hm1
  go_enter Tryd.func5, Tryd.ntmps5
  go_upto_region 1 with fail
  refine gen_code (F := fun W => Brow W w.heap.size 26 root ∧ Below w.heap.size w W) ⟨heap_new _ _, (Below.refl _ _).alloc (Nat.le_refl _) _⟩ ?_
  rintro wA ⟨hb, hbw⟩
  have HB0 := Lib.hid hb
  have HBW0 := Lib.hid hbw
  clear hb hbw
  go_upto_region 3 with (first | (refine wpList_dlay dtR (by rfl) _ (by rfl) wA.heap.size (by rfl) (some 19) (by rfl) zs32 HZD0.out (by rfl) ?_))
  have HAL := Lib.hid (show Below wA.heap.size wA (wA.alloc (.cells (cellsOf zs32).toArray 26)) from (Below.refl _ _).alloc (Nat.le_refl _) _)
  refine gen_code (F := fun W => (Brow W w.heap.size 26 root ∧ Below w.heap.size w W) ∧ DR W (some ⟨wA.heap.size, 0, none⟩) 1 [zs32]) ⟨⟨HB0.out.below HAL.out HB0.out.lt, HBW0.out.trans (HAL.out.mono HBW0.out.size)⟩, by
    have h := dr_new wA 26 [zs32] (by intro d hd; simp only [List.mem_singleton] at hd; subst hd; exact HZD0.out)
    simpa using h⟩ ?_
  rintro wB ⟨⟨hb, hbw⟩, hdr⟩
  have HB := Lib.hid hb
  have HBW := Lib.hid hbw
  have HDR0 := Lib.hid hdr
  clear hb hbw hdr HAL HB0 HBW0
  go_wp2_with fail
  refine (HCUT.out _ _ HDR0.out).mono ?_
  rintro e w1 ⟨v, rfl, hov, hb1⟩
  obtain ⟨a1, n1, c1, rfl, hnn, hc1, hc1m, _, hr1⟩ := hov.form HES.out
  have hab := hov.blk
  obtain rfl : n1 = m := by rw [← hnn, hel]
  obtain ⟨lb, lo, rfl, _, _⟩ := hr1.at 0 hm0
  have h1n : 0 < n1 := hm0
  obtain ⟨leaf, hleaf⟩ : ∃ leaf, leaf = es.getD 0 [] := ⟨_, rfl⟩
  have HLD := Lib.hid (show D32 leaf from by rw [hleaf]; exact D32.get HES.out 0 (by omega))
  have HS := Lib.hid (show MC1 w root (some ⟨lb, lo, none⟩) n1 es w1.drew from ⟨(HB.out.below hb1 HB.out.lt).drew, hr1, (HBW.out.trans (hb1.mono HBW.out.size)).drew⟩)
  have HLF := Lib.hid (fun W (hW : MC1 w root (some ⟨lb, lo, none⟩) n1 es W) => run_dload dtR W lb (lo + 0 * 32) leaf HLD.out (by
    obtain ⟨b', o', h1, _, h3⟩ := hW.2.1.at 0 h1n
    simp only [Option.some.injEq, Addr.mk.injEq, and_true] at h1
    obtain ⟨rfl, rfl⟩ := h1
    rw [hleaf]
    exact h3))
  have HAB := Lib.hid hab
  have HDR1 := Lib.hid hr1
  clear hov hb1 hr1 hab HB HBW HCUT hnn hel hleaf
  go_upto_region 4 with fail
  (try dsimp only [Act.put, List.setIfInBounds_toArray, List.set_cons_zero, List.set_cons_succ])
  refine anyH_begin (S := MC1 w root (some ⟨lb, lo, none⟩) n1 es) (by kernel_rfl) ?_
  refine anyH_pureG 0 (d := 22) (op := .move (.tmp 3)) (gd := none) (.slice (some ⟨lb, lo, none⟩) n1 c1) (by rfl) (fun o ho => wanted_plain ho _) (by kernel_rfl) (by kernel_rfl) (by kernel_rfl) (fun _ _ _ h => h) (fun o ho W hW => by unfold execOp; simp only [ho]; go_simp) HS.out ?_
  simp only [Act.put, List.setIfInBounds_toArray, List.set_cons_zero, List.set_cons_succ]
  refine anyH_dindex dtR 1 (d := 23) (x := .tmp 22) (y := .const (.int .i64 0)) lb lo n1 c1 0 h1n (by rfl) (by kernel_rfl) (by kernel_rfl) (by kernel_rfl) (fun _ _ _ h => h) (by rfl) (by rfl) HS.out ?_
  simp only [Act.put, List.setIfInBounds_toArray, List.set_cons_zero, List.set_cons_succ]
  refine anyH_loadG 2 (d := 24) (ty := 26) (x := (.tmp 23)) (gd := none) (p := .pointer (some ⟨lb, lo + 0 * 32, none⟩)) (.agg (cellsOf leaf).toArray) (by rfl) (fun o ho => wanted_plain ho _) (by kernel_rfl) (by kernel_rfl) (by kernel_rfl) (fun _ _ _ h => h) (by rfl) HLF.out HS.out ?_
  simp only [Act.put, List.setIfInBounds_toArray, List.set_cons_zero, List.set_cons_succ]
  refine anyH_pureG 3 (d := 25) (op := .move (.tmp 3)) (gd := none) (.slice (some ⟨lb, lo, none⟩) n1 c1) (by rfl) (fun o ho => wanted_plain ho _) (by kernel_rfl) (by kernel_rfl) (by kernel_rfl) (fun _ _ _ h => h) (fun o ho W hW => by unfold execOp; simp only [ho]; go_simp) HS.out ?_
  simp only [Act.put, List.setIfInBounds_toArray, List.set_cons_zero, List.set_cons_succ]
  refine anyH_dcut dtR 4 (d := 26) (x := .tmp 25) (y := .const (.int .i64 1)) (some ⟨lb, lo, none⟩) n1 c1 1 (by omega) (by rfl) (by kernel_rfl) (by kernel_rfl) (by kernel_rfl) (fun _ _ _ h => h) (by rfl) (by rfl) HS.out ?_
  simp only [Act.put, List.setIfInBounds_toArray, List.set_cons_zero, List.set_cons_succ]
  refine anyH_op 5 (d := some 9) (op := .alloc 26) (by kernel_rfl) (by rfl) ?_
  intro o0 hod hoo
  refine wp_alloc_r hoo ?_
  have HBa := Lib.hid (show Below w1.drew.heap.size w1.drew (w1.drew.alloc (.cells (cellsOf zs32).toArray 26)) from (Below.refl _ _).alloc (Nat.le_refl _) _)
  have HZ := Lib.hid (Brow.new w1.drew 26 zs32)
  have hg1 := HS.out.1.lt
  refine ⟨HS.out.step HBa.out, ?_⟩
  have HS := Lib.hid (HS.out.step HBa.out)
  rw [hod]
  clear hod hoo HBa
  simp only [Act.put, List.setIfInBounds_toArray, List.set_cons_zero, List.set_cons_succ]
  obtain ⟨g9, hg⟩ : ∃ g, g = w1.drew.heap.size := ⟨_, rfl⟩
  have hg91 : g9 = w1.heap.size := hg
  rw [← hg] at HZ hg1 ⊢
  have HGI := Lib.hid (info32 dtR HLD.out)
  have HTH := Lib.hid (HZ.out.there _ (show (cellsOf leaf).toArray.size = zs32.length from by rw [cellsOf_size, HLD.out.1, zs32_len]))
  refine anyH_op 6 (d := none) (op := .store 26 (.tmp 9) (.tmp 24)) (by kernel_rfl) (by rfl) ?_
  intro o1 hod hoo
  refine wp_store_mid 26 (.tmp 9) (.tmp 24) hoo g9 0 (cellsOf leaf).toArray (by rfl) (by rfl) HTH.out HGI.out (cellsOf_all _) ?_
  rw [hod, List.toList_toArray]
  have HO := Lib.hid (Only.setCells (cellsOf leaf) 0 (Only.refl g9 (w1.drew.alloc (.cells (cellsOf zs32).toArray 26))))
  have HZ2 := Lib.hid (HZ.out.setAll (ys := leaf) (by rw [HLD.out.1, zs32_len]))
  have HS2 := Lib.hid (show MC1 w root (some ⟨lb, lo, none⟩) n1 es _ from ⟨HS.out.1.only HO.out (by omega), HS.out.2.1.onlyB HAB.out (by omega) HO.out, HS.out.2.2.trans (HO.out.below (by omega) HS.out.2.2.size)⟩)
  refine ⟨HS2.out, ?_⟩
  clear HS HZ HTH HO hod hoo
  simp only [Act.put]
  refine anyH_pureG 7 (d := 3) (op := .assign (.tmp 26)) (gd := none) (.slice (sld (some ⟨lb, lo, none⟩) c1 1) (n1 - 1) (c1 - 1)) (by rfl) (fun o ho => wanted_plain ho _) (by kernel_rfl) (by kernel_rfl) (by kernel_rfl) (fun _ _ _ h => h) (fun o ho W hW => by unfold execOp; simp only [ho]; go_simp) HS2.out ?_
  simp only [Act.put, List.setIfInBounds_toArray, List.set_cons_zero, List.set_cons_succ]
  refine wpAnyH_done (by kernel_rfl) ?_ _
  refine gen_exit (F := fun W => MC1 w root (some ⟨lb, lo, none⟩) n1 es W ∧ Brow W g9 26 leaf) ⟨HS2.out, HZ2.out⟩ ?_
  rintro w2 ⟨hs, hz⟩
  have HS := Lib.hid hs
  have HZ := Lib.hid hz
  have HIL := Lib.hid (info32 dtR HLD.out)
  clear hs hz HS2 HZ2
  clear hg
  subst hg91
  go_wp2_with (first | (refine wpList_load_row (by rfl) 26 _ (by rfl) w1.heap.size (by rfl) _ (cellsOf leaf).toArray (0, 0) _ HZ.out Tryd.underlying26 (by rfl) HIL.out ?_))
  refine (up_any n i _ rfl hn1 hn2 leaf (sld (some ⟨lb, lo, none⟩) c1 1) (n1 - 1) (c1 - 1) (es.drop 1) w2 HLD.out (HS.out.2.1.drop c1 1 (by omega) hc1) (by omega) (by omega) (by rw [sld_blk]; exact fun b hb => Nat.lt_of_lt_of_le (HAB.out b hb) (by have := HZ.out.lt; omega))).mono ?_
  rintro e w3 ⟨d, ra, rl, rc, c, hd, rfl, hc, hb3⟩
  have HC := Lib.hid hc
  have HD := Lib.hid hd
  have HID := Lib.hid (info32 dtR hd)
  have HZD := Lib.hid (zsize hd)
  have HIR := Lib.hid (info32 dtR HR.out)
  have HWAY := Lib.hid (show ∀ W, MC1 w root (some ⟨lb, lo, none⟩) n1 es W → DR W (sld (some ⟨lb, lo, none⟩) c1 1) (n1 - 1) (es.drop 1) from fun W hW => hW.2.1.drop c1 1 (by omega) hc1)
  have HS3 := Lib.hid (HS.out.step hb3)
  have HZ3 := Lib.hid (HZ.out.below hb3 HZ.out.lt)
  have HWD := Lib.hid (show ∀ x ∈ es.drop 1, D32 x from d32_drop HES.out 1)
  have K1 := Lib.hid (fun (O : Obj) (hO : O = .cells (cellsOf zs32).toArray 26 (0, 0)) => show MC1 w root (some ⟨lb, lo, none⟩) n1 es ((w3.alloc O).setRow w3.heap.size (cellsOf d).toArray) ∧ Brow ((w3.alloc O).setRow w3.heap.size (cellsOf d).toArray) w1.heap.size 26 leaf ∧ Brow ((w3.alloc O).setRow w3.heap.size (cellsOf d).toArray) w3.heap.size 26 d from by
    subst hO
    have hb : Below w3.heap.size w3 ((w3.alloc (.cells (cellsOf zs32).toArray 26 (0, 0))).setRow w3.heap.size (cellsOf d).toArray) := ((Below.refl _ _).alloc (Nat.le_refl _) _).setRow (Nat.le_refl _) _
    exact ⟨HS3.out.step hb, HZ3.out.below hb HZ3.out.lt, (Brow.new w3 26 zs32).setRow⟩)
  clear hc hd hb3 HS HZ
  go_upto_region 6 with (first | (refine wpList_store_row (by rfl) 26 _ _ (by rfl) w3.heap.size (cellsOf d).toArray (by rfl) (by rfl) 26 (cellsOf zs32).toArray (by exact heap_new _ _) HID.out HZD.out (cellsOf_all _) ?_))
  refine gen_code (F := fun W => MC1 w root (some ⟨lb, lo, none⟩) n1 es W ∧ Brow W w1.heap.size 26 leaf ∧ Brow W w3.heap.size 26 d) (K1.out _ rfl) ?_
  rintro w4 ⟨hs, hz, hx⟩
  have HS4 := Lib.hid hs
  have HZ4 := Lib.hid hz
  have HX4 := Lib.hid hx
  clear hs hz hx K1 HS3 HZ3
  go_wp2_with (first | (refine wpList_load_row (by rfl) 26 _ (by rfl) w.heap.size (by rfl) _ (cellsOf root).toArray (0, 0) _ HS4.out.1 Tryd.underlying26 (by rfl) HIR.out ?_) | (refine wpList_load_row (by rfl) 26 _ (by rfl) w3.heap.size (by rfl) _ (cellsOf d).toArray (0, 0) _ HX4.out Tryd.underlying26 (by rfl) HID.out ?_) | (refine wpList_lay2 (by rfl) (.tmp 41) (.tmp 42) 43 root d HR.out HD.out (by rfl) (by rfl) (by rfl) ?_; intro w5 hdr hb5; have HL5 := Lib.hid (show MCL w root leaf d w1.heap.size w4.heap.size (sld (some ⟨lb, lo, none⟩) c1 1) (n1 - 1) (es.drop 1) w5 from ⟨HS4.out.1.below hb5 HS4.out.1.lt, HZ4.out.below hb5 HZ4.out.lt, (HWAY.out _ HS4.out).below hb5, hdr, HS4.out.2.2.trans (hb5.mono HS4.out.2.2.size)⟩); clear hdr hb5))
  obtain ⟨gp, hgp⟩ : ∃ g, g = w4.heap.size := ⟨_, rfl⟩
  rw [← hgp] at HL5 ⊢
  have hablk : ∀ W, MCL w root leaf d w1.heap.size gp (sld (some ⟨lb, lo, none⟩) c1 1) (n1 - 1) (es.drop 1) W → ∀ b, blkOf (sld (some ⟨lb, lo, none⟩) c1 1) = some b → b < W.heap.size := by
    intro W hW b hb
    rw [sld_blk] at hb
    have h1 := HAB.out b hb
    have h2 := hW.2.1.lt
    omega
  have HABL := Lib.hid hablk
  clear hablk HS4 HZ4 HX4 hgp
  go_loopw [45] (fun q wr => ∃ k : Nat, k ≤ 2 ∧ q = .int .i64 k ∧ Hid (MCL w root leaf d w1.heap.size gp (sld (some ⟨lb, lo, none⟩) c1 1) (n1 - 1) (es.drop 1) wr)) (fun q _ => 2 - (intOf q).toNat)
  case atStart => exact ⟨0, by omega, rfl, HL5⟩
  case round =>
    clear HL5
    obtain ⟨k, hk2, rfl, HM⟩ := hrel
    by_cases hk : k < 2
    · obtain ⟨x, hx⟩ : ∃ x, x = [root, d].getD k [] := ⟨_, rfl⟩
      have HX := Lib.hid (show D32 x from by rw [hx]; exact D32.get HM.out.2.2.2.1.2.1 k hk)
      have kI := fun W => run_dindex dtR W gp 0 2 2 k hk
      have HLX0 := Lib.hid (run_dload dtR wr gp (0 + k * 32) x HX.out (by
        obtain ⟨b', o', h1, _, h3⟩ := HM.out.2.2.2.1.at k hk
        simp only [Option.some.injEq, Addr.mk.injEq, and_true] at h1
        obtain ⟨rfl, rfl⟩ := h1
        rw [hx]
        exact h3))
      have HIX := Lib.hid (info32 dtR HX.out)
      have HZX := Lib.hid (zsize HX.out)
      have K2 := Lib.hid (fun (O : Obj) (hO : O = .cells (cellsOf zs32).toArray 26 (0, 0)) => show MCX w root leaf d w1.heap.size gp (sld (some ⟨lb, lo, none⟩) c1 1) (n1 - 1) (es.drop 1) wr.heap.size x ((wr.alloc O).setRow wr.heap.size (cellsOf x).toArray) from by
        subst hO
        have hb : Below wr.heap.size wr ((wr.alloc (.cells (cellsOf zs32).toArray 26 (0, 0))).setRow wr.heap.size (cellsOf x).toArray) := ((Below.refl _ _).alloc (Nat.le_refl _) _).setRow (Nat.le_refl _) _
        exact ⟨HM.out.step hb, (Brow.new wr 26 zs32).setRow⟩)
      simp only [Nat.zero_add] at kI HLX0
      clear hx
      go_upto_region 9 with (first | (refine wpList_loadg 26 _ (by rfl) (by rfl) (.pointer (some ⟨gp, k * 32, none⟩)) (by rfl) (.agg (cellsOf x).toArray) HLX0.out ?_) | (refine wpList_store_row (by rfl) 26 _ _ (by rfl) wr.heap.size (cellsOf x).toArray (by rfl) (by rfl) 26 (cellsOf zs32).toArray (by exact heap_new _ _) HIX.out HZX.out (cellsOf_all _) ?_))
      obtain ⟨gx, hgx⟩ : ∃ g, g = wr.heap.size := ⟨_, rfl⟩
      rw [← hgx] at K2 ⊢
      refine gen_code (F := MCX w root leaf d w1.heap.size gp (sld (some ⟨lb, lo, none⟩) c1 1) (n1 - 1) (es.drop 1) gx x) (by rw [hgx]; rw [hgx] at K2; exact K2.out _ rfl) ?_
      intro w6 h6
      have HS := Lib.hid (show MCX w root leaf d w1.heap.size gp (sld (some ⟨lb, lo, none⟩) c1 1) (n1 - 1) (es.drop 1) gx x w6.drew from ⟨h6.1.drew, h6.2.drew⟩)
      clear h6 K2 hgx kI HLX0 HM
      (try dsimp only [Act.put, List.setIfInBounds_toArray, List.set_cons_zero, List.set_cons_succ])
      have HLX := Lib.hid (fun W (hW : MCX w root leaf d w1.heap.size gp (sld (some ⟨lb, lo, none⟩) c1 1) (n1 - 1) (es.drop 1) gx x W) => run_dload dtR W gx 0 x HX.out hW.2.range)
      have HLL := Lib.hid (fun W (hW : MCX w root leaf d w1.heap.size gp (sld (some ⟨lb, lo, none⟩) c1 1) (n1 - 1) (es.drop 1) gx x W) => run_dload dtR W w1.heap.size 0 leaf HLD.out hW.1.2.1.range)
      have HTO := Lib.hid (fun W (hW : DR W (sld (some ⟨lb, lo, none⟩) c1 1) (n1 - 1) (es.drop 1)) => to_c (n1 - 1) (es.drop 1) (sld (some ⟨lb, lo, none⟩) c1 1) (c1 - 1) W hW (by omega))
      obtain ⟨B, hB⟩ : ∃ B, B = ckB n i leaf (es.drop 1) x := ⟨_, rfl⟩
      have HCK := Lib.hid (show ∀ W fa fn fc, Below w.heap.size w W → DR W fa fn (es.drop 1) → fn ≤ fc → fc ≤ 9223372036854775807 → Calls Tryd.prog 24 #[.agg (cellsOf x).toArray, .int .i64 n, .int .i64 i, .agg (cellsOf leaf).toArray, .slice fa fn fc] W (fun e w' => e = .returned (.bool B) ∧ Below W.heap.size W w') from fun W fa fn fc h1 h2 h3 h4 => by rw [hB]; exact check_g n i x leaf fa fn fc _ W hn2 HX.out HLD.out h2 h3 h4 (HT.out.below h1 hpos))
      have HRK := Lib.hid (show ∀ W, MCL w root leaf d w1.heap.size gp (sld (some ⟨lb, lo, none⟩) c1 1) (n1 - 1) (es.drop 1) W → Calls Tryd.prog 26 #[.agg (cellsOf x).toArray, .int .i64 n, .int .i64 i, .agg (cellsOf leaf).toArray, .slice (sld (some ⟨lb, lo, none⟩) c1 1) (n1 - 1) (c1 - 1)] W (fun e w' => e = .returned (.bool B) ∧ Below W.heap.size W w') from fun W hW => by rw [hB]; exact rcheck_g n i x leaf _ _ _ _ W hn2 HX.out HLD.out hW.2.2.1 (by omega) (by omega) (HABL.out W hW))
      clear hB
      refine anyH_begin (S := MCX w root leaf d w1.heap.size gp (sld (some ⟨lb, lo, none⟩) c1 1) (n1 - 1) (es.drop 1) gx x) (by kernel_rfl) ?_
      refine anyH_loadG 0 (d := 49) (ty := 26) (x := (.tmp 14)) (gd := none) (p := .pointer (some ⟨gx, 0, none⟩)) (.agg (cellsOf x).toArray) (by rfl) (fun o ho => wanted_plain ho _) (by kernel_rfl) (by kernel_rfl) (by kernel_rfl) (fun _ _ _ h => h) (by rfl) HLX.out HS.out ?_
      simp only [Act.put, List.setIfInBounds_toArray, List.set_cons_zero, List.set_cons_succ]
      refine anyH_pureG 1 (d := 50) (op := .move (.tmp 1)) (gd := none) (.int .i64 n) (by rfl) (fun o ho => wanted_plain ho _) (by kernel_rfl) (by kernel_rfl) (by kernel_rfl) (fun _ _ _ h => h) (fun o ho W hW => by unfold execOp; simp only [ho]; go_simp) HS.out ?_
      simp only [Act.put, List.setIfInBounds_toArray, List.set_cons_zero, List.set_cons_succ]
      refine anyH_pureG 2 (d := 51) (op := .move (.tmp 2)) (gd := none) (.int .i64 i) (by rfl) (fun o ho => wanted_plain ho _) (by kernel_rfl) (by kernel_rfl) (by kernel_rfl) (fun _ _ _ h => h) (fun o ho W hW => by unfold execOp; simp only [ho]; go_simp) HS.out ?_
      simp only [Act.put, List.setIfInBounds_toArray, List.set_cons_zero, List.set_cons_succ]
      refine anyH_loadG 3 (d := 52) (ty := 26) (x := (.tmp 9)) (gd := none) (p := .pointer (some ⟨w1.heap.size, 0, none⟩)) (.agg (cellsOf leaf).toArray) (by rfl) (fun o ho => wanted_plain ho _) (by kernel_rfl) (by kernel_rfl) (by kernel_rfl) (fun _ _ _ h => h) (by rfl) HLL.out HS.out ?_
      simp only [Act.put, List.setIfInBounds_toArray, List.set_cons_zero, List.set_cons_succ]
      refine anyH_pureG 4 (d := 53) (op := .move (.tmp 3)) (gd := none) (.slice (sld (some ⟨lb, lo, none⟩) c1 1) (n1 - 1) (c1 - 1)) (by rfl) (fun o ho => wanted_plain ho _) (by kernel_rfl) (by kernel_rfl) (by kernel_rfl) (fun _ _ _ h => h) (fun o ho W hW => by unfold execOp; simp only [ho]; go_simp) HS.out ?_
      simp only [Act.put, List.setIfInBounds_toArray, List.set_cons_zero, List.set_cons_succ]
      refine anyH_loadG 7 (d := 56) (ty := 26) (x := (.tmp 14)) (gd := none) (p := .pointer (some ⟨gx, 0, none⟩)) (.agg (cellsOf x).toArray) (by rfl) (fun o ho => wanted_plain ho _) (by kernel_rfl) (by kernel_rfl) (by kernel_rfl) (fun _ _ _ h => h) (by rfl) HLX.out HS.out ?_
      simp only [Act.put, List.setIfInBounds_toArray, List.set_cons_zero, List.set_cons_succ]
      refine anyH_pureG 8 (d := 57) (op := .move (.tmp 1)) (gd := none) (.int .i64 n) (by rfl) (fun o ho => wanted_plain ho _) (by kernel_rfl) (by kernel_rfl) (by kernel_rfl) (fun _ _ _ h => h) (fun o ho W hW => by unfold execOp; simp only [ho]; go_simp) HS.out ?_
      simp only [Act.put, List.setIfInBounds_toArray, List.set_cons_zero, List.set_cons_succ]
      refine anyH_pureG 9 (d := 58) (op := .move (.tmp 2)) (gd := none) (.int .i64 i) (by rfl) (fun o ho => wanted_plain ho _) (by kernel_rfl) (by kernel_rfl) (by kernel_rfl) (fun _ _ _ h => h) (fun o ho W hW => by unfold execOp; simp only [ho]; go_simp) HS.out ?_
      simp only [Act.put, List.setIfInBounds_toArray, List.set_cons_zero, List.set_cons_succ]
      refine anyH_loadG 10 (d := 59) (ty := 26) (x := (.tmp 9)) (gd := none) (p := .pointer (some ⟨w1.heap.size, 0, none⟩)) (.agg (cellsOf leaf).toArray) (by rfl) (fun o ho => wanted_plain ho _) (by kernel_rfl) (by kernel_rfl) (by kernel_rfl) (fun _ _ _ h => h) (by rfl) HLL.out HS.out ?_
      simp only [Act.put, List.setIfInBounds_toArray, List.set_cons_zero, List.set_cons_succ]
      refine anyH_pureG 11 (d := 60) (op := .move (.tmp 3)) (gd := none) (.slice (sld (some ⟨lb, lo, none⟩) c1 1) (n1 - 1) (c1 - 1)) (by rfl) (fun o ho => wanted_plain ho _) (by kernel_rfl) (by kernel_rfl) (by kernel_rfl) (fun _ _ _ h => h) (fun o ho W hW => by unfold execOp; simp only [ho]; go_simp) HS.out ?_
      simp only [Act.put, List.setIfInBounds_toArray, List.set_cons_zero, List.set_cons_succ]
      refine anyH_callG 5 (d := some 54) (f := 18) (xs := #[(.tmp 53)]) (ts := #[22]) (gd := none) (vs := #[.slice (sld (some ⟨lb, lo, none⟩) c1 1) (n1 - 1) (c1 - 1)]) (by kernel_rfl) (by rfl) (fun o ho => wanted_plain ho _) (by go_simp) (by go_simp) (HTO.out _ HS.out.1.2.2.1) ?_
      rintro e71 w71 ⟨v71, rfl, hov71, hb71⟩
      obtain ⟨fa, fn, fc, rfl, hfn, hfc, hfm, _, hr71⟩ := hov71.form HWD.out
      refine ⟨_, rfl, HS.out.step hb71, fun hS71 => ?_⟩
      have HS := Lib.hid hS71
      have HF := Lib.hid hr71
      clear hov71 hr71 hS71 hb71
      simp only [Act.put, List.setIfInBounds_toArray, List.set_cons_zero, List.set_cons_succ]
      refine anyH_callG 6 (d := some 55) (f := 24) (xs := #[(.tmp 49), (.tmp 50), (.tmp 51), (.tmp 52), (.tmp 54)]) (ts := #[27, 3, 3, 27, 31]) (gd := none) (vs := #[.agg (cellsOf x).toArray, .int .i64 n, .int .i64 i, .agg (cellsOf leaf).toArray, .slice fa fn fc]) (by kernel_rfl) (by rfl) (fun o ho => wanted_plain ho _) (by go_simp) (by go_simp) (HCK.out _ fa fn fc HS.out.1.2.2.2.2 HF.out hfc hfm) ?_
      rintro e72 w72 ⟨rfl, hb72⟩
      refine ⟨_, rfl, HS.out.step hb72, fun hS72 => ?_⟩
      have HS := Lib.hid hS72
      clear hS72 hb72
      simp only [Act.put, List.setIfInBounds_toArray, List.set_cons_zero, List.set_cons_succ]
      refine anyH_callG 12 (d := some 61) (f := 26) (xs := #[(.tmp 56), (.tmp 57), (.tmp 58), (.tmp 59), (.tmp 60)]) (ts := #[26, 3, 3, 26, 22]) (gd := none) (vs := #[.agg (cellsOf x).toArray, .int .i64 n, .int .i64 i, .agg (cellsOf leaf).toArray, .slice (sld (some ⟨lb, lo, none⟩) c1 1) (n1 - 1) (c1 - 1)]) (by kernel_rfl) (by rfl) (fun o ho => wanted_plain ho _) (by go_simp) (by go_simp) (HRK.out _ HS.out.1) ?_
      rintro e73 w73 ⟨rfl, hb73⟩
      refine ⟨_, rfl, HS.out.step hb73, fun hS73 => ?_⟩
      have HS := Lib.hid hS73
      clear hS73 hb73
      simp only [Act.put, List.setIfInBounds_toArray, List.set_cons_zero, List.set_cons_succ]
      refine anyH_pureG 13 (d := 62) (op := .binOp .neq 4 (.tmp 55) (.tmp 61) 4) (gd := none) (.bool false) (by rfl) (fun o ho => wanted_plain ho _) (by kernel_rfl) (by kernel_rfl) (by kernel_rfl) (fun _ _ _ h => h) (fun o ho W hW => by unfold execOp; simp only [ho]; cases B <;> go_simp) HS.out ?_
      simp only [Act.put, List.setIfInBounds_toArray, List.set_cons_zero, List.set_cons_succ]
      refine wpAnyH_done (by kernel_rfl) ?_ _
      have HM2 := Lib.hid HS.out.1
      clear HS HLX HLL HTO HCK HRK
      go_wp2
      go_roundw
      case rel => exact ⟨k + 1, by omega, by go_num, HM2⟩
      case measure => simp [intOf]; omega
    · go_upto_region 12 with fail
      (try dsimp only [Act.put, List.setIfInBounds_toArray, List.set_cons_zero, List.set_cons_succ])
      have HS := Lib.hid HM.out.drew
      have HLL := Lib.hid (fun W (hW : MCL w root leaf d w1.heap.size gp (sld (some ⟨lb, lo, none⟩) c1 1) (n1 - 1) (es.drop 1) W) => run_dload dtR W w1.heap.size 0 leaf HLD.out hW.2.1.range)
      have HLR := Lib.hid (fun W (hW : MCL w root leaf d w1.heap.size gp (sld (some ⟨lb, lo, none⟩) c1 1) (n1 - 1) (es.drop 1) W) => run_dload dtR W w.heap.size 0 root HR.out hW.1.range)
      have HAW := Lib.hid (fun W (hW : MCL w root leaf d w1.heap.size gp (sld (some ⟨lb, lo, none⟩) c1 1) (n1 - 1) (es.drop 1) W) => awake3_c W (HT.out.below hW.2.2.2.2 hpos))
      cases c with
      | true =>
        refine anyH_begin (S := MCL w root leaf d w1.heap.size gp (sld (some ⟨lb, lo, none⟩) c1 1) (n1 - 1) (es.drop 1)) (by kernel_rfl) ?_
        refine anyH_callG 0 (d := some 64) (f := 14) (xs := #[]) (ts := #[]) (gd := none) (vs := #[]) (by kernel_rfl) (by rfl) (fun o ho => wanted_plain ho _) (by go_simp) (by go_simp) (HAW.out _ HS.out) ?_
        rintro e81 w81 ⟨rfl, hb81⟩
        refine ⟨_, rfl, HS.out.step hb81, fun hS81 => ?_⟩
        have HS := Lib.hid hS81
        clear hS81 hb81
        simp only [Act.put, List.setIfInBounds_toArray, List.set_cons_zero, List.set_cons_succ]
        refine anyH_pureG 1 (d := 65) (op := .move (.tmp 64)) (gd := none) (.bool true) (by rfl) (fun o ho => wanted_plain ho _) (by kernel_rfl) (by kernel_rfl) (by kernel_rfl) (fun _ _ _ h => h) (fun o ho W hW => by unfold execOp; simp only [ho]; go_simp) HS.out ?_
        simp only [Act.put, List.setIfInBounds_toArray, List.set_cons_zero, List.set_cons_succ]
        refine anyH_pureG 2 (d := 66) (op := .move (.tmp 12)) (gd := some (1, true)) (.bool true) (by rfl) (fun o ho => by simp only [Region.wanted, ho]; rfl) (by kernel_rfl) (by kernel_rfl) (by kernel_rfl) (fun _ _ _ h => h) (fun o ho W hW => by unfold execOp; simp only [ho]; go_simp) HS.out ?_
        simp only [Act.put, List.setIfInBounds_toArray, List.set_cons_zero, List.set_cons_succ]
        refine anyH_pureG 3 (d := 67) (op := .move (.tmp 66)) (gd := some (1, true)) (.bool true) (by rfl) (fun o ho => by simp only [Region.wanted, ho]; rfl) (by kernel_rfl) (by kernel_rfl) (by kernel_rfl) (fun _ _ _ h => h) (fun o ho W hW => by unfold execOp; simp only [ho]; go_simp) HS.out ?_
        simp only [Act.put, List.setIfInBounds_toArray, List.set_cons_zero, List.set_cons_succ]
        refine anyH_skip 4 (d := 68) (op := .load 26 (.tmp 4)) (gd := some (3, false)) (by rfl) (fun o ho => by simp only [Region.wanted, ho]; rfl) (by kernel_rfl) (by kernel_rfl) (by kernel_rfl) (fun _ _ _ h => h) HS.out ?_
        simp only [Act.put, List.setIfInBounds_toArray, List.set_cons_zero, List.set_cons_succ]
        refine anyH_skip 5 (d := 69) (op := .move (.tmp 1)) (gd := some (3, false)) (by rfl) (fun o ho => by simp only [Region.wanted, ho]; rfl) (by kernel_rfl) (by kernel_rfl) (by kernel_rfl) (fun _ _ _ h => h) HS.out ?_
        simp only [Act.put, List.setIfInBounds_toArray, List.set_cons_zero, List.set_cons_succ]
        refine anyH_skip 6 (d := 70) (op := .move (.tmp 2)) (gd := some (3, false)) (by rfl) (fun o ho => by simp only [Region.wanted, ho]; rfl) (by kernel_rfl) (by kernel_rfl) (by kernel_rfl) (fun _ _ _ h => h) HS.out ?_
        simp only [Act.put, List.setIfInBounds_toArray, List.set_cons_zero, List.set_cons_succ]
        refine anyH_skip 7 (d := 71) (op := .load 26 (.tmp 9)) (gd := some (3, false)) (by rfl) (fun o ho => by simp only [Region.wanted, ho]; rfl) (by kernel_rfl) (by kernel_rfl) (by kernel_rfl) (fun _ _ _ h => h) HS.out ?_
        simp only [Act.put, List.setIfInBounds_toArray, List.set_cons_zero, List.set_cons_succ]
        refine anyH_skip 8 (d := 72) (op := .move (.tmp 3)) (gd := some (3, false)) (by rfl) (fun o ho => by simp only [Region.wanted, ho]; rfl) (by kernel_rfl) (by kernel_rfl) (by kernel_rfl) (fun _ _ _ h => h) HS.out ?_
        simp only [Act.put, List.setIfInBounds_toArray, List.set_cons_zero, List.set_cons_succ]
        refine anyH_skip 9 (d := 73) (op := .call { callee := .value (.func 18), args := #[(.tmp 72)], argTypes := #[22] }) (gd := some (3, false)) (by rfl) (fun o ho => by simp only [Region.wanted, ho]; rfl) (by kernel_rfl) (by kernel_rfl) (by kernel_rfl) (fun _ _ _ h => h) HS.out ?_
        simp only [Act.put, List.setIfInBounds_toArray, List.set_cons_zero, List.set_cons_succ]
        refine anyH_skip 10 (d := 74) (op := .call { callee := .value (.func 24), args := #[(.tmp 68), (.tmp 69), (.tmp 70), (.tmp 71), (.tmp 73)], argTypes := #[27, 3, 3, 27, 31] }) (gd := some (3, false)) (by rfl) (fun o ho => by simp only [Region.wanted, ho]; rfl) (by kernel_rfl) (by kernel_rfl) (by kernel_rfl) (fun _ _ _ h => h) HS.out ?_
        simp only [Act.put, List.setIfInBounds_toArray, List.set_cons_zero, List.set_cons_succ]
        refine anyH_skip 11 (d := 75) (op := .unOp .not 4 (.tmp 74)) (gd := some (3, false)) (by rfl) (fun o ho => by simp only [Region.wanted, ho]; rfl) (by kernel_rfl) (by kernel_rfl) (by kernel_rfl) (fun _ _ _ h => h) HS.out ?_
        simp only [Act.put, List.setIfInBounds_toArray, List.set_cons_zero, List.set_cons_succ]
        refine anyH_pureG 12 (d := 76) (op := .pick (.tmp 67) (.const (.bool true)) (.tmp 75)) (gd := some (1, true)) (.bool true) (by rfl) (fun o ho => by simp only [Region.wanted, ho]; rfl) (by kernel_rfl) (by kernel_rfl) (by kernel_rfl) (fun _ _ _ h => h) (fun o ho W hW => by unfold execOp; simp only [ho]; go_simp) HS.out ?_
        simp only [Act.put, List.setIfInBounds_toArray, List.set_cons_zero, List.set_cons_succ]
        refine anyH_pureG 13 (d := 77) (op := .pick (.tmp 65) (.tmp 76) (.const (.bool false))) (gd := none) (.bool true) (by rfl) (fun o ho => wanted_plain ho _) (by kernel_rfl) (by kernel_rfl) (by kernel_rfl) (fun _ _ _ h => h) (fun o ho W hW => by unfold execOp; simp only [ho]; go_simp) HS.out ?_
        simp only [Act.put, List.setIfInBounds_toArray, List.set_cons_zero, List.set_cons_succ]
        refine anyH_pureG 14 (d := 8) (op := .assign (.tmp 77)) (gd := none) (.bool true) (by rfl) (fun o ho => wanted_plain ho _) (by kernel_rfl) (by kernel_rfl) (by kernel_rfl) (fun _ _ _ h => h) (fun o ho W hW => by unfold execOp; simp only [ho]; go_simp) HS.out ?_
        simp only [Act.put, List.setIfInBounds_toArray, List.set_cons_zero, List.set_cons_succ]
        refine wpAnyH_done (by kernel_rfl) ?_ _
        go_wp2
        go_ret
        exact ⟨rfl, HS.out.2.2.2.2⟩
      | false =>
        have HTO := Lib.hid (fun W (hW : DR W (sld (some ⟨lb, lo, none⟩) c1 1) (n1 - 1) (es.drop 1)) => to_c (n1 - 1) (es.drop 1) (sld (some ⟨lb, lo, none⟩) c1 1) (c1 - 1) W hW (by omega))
        have HCK := Lib.hid (show ∀ W fa fn fc, Below w.heap.size w W → DR W fa fn (es.drop 1) → fn ≤ fc → fc ≤ 9223372036854775807 → Calls Tryd.prog 24 #[.agg (cellsOf root).toArray, .int .i64 n, .int .i64 i, .agg (cellsOf leaf).toArray, .slice fa fn fc] W (fun e w' => e = .returned (.bool false) ∧ Below W.heap.size W w') from fun W fa fn fc h1 h2 h3 h4 => by
          have h := check_g n i root leaf fa fn fc _ W hn2 HR.out HLD.out h2 h3 h4 (HT.out.below h1 hpos)
          rw [HC.out rfl root] at h
          exact h)
        refine anyH_begin (S := MCL w root leaf d w1.heap.size gp (sld (some ⟨lb, lo, none⟩) c1 1) (n1 - 1) (es.drop 1)) (by kernel_rfl) ?_
        refine anyH_callG 0 (d := some 64) (f := 14) (xs := #[]) (ts := #[]) (gd := none) (vs := #[]) (by kernel_rfl) (by rfl) (fun o ho => wanted_plain ho _) (by go_simp) (by go_simp) (HAW.out _ HS.out) ?_
        rintro e81 w81 ⟨rfl, hb81⟩
        refine ⟨_, rfl, HS.out.step hb81, fun hS81 => ?_⟩
        have HS := Lib.hid hS81
        clear hS81 hb81
        simp only [Act.put, List.setIfInBounds_toArray, List.set_cons_zero, List.set_cons_succ]
        refine anyH_pureG 1 (d := 65) (op := .move (.tmp 64)) (gd := none) (.bool true) (by rfl) (fun o ho => wanted_plain ho _) (by kernel_rfl) (by kernel_rfl) (by kernel_rfl) (fun _ _ _ h => h) (fun o ho W hW => by unfold execOp; simp only [ho]; go_simp) HS.out ?_
        simp only [Act.put, List.setIfInBounds_toArray, List.set_cons_zero, List.set_cons_succ]
        refine anyH_pureG 2 (d := 66) (op := .move (.tmp 12)) (gd := some (1, true)) (.bool false) (by rfl) (fun o ho => by simp only [Region.wanted, ho]; rfl) (by kernel_rfl) (by kernel_rfl) (by kernel_rfl) (fun _ _ _ h => h) (fun o ho W hW => by unfold execOp; simp only [ho]; go_simp) HS.out ?_
        simp only [Act.put, List.setIfInBounds_toArray, List.set_cons_zero, List.set_cons_succ]
        refine anyH_pureG 3 (d := 67) (op := .move (.tmp 66)) (gd := some (1, true)) (.bool false) (by rfl) (fun o ho => by simp only [Region.wanted, ho]; rfl) (by kernel_rfl) (by kernel_rfl) (by kernel_rfl) (fun _ _ _ h => h) (fun o ho W hW => by unfold execOp; simp only [ho]; go_simp) HS.out ?_
        simp only [Act.put, List.setIfInBounds_toArray, List.set_cons_zero, List.set_cons_succ]
        refine anyH_loadG 4 (d := 68) (ty := 26) (x := (.tmp 4)) (gd := some (3, false)) (p := .pointer (some ⟨w.heap.size, 0, none⟩)) (.agg (cellsOf root).toArray) (by rfl) (fun o ho => by simp only [Region.wanted, ho]; rfl) (by kernel_rfl) (by kernel_rfl) (by kernel_rfl) (fun _ _ _ h => h) (by rfl) HLR.out HS.out ?_
        simp only [Act.put, List.setIfInBounds_toArray, List.set_cons_zero, List.set_cons_succ]
        refine anyH_pureG 5 (d := 69) (op := .move (.tmp 1)) (gd := some (3, false)) (.int .i64 n) (by rfl) (fun o ho => by simp only [Region.wanted, ho]; rfl) (by kernel_rfl) (by kernel_rfl) (by kernel_rfl) (fun _ _ _ h => h) (fun o ho W hW => by unfold execOp; simp only [ho]; go_simp) HS.out ?_
        simp only [Act.put, List.setIfInBounds_toArray, List.set_cons_zero, List.set_cons_succ]
        refine anyH_pureG 6 (d := 70) (op := .move (.tmp 2)) (gd := some (3, false)) (.int .i64 i) (by rfl) (fun o ho => by simp only [Region.wanted, ho]; rfl) (by kernel_rfl) (by kernel_rfl) (by kernel_rfl) (fun _ _ _ h => h) (fun o ho W hW => by unfold execOp; simp only [ho]; go_simp) HS.out ?_
        simp only [Act.put, List.setIfInBounds_toArray, List.set_cons_zero, List.set_cons_succ]
        refine anyH_loadG 7 (d := 71) (ty := 26) (x := (.tmp 9)) (gd := some (3, false)) (p := .pointer (some ⟨w1.heap.size, 0, none⟩)) (.agg (cellsOf leaf).toArray) (by rfl) (fun o ho => by simp only [Region.wanted, ho]; rfl) (by kernel_rfl) (by kernel_rfl) (by kernel_rfl) (fun _ _ _ h => h) (by rfl) HLL.out HS.out ?_
        simp only [Act.put, List.setIfInBounds_toArray, List.set_cons_zero, List.set_cons_succ]
        refine anyH_pureG 8 (d := 72) (op := .move (.tmp 3)) (gd := some (3, false)) (.slice (sld (some ⟨lb, lo, none⟩) c1 1) (n1 - 1) (c1 - 1)) (by rfl) (fun o ho => by simp only [Region.wanted, ho]; rfl) (by kernel_rfl) (by kernel_rfl) (by kernel_rfl) (fun _ _ _ h => h) (fun o ho W hW => by unfold execOp; simp only [ho]; go_simp) HS.out ?_
        simp only [Act.put, List.setIfInBounds_toArray, List.set_cons_zero, List.set_cons_succ]
        refine anyH_callG 9 (d := some 73) (f := 18) (xs := #[(.tmp 72)]) (ts := #[22]) (gd := some (3, false)) (vs := #[.slice (sld (some ⟨lb, lo, none⟩) c1 1) (n1 - 1) (c1 - 1)]) (by kernel_rfl) (by rfl) (fun o ho => by simp only [Region.wanted, ho]; rfl) (by go_simp) (by go_simp) (HTO.out _ HS.out.2.2.1) ?_
        rintro e82 w82 ⟨v82, rfl, hov82, hb82⟩
        obtain ⟨fa, fn, fc, rfl, hfn, hfc, hfm, _, hr82⟩ := hov82.form HWD.out
        refine ⟨_, rfl, HS.out.step hb82, fun hS82 => ?_⟩
        have HS := Lib.hid hS82
        have HF := Lib.hid hr82
        clear hov82 hr82 hS82 hb82
        simp only [Act.put, List.setIfInBounds_toArray, List.set_cons_zero, List.set_cons_succ]
        refine anyH_callG 10 (d := some 74) (f := 24) (xs := #[(.tmp 68), (.tmp 69), (.tmp 70), (.tmp 71), (.tmp 73)]) (ts := #[27, 3, 3, 27, 31]) (gd := some (3, false)) (vs := #[.agg (cellsOf root).toArray, .int .i64 n, .int .i64 i, .agg (cellsOf leaf).toArray, .slice fa fn fc]) (by kernel_rfl) (by rfl) (fun o ho => by simp only [Region.wanted, ho]; rfl) (by go_simp) (by go_simp) (HCK.out _ fa fn fc HS.out.2.2.2.2 HF.out hfc hfm) ?_
        rintro e83 w83 ⟨rfl, hb83⟩
        refine ⟨_, rfl, HS.out.step hb83, fun hS83 => ?_⟩
        have HS := Lib.hid hS83
        clear hS83 hb83
        simp only [Act.put, List.setIfInBounds_toArray, List.set_cons_zero, List.set_cons_succ]
        refine anyH_pureG 11 (d := 75) (op := .unOp .not 4 (.tmp 74)) (gd := some (3, false)) (.bool true) (by rfl) (fun o ho => by simp only [Region.wanted, ho]; rfl) (by kernel_rfl) (by kernel_rfl) (by kernel_rfl) (fun _ _ _ h => h) (fun o ho W hW => by unfold execOp; simp only [ho]; go_simp) HS.out ?_
        simp only [Act.put, List.setIfInBounds_toArray, List.set_cons_zero, List.set_cons_succ]
        refine anyH_pureG 12 (d := 76) (op := .pick (.tmp 67) (.const (.bool true)) (.tmp 75)) (gd := some (1, true)) (.bool true) (by rfl) (fun o ho => by simp only [Region.wanted, ho]; rfl) (by kernel_rfl) (by kernel_rfl) (by kernel_rfl) (fun _ _ _ h => h) (fun o ho W hW => by unfold execOp; simp only [ho]; go_simp) HS.out ?_
        simp only [Act.put, List.setIfInBounds_toArray, List.set_cons_zero, List.set_cons_succ]
        refine anyH_pureG 13 (d := 77) (op := .pick (.tmp 65) (.tmp 76) (.const (.bool false))) (gd := none) (.bool true) (by rfl) (fun o ho => wanted_plain ho _) (by kernel_rfl) (by kernel_rfl) (by kernel_rfl) (fun _ _ _ h => h) (fun o ho W hW => by unfold execOp; simp only [ho]; go_simp) HS.out ?_
        simp only [Act.put, List.setIfInBounds_toArray, List.set_cons_zero, List.set_cons_succ]
        refine anyH_pureG 14 (d := 8) (op := .assign (.tmp 77)) (gd := none) (.bool true) (by rfl) (fun o ho => wanted_plain ho _) (by kernel_rfl) (by kernel_rfl) (by kernel_rfl) (fun _ _ _ h => h) (fun o ho W hW => by unfold execOp; simp only [ho]; go_simp) HS.out ?_
        simp only [Act.put, List.setIfInBounds_toArray, List.set_cons_zero, List.set_cons_succ]
        refine wpAnyH_done (by kernel_rfl) ?_ _
        go_wp2
        go_ret
        exact ⟨rfl, HS.out.2.2.2.2⟩
theorem mchecks_c (root : List Nat) (n i : Int) (a : Option Addr) (l cap : Nat) (ds : Ds) (w : World) (hr : D32 root) (hn : (Lit.int .i64 n).wf = true) (hi : (Lit.int .i64 i).wf = true) (r : DigsIn w a l cap ds) (ht : Tab w) :
    Calls Tryd.prog 5 #[.agg (cellsOf root).toArray, .int .i64 n, .int .i64 i, .slice a l cap] w fun e w' => e = .returned (.bool true) ∧ Below w.heap.size w w' := by
  have hb : -9223372036854775808 ≤ n ∧ n ≤ 9223372036854775807 := by simpa [Lit.wf, IntKind.min, IntKind.max, IntKind.signed, IntKind.bits] using hn
  have hb2 : -9223372036854775808 ≤ i ∧ i ≤ 9223372036854775807 := by simpa [Lit.wf, IntKind.min, IntKind.max, IntKind.signed, IntKind.bits] using hi
  by_cases h : l = 0
  · subst h
    exact checks_nil root n i a cap w hr ht hb.1 hb.2 hb2.1 hb2.2
  · exact checks_in root n i a l cap ds w hr (by omega) r ht hb.1 hb.2 hb2.1 hb2.2
end Go.Proofs.YthnfbdmkdpokcaaDoor
