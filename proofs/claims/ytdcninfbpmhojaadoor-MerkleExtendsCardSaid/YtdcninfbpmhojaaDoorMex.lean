/-
  The walk over MerkleExtends.
-/
import Derived.Test.YtdcninfbpmhojaaDoorRex
import Derived.Test.YtdcninfbpmhojaaDoorMck
namespace Go.Proofs.YtdcninfbpmhojaaDoor
open Go.RowKit
set_option linter.unusedVariables false
theorem ownD_lit (w : World) (T : TypeId) (ds : Ds) (h : ∀ d ∈ ds, D32 d) (hl : ds.length ≤ 9223372036854775807) : OwnD (w.alloc (.cells (cellsOf ds.flatten).toArray T)) w.heap.size T (.slice (some ⟨w.heap.size, 0, none⟩) ds.length ds.length) ds := by
  refine ⟨by rw [cellsOf_length, flat_len ds h, Nat.mul_comm], .inr ⟨w.heap.size, ds.length, _, rfl, Nat.le_refl _, heap_new _ _, Nat.le_refl _, hl, by rw [List.size_toArray, cellsOf_length, flat_len ds h, Nat.mul_comm], ?_⟩⟩
  exact List.take_of_length_le (by rw [cellsOf_length, flat_len ds h, Nat.mul_comm]; exact Nat.le_refl _)
theorem wpList_lay2o {w : World} {ops : Array Oper} {rest : List Oper} {o : Oper} {a : Act} {Q : Exit → Act → World → Prop} (hgd : o.guard = none) (x y : Operand) (d : Tmp) (p q : List Nat) (hp : D32 p) (hq : D32 q)
    (ho : (o.dst, o.op) = (some d, .buildSlice 24 2 #[(0, x), (1, y)])) (hx : a.eval x = .agg (cellsOf p).toArray) (hy : a.eval y = .agg (cellsOf q).toArray)
    (h : ∀ W, OwnD W w.heap.size 22 (.slice (some ⟨w.heap.size, 0, none⟩) 2 2) [p, q] → Below w.heap.size w W → wpList Tryd.prog ops Q rest (a.put (some d) (.slice (some ⟨w.heap.size, 0, none⟩) 2 2)) W) : wpList Tryd.prog ops Q (o :: rest) a w :=
  Great.wpList_buildSliceTo hgd 24 22 2 _ (congrArg Prod.snd ho) w.heap.size rfl (some d) (congrArg Prod.fst ho) Tryd.underlying24 (cellsOf [p, q].flatten).toArray (by simp only [List.map_toArray, List.map_cons, List.map_nil, hx, hy]; exact built_two row_r p q hp.1 hq.1)
    (h _ (ownD_lit w 22 [p, q] (by intro d hd; simp only [List.mem_cons, List.not_mem_nil, or_false] at hd; rcases hd with rfl | rfl <;> assumption) (by simp)) ((Below.refl _ _).alloc (Nat.le_refl _) _))
theorem wpList_lay2v {w : World} {ops : Array Oper} {rest : List Oper} {o : Oper} {a : Act} {Q : Exit → Act → World → Prop} (hgd : o.guard = none) (x y : Operand) (d : Tmp) (p q : List Nat) (hp : D32 p) (hq : D32 q)
    (ho : (o.dst, o.op) = (some d, .buildSlice 24 2 #[(0, x), (1, y)])) (hx : a.eval x = .agg (cellsOf p).toArray) (hy : a.eval y = .agg (cellsOf q).toArray)
    (h : ∀ v W, OwnD W w.heap.size 22 v [p, q] → Below w.heap.size w W → wpList Tryd.prog ops Q rest (a.put (some d) v) W) : wpList Tryd.prog ops Q (o :: rest) a w :=
  wpList_lay2o hgd x y d p q hp hq ho hx hy fun W h1 h2 => h _ W h1 h2
theorem two_first {w : World} {g : Nat} {T : TypeId} {x y : List Nat} (h : Brow w g T (x ++ y)) : w.rangeAt g 0 (cellsOf x) := fun j v hv => by
  have := h.range j v (by rw [cellsOf_append, List.getElem?_append_left (List.getElem?_eq_some_iff.1 hv).1, hv])
  exact this
theorem two_second {w : World} {g : Nat} {T : TypeId} {x y : List Nat} (h : Brow w g T (x ++ y)) (hx : x.length = 32) : w.rangeAt g 32 (cellsOf y) := fun j v hv => by
  have := h.range (32 + j) v (by rw [cellsOf_append, List.getElem?_append_right (by rw [cellsOf_length, hx]; omega), cellsOf_length, hx, Nat.add_sub_cancel_left, hv])
  rw [Nat.zero_add] at this
  exact this
theorem index_two0 (W : World) (g : Nat) : (Instr.indexAt 23 (.pointer (some ⟨g, 0, none⟩)) (.int .i64 0)).run Tryd.prog W = .ok (.pointer (some ⟨g, 0, none⟩)) W := by kernel_rfl
theorem index_two1 (W : World) (g : Nat) : (Instr.indexAt 23 (.pointer (some ⟨g, 0, none⟩)) (.int .i64 1)).run Tryd.prog W = .ok (.pointer (some ⟨g, 32, none⟩)) W := by kernel_rfl
/-- what Grow hands back, be it what it may -/
def GrowAny (w : World) (e : Ending) (w' : World) : Prop := ∃ (x y : List Nat) (a : Option Addr) (l c : Nat) (b : Bool), D32 x ∧ D32 y ∧ e = .returned (.agg (bothC x y (.slice a l c) b)) ∧ Below w.heap.size w w'
theorem grow_any (old : List Nat) (m n : Int) (a : Option Addr) (l cap : Nat) (way : Ds) (w : World) (h1 : 0 < m) (hm : m ≤ n) (hn : n ≤ 9223372036854775807) (ho : D32 old) (hw : DR w a l way) (hlc : l ≤ cap) (hcm : cap ≤ 9223372036854775807) (hab : ∀ b, blkOf a = some b → b < w.heap.size) :
    Calls Tryd.prog 10 #[.agg (cellsOf old).toArray, .int .i64 m, .int .i64 n, .bool true, .slice a l cap] w (GrowAny w) := by
  have e1 : m = (m.toNat : Int) := by omega
  have e2 : n = (n.toNat : Int) := by omega
  have := rgrow_c n.toNat (by omega) w.heap.size n.toNat (by omega) old m.toNat true a l cap way w (by omega) (by omega) ho hw hlc hcm hab (Nat.le_refl _)
  rw [← e1, ← e2] at this
  refine this.mono ?_
  rintro e w' ⟨hb, ⟨_, rfl⟩ | ⟨x, y, rest, ra, rl, rc, _, hx, hy, _, _, _, _, rfl⟩⟩
  · exact ⟨zs32, zs32, none, 0, 0, false, ⟨zs32_len, by decide⟩, ⟨zs32_len, by decide⟩, rfl, hb⟩
  · exact ⟨x, y, ra, rl, rc, true, hx, hy, rfl, hb⟩
theorem DR.belowB {w w' : World} {B : Nat} {a : Option Addr} {n : Nat} {ds : Ds} (h : DR w a n ds) (hb : Below B w w') (ha : ∀ b, blkOf a = some b → b < B) : DR w' a n ds := by
  obtain ⟨h0, h1, h2, h3, h4⟩ := h
  refine ⟨h0, h1, h2, h3, ?_⟩
  rcases h4 with h4 | ⟨b, off, rfl, hlt, hc⟩
  · exact .inl h4
  · have hB : b < B := ha b rfl
    exact .inr ⟨b, off, rfl, Nat.lt_of_lt_of_le hlt hb.size, fun i hi => (hb.cell (p := ⟨b, off + i, none⟩) hB).trans (hc i hi)⟩
def ML0 (w : World) (rr r0 : List Nat) (g9 : Nat) (a1 : Option Addr) (n1 : Nat) (es : Ds) (W : World) : Prop := Brow W w.heap.size 23 rr ∧ Brow W g9 22 r0 ∧ DR W a1 n1 es ∧ Below w.heap.size w W
theorem ML0.step {w W W' : World} {rr r0 : List Nat} {g9 : Nat} {a1 : Option Addr} {n1 : Nat} {es : Ds} (h : ML0 w rr r0 g9 a1 n1 es W) (hb : Below W.heap.size W W') : ML0 w rr r0 g9 a1 n1 es W' := ⟨h.1.below hb h.1.lt, h.2.1.below hb h.2.1.lt, h.2.2.1.below hb, h.2.2.2.trans (hb.mono h.2.2.2.size)⟩
theorem ML0.from {w W W' : World} {rr r0 : List Nat} {g9 B : Nat} {a1 : Option Addr} {n1 : Nat} {es : Ds} (h : ML0 w rr r0 g9 a1 n1 es W) (hb : Below W.heap.size W W') : ML0 w rr r0 g9 a1 n1 es W' := h.step hb
def MXL (w : World) (r0 : List Nat) (g9 : Nat) (a1 : Option Addr) (n1 : Nat) (es : Ds) (na : Option Addr) (nl : Nat) (N : Ds) (W : World) : Prop := Brow W g9 22 r0 ∧ DR W a1 n1 es ∧ DR W na nl N ∧ Below w.heap.size w W
theorem MXL.step {w W W' : World} {r0 : List Nat} {g9 : Nat} {a1 : Option Addr} {n1 : Nat} {es : Ds} {na : Option Addr} {nl : Nat} {N : Ds} (h : MXL w r0 g9 a1 n1 es na nl N W) (hb : Below W.heap.size W W') : MXL w r0 g9 a1 n1 es na nl N W' := ⟨h.1.below hb h.1.lt, h.2.1.below hb, h.2.2.1.below hb, h.2.2.2.trans (hb.mono h.2.2.2.size)⟩
def MXX (w : World) (r0 : List Nat) (g9 : Nat) (a1 : Option Addr) (n1 : Nat) (es : Ds) (na : Option Addr) (nl : Nat) (N : Ds) (g : Nat) (x : List Nat) (W : World) : Prop := MXL w r0 g9 a1 n1 es na nl N W ∧ Brow W g 22 x
theorem MXX.step {w W W' : World} {r0 : List Nat} {g9 : Nat} {a1 : Option Addr} {n1 : Nat} {es : Ds} {na : Option Addr} {nl : Nat} {N : Ds} {g : Nat} {x : List Nat} (h : MXX w r0 g9 a1 n1 es na nl N g x W) (hb : Below W.heap.size W W') : MXX w r0 g9 a1 n1 es na nl N g x W' := ⟨h.1.step hb, h.2.below hb h.2.lt⟩
set_option maxRecDepth 100000 in
set_option maxHeartbeats 8000000 in
theorem extends_in (r0 r1 : List Nat) (m n : Int) (wa : Option Addr) (wl wc : Nat) (ws : Ds) (w : World) (h0 : D32 r0) (h1 : D32 r1) (r : DigsIn w wa wl wc ws) (ht : Tab w) (hm1 : -9223372036854775808 ≤ m) (hm2 : m ≤ 9223372036854775807) (hn1 : -9223372036854775808 ≤ n) (hn2 : n ≤ 9223372036854775807) :
    Calls Tryd.prog 3 #[.agg (cellsOf (r0 ++ r1)).toArray, .int .i64 m, .int .i64 n, .slice wa wl wc] w fun e w' => e = .returned (.bool true) ∧ Below w.heap.size w w' := by
  obtain ⟨hw, hnil, hlc, hcm⟩ := r
  have HT := Lib.hid ht
  have hpos := ht.pos
  have HR0 := Lib.hid h0
  have HR1 := Lib.hid h1
  obtain ⟨q, hqq⟩ : ∃ q : Nat, q = min wl 70 := ⟨_, rfl⟩
  have HCUT := Lib.hid (show ∀ W, Below w.heap.size w W → Calls Tryd.prog 9 #[.slice wa wl wc, .int .i64 70] W (RetDs 22 (ws.take q) W) from fun W hW => cut_c wl q 70 ws wa wc W (hw.below hW) hlc hnil (by omega) (by omega))
  obtain ⟨es, hes⟩ : ∃ es, es = ws.take q := ⟨_, rfl⟩
  rw [← hes] at HCUT
  have HES := Lib.hid (show ∀ d ∈ es, D32 d from by rw [hes]; exact d32_take hw.2.1 q)
  have hel : es.length = q := by rw [hes, List.length_take, hw.1]; omega
  have hq70 : q ≤ 70 := by omega
  obtain ⟨rr, hrr⟩ : ∃ rr, rr = r0 ++ r1 := ⟨_, rfl⟩
  have HRR := Lib.hid hrr
  rw [← hrr]
  clear hw hnil ht hqq hes h0 h1 hrr
  go_enter Tryd.func3, Tryd.ntmps3
  go_upto_region 1 with fail
  refine gen_code (F := fun W => Brow W w.heap.size 23 rr ∧ Below w.heap.size w W) ⟨heap_new _ _, (Below.refl _ _).alloc (Nat.le_refl _) _⟩ ?_
  rintro wA ⟨hb, hbw⟩
  have HB := Lib.hid hb
  have HBW := Lib.hid hbw
  clear hb hbw
  go_wp2_with fail
  refine (HCUT.out _ HBW.out).mono ?_
  rintro e w1 ⟨v, rfl, hov, hb1⟩
  obtain ⟨a1, n1, c1, rfl, hnn, hc1, hc1m, _, hr1⟩ := hov.form HES.out
  have hab := hov.blk
  have HAB := Lib.hid hab
  have HR1D := Lib.hid hr1
  have HB1 := Lib.hid (HB.out.below hb1 HB.out.lt)
  have HBW1 := Lib.hid (HBW.out.trans (hb1.mono HBW.out.size))
  have hn70 : n1 ≤ 70 := by rw [← hnn, hel]; exact hq70
  clear hov hb1 hr1 hab HB HBW HCUT hnn hel
  have HRO := Lib.hid (run_dload dtR w1 w.heap.size 0 r0 HR0.out (two_first (by have := HB1.out; rw [HRR.out] at this; exact this)))
  have hI0 := index_two0
  have hI1 := index_two1
  have HI0 := Lib.hid (info32 dtR HR0.out)
  have HZ0 := Lib.hid (zsize HR0.out)
  go_upto_region 3 with (first | (refine wpList_loadg 22 _ (by rfl) (by rfl) (.pointer (some ⟨w.heap.size, 0, none⟩)) (by rfl) (.agg (cellsOf r0).toArray) HRO.out ?_) | (refine wpList_store_row (by rfl) 22 _ _ (by rfl) w1.heap.size (cellsOf r0).toArray (by rfl) (by rfl) 22 (cellsOf zs32).toArray (by exact heap_new _ _) HI0.out HZ0.out (cellsOf_all _) ?_))
  have K1 := Lib.hid (fun (O : Obj) (hO : O = .cells (cellsOf zs32).toArray 22 (0, 0)) => show ML0 w rr r0 w1.heap.size a1 n1 es ((w1.alloc O).setRow w1.heap.size (cellsOf r0).toArray) from by
    subst hO
    have hb : Below w1.heap.size w1 ((w1.alloc (.cells (cellsOf zs32).toArray 22 (0, 0))).setRow w1.heap.size (cellsOf r0).toArray) := ((Below.refl _ _).alloc (Nat.le_refl _) _).setRow (Nat.le_refl _) _
    exact ⟨HB1.out.below hb HB1.out.lt, (Brow.new w1 22 zs32).setRow, HR1D.out.below hb, HBW1.out.trans (hb.mono HBW1.out.size)⟩)
  refine gen_code (F := ML0 w rr r0 w1.heap.size a1 n1 es) (K1.out _ rfl) ?_
  intro w3 h3
  have H3 := Lib.hid h3
  have HL1 := Lib.hid (run_dload dtR w3 w.heap.size 32 r1 HR1.out (two_second (x := r0) (by have := h3.1; rw [HRR.out] at this; exact this) HR0.out.1))
  have HL0 := Lib.hid (run_dload dtR w3 w1.heap.size 0 r0 HR0.out h3.2.1.range)
  clear h3 K1 HB1 HBW1 HRO
  by_cases hmn : 0 < m ∧ m ≤ n
  · obtain ⟨hmp, hmn⟩ := hmn
    go_upto_region 5 with (first | (refine wpList_loadg 22 _ (by rfl) (by rfl) (.pointer (some ⟨w.heap.size, 32, none⟩)) (by rfl) (.agg (cellsOf r1).toArray) HL1.out ?_) | (refine wpList_loadg 22 _ (by rfl) (by rfl) (.pointer (some ⟨w1.heap.size, 0, none⟩)) (by rfl) (.agg (cellsOf r0).toArray) HL0.out ?_) | (refine wpList_lay2o (by rfl) (.tmp 19) (.tmp 20) 21 r1 r0 HR1.out HR0.out (by rfl) (by rfl) (by rfl) ?_; intro w4 hown hb4; have HO4 := Lib.hid hown; have H4 := Lib.hid (H3.out.step hb4); have hs4 := hown.block _ rfl; clear hown hb4))
    have HL4 := Lib.hid (run_dload dtR w4 w1.heap.size 0 r0 HR0.out H4.out.2.1.range)
    go_wp2_with (first | (refine wpList_loadg 22 _ (by rfl) (by rfl) (.pointer (some ⟨w1.heap.size, 0, none⟩)) (by rfl) (.agg (cellsOf r0).toArray) HL4.out ?_))
    refine (grow_any r0 m n a1 n1 c1 es w4 hmp hmn hn2 HR0.out H4.out.2.2.1 hc1 hc1m (fun b hb => by have h1 := HAB.out b hb; have h2 := H4.out.2.1.lt; omega)).mono ?_
    rintro e w5 ⟨x, y, ga, gl, gc, gb, hx, hy, rfl, hb5⟩
    have HY := Lib.hid hy
    have HCI := Lib.hid (info_bothC hx hy (.slice ga gl gc) gb)
    have HCS := Lib.hid (show noC.size = (bothC x y (.slice ga gl gc) gb).size from by rw [bothC_size hx hy, noC_size])
    have HCO := Lib.hid (bothC_one x y ga gl gc gb)
    have HO5 := Lib.hid (OwnD.below HO4.out hb5 (Nat.le_refl _))
    have H5 := Lib.hid (H4.out.step hb5)
    have hs5 : w3.heap.size < w5.heap.size := Nat.lt_of_lt_of_le hs4.2 hb5.size
    obtain ⟨CX, hCX⟩ : ∃ CX, CX = bothC x y (.slice ga gl gc) gb := ⟨_, rfl⟩
    have HLY := Lib.hid (show ∀ W, BR W w5.heap.size CX → (Instr.loadAt 22 (.pointer (some ⟨w5.heap.size, 32, none⟩))).run Tryd.prog W = .ok (.agg (cellsOf y).toArray) W from fun W h => by rw [hCX] at h; exact h.lsecond hx hy)
    rw [← hCX] at HCI HCS HCO ⊢
    have K6 := Lib.hid (fun (O : Obj) (hO : O = .cells noC 27 (0, 0)) => show BR ((w5.alloc O).setRow w5.heap.size CX) w5.heap.size CX ∧ ML0 w rr r0 w1.heap.size a1 n1 es ((w5.alloc O).setRow w5.heap.size CX) ∧ OwnD ((w5.alloc O).setRow w5.heap.size CX) w3.heap.size 22 (.slice (some ⟨w3.heap.size, 0, none⟩) 2 2) [r1, r0] from by
      subst hO
      have hb : Below w5.heap.size w5 ((w5.alloc (.cells noC 27 (0, 0))).setRow w5.heap.size CX) := ((Below.refl _ _).alloc (Nat.le_refl _) _).setRow (Nat.le_refl _) _
      exact ⟨BR.setRow (C := noC) (heap_new _ _), H5.out.step hb, OwnD.below HO5.out hb (Nat.le_refl _)⟩)
    clear hx hy hb5 H4 HO4 hCX
    go_upto_region 6 with (first | (refine wpList_storeB w5.heap.size CX noC (.tmp 11) (.tmp 33) (by rfl) (by rfl) (by rfl) (by rfl) (by exact heap_newB _ _ (by kernel_rfl)) HCI.out HCS.out HCO.out ?_))
    refine gen_code (F := fun W => BR W w5.heap.size CX ∧ ML0 w rr r0 w1.heap.size a1 n1 es W ∧ OwnD W w3.heap.size 22 (.slice (some ⟨w3.heap.size, 0, none⟩) 2 2) [r1, r0]) (K6.out _ (by kernel_rfl)) ?_
    rintro w6 ⟨hbr, hm6, ho6⟩
    have HLY6 := Lib.hid (HLY.out w6 hbr)
    have H6 := Lib.hid hm6
    have HO6 := Lib.hid ho6
    have hs6 : w3.heap.size ≤ w6.heap.size := by have := hbr.lt; omega
    clear hbr hm6 ho6 K6 HLY H5 HO5
    go_upto_region 7 with (first | (refine wpList_loadg 22 _ (by rfl) (by rfl) (.pointer (some ⟨w5.heap.size, 32, none⟩)) (by rfl) (.agg (cellsOf y).toArray) HLY6.out ?_) | (refine wpList_dlay dtR (by rfl) _ (by rfl) w6.heap.size (by rfl) (some 37) (by rfl) y HY.out (by rfl) ?_) | (at_builtin; (refine wpList_dpush dtR (by rfl) (.tmp 34) (.tmp 37) (by rfl) w3.heap.size _ [r1, r0] y HY.out (by rfl) HO6.out hs6 (by rfl) (by simp) ?_); intro nv w5 hown hb7; have HM7 := Lib.hid (show ML0 w rr r0 w1.heap.size a1 n1 es w5 from ⟨H6.out.1.below hb7 (by have := H3.out.1.lt; omega), H6.out.2.1.below hb7 H3.out.2.1.lt, H6.out.2.2.1.belowB hb7 (fun b hb => by have h1 := HAB.out b hb; have h2 := H3.out.2.1.lt; omega), H6.out.2.2.2.trans (hb7.mono H3.out.2.2.2.size)⟩); have HO7 := Lib.hid hown; clear hown hb7))
    obtain ⟨N, hNN⟩ : ∃ N, N = [r1, r0] ++ [y] := ⟨_, rfl⟩
    have HN := Lib.hid (show ∀ d ∈ N, D32 d from by rw [hNN]; intro d hd; simp only [List.mem_append, List.mem_cons, List.not_mem_nil, or_false] at hd; rcases hd with (rfl | rfl) | rfl <;> first | exact HR1.out | exact HR0.out | exact HY.out)
    have hN0 : 0 < N.length := by rw [hNN]; simp
    rw [← hNN] at HO7
    have hown := HO7.out
    have hm5 := HM7.out
    clear hNN HO7 HM7 H6 HO6
    obtain ⟨na, nl, nc, hv, hNl, hnc, hncm, _, hNr⟩ := hown.form HN.out
    have hnl : 0 < nl := by rw [← hNl]; exact hN0
    obtain ⟨nb, no, rfl, _, _⟩ := hNr.at 0 hnl
    have HL5 := Lib.hid (show MXL w r0 w1.heap.size a1 n1 es (some ⟨nb, no, none⟩) nl N w5 from ⟨hm5.2.1, hm5.2.2.1, hNr, hm5.2.2.2⟩)
    have hablk : ∀ W, MXL w r0 w1.heap.size a1 n1 es (some ⟨nb, no, none⟩) nl N W → ∀ b, blkOf a1 = some b → b < W.heap.size := by
      intro W hW b hb
      have h1 := HAB.out b hb
      have h2 := hW.1.lt
      omega
    have HABL := Lib.hid hablk
    clear hablk hown hm5 hNr
    subst hv
    go_wp2_with fail
    go_loopw [41] (fun q wr => ∃ k : Nat, k ≤ nl ∧ q = .int .i64 k ∧ Hid (MXL w r0 w1.heap.size a1 n1 es (some ⟨nb, no, none⟩) nl N wr)) (fun q _ => nl - (intOf q).toNat)
    case atStart => exact ⟨0, by omega, rfl, HL5⟩
    case round =>
      clear HL5
      obtain ⟨k, hk2, rfl, HM⟩ := hrel
      by_cases hk : k < nl
      · obtain ⟨x, hx⟩ : ∃ x, x = N.getD k [] := ⟨_, rfl⟩
        have HX := Lib.hid (show D32 x from by rw [hx]; exact D32.get HN.out k (by omega))
        have kI := fun W => run_dindex dtR W nb no nl nc k hk
        have HLX0 := Lib.hid (run_dload dtR wr nb (no + k * 32) x HX.out (by
          obtain ⟨b', o', h1, _, h3⟩ := HM.out.2.2.1.at k hk
          simp only [Option.some.injEq, Addr.mk.injEq, and_true] at h1
          obtain ⟨rfl, rfl⟩ := h1
          rw [hx]
          exact h3))
        have HIX := Lib.hid (info32 dtR HX.out)
        have HZX := Lib.hid (zsize HX.out)
        have K2 := Lib.hid (fun (O : Obj) (hO : O = .cells (cellsOf zs32).toArray 22 (0, 0)) => show MXX w r0 w1.heap.size a1 n1 es (some ⟨nb, no, none⟩) nl N wr.heap.size x ((wr.alloc O).setRow wr.heap.size (cellsOf x).toArray) from by
          subst hO
          have hb : Below wr.heap.size wr ((wr.alloc (.cells (cellsOf zs32).toArray 22 (0, 0))).setRow wr.heap.size (cellsOf x).toArray) := ((Below.refl _ _).alloc (Nat.le_refl _) _).setRow (Nat.le_refl _) _
          exact ⟨HM.out.step hb, (Brow.new wr 22 zs32).setRow⟩)
        clear hx
        go_upto_region 10 with (first | (refine wpList_loadg 22 _ (by rfl) (by rfl) (.pointer (some ⟨nb, no + k * 32, none⟩)) (by rfl) (.agg (cellsOf x).toArray) HLX0.out ?_) | (refine wpList_store_row (by rfl) 22 _ _ (by rfl) wr.heap.size (cellsOf x).toArray (by rfl) (by rfl) 22 (cellsOf zs32).toArray (by exact heap_new _ _) HIX.out HZX.out (cellsOf_all _) ?_))
        obtain ⟨gx, hgx⟩ : ∃ g, g = wr.heap.size := ⟨_, rfl⟩
        rw [← hgx] at K2 ⊢
        refine gen_code (F := MXX w r0 w1.heap.size a1 n1 es (some ⟨nb, no, none⟩) nl N gx x) (by rw [hgx]; rw [hgx] at K2; exact K2.out _ rfl) ?_
        intro w6 h6
        have HS := Lib.hid (show MXX w r0 w1.heap.size a1 n1 es (some ⟨nb, no, none⟩) nl N gx x w6.drew from ⟨⟨h6.1.1.drew, h6.1.2.1, h6.1.2.2.1, h6.1.2.2.2.drew⟩, h6.2.drew⟩)
        clear h6 K2 hgx kI HLX0 HM
        (try dsimp only [Act.put, List.setIfInBounds_toArray, List.set_cons_zero, List.set_cons_succ])
        have HLX := Lib.hid (fun W (hW : MXX w r0 w1.heap.size a1 n1 es (some ⟨nb, no, none⟩) nl N gx x W) => run_dload dtR W gx 0 x HX.out hW.2.range)
        have HLO := Lib.hid (fun W (hW : MXX w r0 w1.heap.size a1 n1 es (some ⟨nb, no, none⟩) nl N gx x W) => run_dload dtR W w1.heap.size 0 r0 HR0.out hW.1.1.range)
        have HTO := Lib.hid (fun W (hW : DR W a1 n1 es) => to_c n1 es a1 c1 W hW (by omega))
        obtain ⟨V, hV⟩ : ∃ V, V = exB r0 m x n es := ⟨_, rfl⟩
        have HCK := Lib.hid (show ∀ W fa fn fc, Below w.heap.size w W → DR W fa fn es → fn ≤ fc → fc ≤ 9223372036854775807 → Calls Tryd.prog 11 #[.agg (cellsOf r0).toArray, .int .i64 m, .agg (cellsOf x).toArray, .int .i64 n, .slice fa fn fc] W (fun e w' => e = .returned (.bool V) ∧ Below W.heap.size W w') from fun W fa fn fc h1 h2 h3 h4 => by rw [hV]; exact ext_g m n r0 x fa fn fc _ W hn2 HR0.out HX.out h2 h3 h4 (HT.out.below h1 hpos))
        have HRK := Lib.hid (show ∀ W, MXL w r0 w1.heap.size a1 n1 es (some ⟨nb, no, none⟩) nl N W → Calls Tryd.prog 13 #[.agg (cellsOf r0).toArray, .int .i64 m, .agg (cellsOf x).toArray, .int .i64 n, .slice a1 n1 c1] W (fun e w' => e = .returned (.bool V) ∧ Below W.heap.size W w') from fun W hW => by rw [hV]; exact rext_g m n r0 x _ _ _ _ W hn2 HR0.out HX.out hW.2.1 hc1 hc1m (HABL.out W hW))
        clear hV
        refine anyH_begin (S := MXX w r0 w1.heap.size a1 n1 es (some ⟨nb, no, none⟩) nl N gx x) (by kernel_rfl) ?_
        refine anyH_loadG 0 (d := 45) (ty := 22) (x := (.tmp 9)) (gd := none) (p := .pointer (some ⟨w1.heap.size, 0, none⟩)) (.agg (cellsOf r0).toArray) (by rfl) (fun o ho => wanted_plain ho _) (by kernel_rfl) (by kernel_rfl) (by kernel_rfl) (fun _ _ _ h => h) (by rfl) HLO.out HS.out ?_
        simp only [Act.put, List.setIfInBounds_toArray, List.set_cons_zero, List.set_cons_succ]
        refine anyH_pureG 1 (d := 46) (op := .move (.tmp 1)) (gd := none) (.int .i64 m) (by rfl) (fun o ho => wanted_plain ho _) (by kernel_rfl) (by kernel_rfl) (by kernel_rfl) (fun _ _ _ h => h) (fun o ho W hW => by unfold execOp; simp only [ho]; go_simp) HS.out ?_
        simp only [Act.put, List.setIfInBounds_toArray, List.set_cons_zero, List.set_cons_succ]
        refine anyH_loadG 2 (d := 47) (ty := 22) (x := (.tmp 13)) (gd := none) (p := .pointer (some ⟨gx, 0, none⟩)) (.agg (cellsOf x).toArray) (by rfl) (fun o ho => wanted_plain ho _) (by kernel_rfl) (by kernel_rfl) (by kernel_rfl) (fun _ _ _ h => h) (by rfl) HLX.out HS.out ?_
        simp only [Act.put, List.setIfInBounds_toArray, List.set_cons_zero, List.set_cons_succ]
        refine anyH_pureG 3 (d := 48) (op := .move (.tmp 2)) (gd := none) (.int .i64 n) (by rfl) (fun o ho => wanted_plain ho _) (by kernel_rfl) (by kernel_rfl) (by kernel_rfl) (fun _ _ _ h => h) (fun o ho W hW => by unfold execOp; simp only [ho]; go_simp) HS.out ?_
        simp only [Act.put, List.setIfInBounds_toArray, List.set_cons_zero, List.set_cons_succ]
        refine anyH_pureG 4 (d := 49) (op := .move (.tmp 3)) (gd := none) (.slice a1 n1 c1) (by rfl) (fun o ho => wanted_plain ho _) (by kernel_rfl) (by kernel_rfl) (by kernel_rfl) (fun _ _ _ h => h) (fun o ho W hW => by unfold execOp; simp only [ho]; go_simp) HS.out ?_
        simp only [Act.put, List.setIfInBounds_toArray, List.set_cons_zero, List.set_cons_succ]
        refine anyH_loadG 7 (d := 52) (ty := 22) (x := (.tmp 9)) (gd := none) (p := .pointer (some ⟨w1.heap.size, 0, none⟩)) (.agg (cellsOf r0).toArray) (by rfl) (fun o ho => wanted_plain ho _) (by kernel_rfl) (by kernel_rfl) (by kernel_rfl) (fun _ _ _ h => h) (by rfl) HLO.out HS.out ?_
        simp only [Act.put, List.setIfInBounds_toArray, List.set_cons_zero, List.set_cons_succ]
        refine anyH_pureG 8 (d := 53) (op := .move (.tmp 1)) (gd := none) (.int .i64 m) (by rfl) (fun o ho => wanted_plain ho _) (by kernel_rfl) (by kernel_rfl) (by kernel_rfl) (fun _ _ _ h => h) (fun o ho W hW => by unfold execOp; simp only [ho]; go_simp) HS.out ?_
        simp only [Act.put, List.setIfInBounds_toArray, List.set_cons_zero, List.set_cons_succ]
        refine anyH_loadG 9 (d := 54) (ty := 22) (x := (.tmp 13)) (gd := none) (p := .pointer (some ⟨gx, 0, none⟩)) (.agg (cellsOf x).toArray) (by rfl) (fun o ho => wanted_plain ho _) (by kernel_rfl) (by kernel_rfl) (by kernel_rfl) (fun _ _ _ h => h) (by rfl) HLX.out HS.out ?_
        simp only [Act.put, List.setIfInBounds_toArray, List.set_cons_zero, List.set_cons_succ]
        refine anyH_pureG 10 (d := 55) (op := .move (.tmp 2)) (gd := none) (.int .i64 n) (by rfl) (fun o ho => wanted_plain ho _) (by kernel_rfl) (by kernel_rfl) (by kernel_rfl) (fun _ _ _ h => h) (fun o ho W hW => by unfold execOp; simp only [ho]; go_simp) HS.out ?_
        simp only [Act.put, List.setIfInBounds_toArray, List.set_cons_zero, List.set_cons_succ]
        refine anyH_pureG 11 (d := 56) (op := .move (.tmp 3)) (gd := none) (.slice a1 n1 c1) (by rfl) (fun o ho => wanted_plain ho _) (by kernel_rfl) (by kernel_rfl) (by kernel_rfl) (fun _ _ _ h => h) (fun o ho W hW => by unfold execOp; simp only [ho]; go_simp) HS.out ?_
        simp only [Act.put, List.setIfInBounds_toArray, List.set_cons_zero, List.set_cons_succ]
        refine anyH_callG 5 (d := some 50) (f := 12) (xs := #[(.tmp 49)]) (ts := #[24]) (gd := none) (vs := #[.slice a1 n1 c1]) (by kernel_rfl) (by rfl) (fun o ho => wanted_plain ho _) (by go_simp) (by go_simp) (HTO.out _ HS.out.1.2.1) ?_
        rintro e71 w71 ⟨v71, rfl, hov71, hb71⟩
        obtain ⟨fa, fn, fc, rfl, hfn, hfc, hfm, _, hr71⟩ := hov71.form HES.out
        refine ⟨_, rfl, HS.out.step hb71, fun hS71 => ?_⟩
        have HS := Lib.hid hS71
        have HF := Lib.hid hr71
        clear hov71 hr71 hS71 hb71
        simp only [Act.put, List.setIfInBounds_toArray, List.set_cons_zero, List.set_cons_succ]
        refine anyH_callG 6 (d := some 51) (f := 11) (xs := #[(.tmp 45), (.tmp 46), (.tmp 47), (.tmp 48), (.tmp 50)]) (ts := #[30, 3, 30, 3, 31]) (gd := none) (vs := #[.agg (cellsOf r0).toArray, .int .i64 m, .agg (cellsOf x).toArray, .int .i64 n, .slice fa fn fc]) (by kernel_rfl) (by rfl) (fun o ho => wanted_plain ho _) (by go_simp) (by go_simp) (HCK.out _ fa fn fc HS.out.1.2.2.2 HF.out hfc hfm) ?_
        rintro e72 w72 ⟨rfl, hb72⟩
        refine ⟨_, rfl, HS.out.step hb72, fun hS72 => ?_⟩
        have HS := Lib.hid hS72
        clear hS72 hb72
        simp only [Act.put, List.setIfInBounds_toArray, List.set_cons_zero, List.set_cons_succ]
        refine anyH_callG 12 (d := some 57) (f := 13) (xs := #[(.tmp 52), (.tmp 53), (.tmp 54), (.tmp 55), (.tmp 56)]) (ts := #[22, 3, 22, 3, 24]) (gd := none) (vs := #[.agg (cellsOf r0).toArray, .int .i64 m, .agg (cellsOf x).toArray, .int .i64 n, .slice a1 n1 c1]) (by kernel_rfl) (by rfl) (fun o ho => wanted_plain ho _) (by go_simp) (by go_simp) (HRK.out _ HS.out.1) ?_
        rintro e73 w73 ⟨rfl, hb73⟩
        refine ⟨_, rfl, HS.out.step hb73, fun hS73 => ?_⟩
        have HS := Lib.hid hS73
        clear hS73 hb73
        simp only [Act.put, List.setIfInBounds_toArray, List.set_cons_zero, List.set_cons_succ]
        refine anyH_pureG 13 (d := 58) (op := .binOp .neq 4 (.tmp 51) (.tmp 57) 4) (gd := none) (.bool false) (by rfl) (fun o ho => wanted_plain ho _) (by kernel_rfl) (by kernel_rfl) (by kernel_rfl) (fun _ _ _ h => h) (fun o ho W hW => by unfold execOp; simp only [ho]; cases V <;> go_simp) HS.out ?_
        refine wpAnyH_done (by kernel_rfl) ?_ _
        have HM2 := Lib.hid HS.out.1
        clear HS HLX HLO HTO HCK HRK
        go_wp2
        go_roundw
        case rel => exact ⟨k + 1, by omega, by go_num, HM2⟩
        case measure => simp [intOf]; omega
      · obtain rfl : k = nl := by omega
        have HB := Lib.hid HM.out.2.2.2
        go_wp2_with (first | (go_at_call 14; refine (awake3_c _ (HT.out.below HB.out hpos)).mono ?_; rintro e wb ⟨rfl, hbb⟩; have HB2 := Lib.hid (HB.out.trans (hbb.mono HB.out.size)); clear hbb))
        go_ret
        exact ⟨rfl, HB2.out⟩
  · have q9 : (0 : Int) < m → ¬ m ≤ n := fun h h' => hmn ⟨h, h'⟩
    have hsplit : m ≤ 0 ∨ (0 < m ∧ n < m) := by omega
    clear hmn q9
    go_upto_region 4 with (first | (refine wpList_loadg 22 _ (by rfl) (by rfl) (.pointer (some ⟨w.heap.size, 32, none⟩)) (by rfl) (.agg (cellsOf r1).toArray) HL1.out ?_) | (refine wpList_loadg 22 _ (by rfl) (by rfl) (.pointer (some ⟨w1.heap.size, 0, none⟩)) (by rfl) (.agg (cellsOf r0).toArray) HL0.out ?_) | (refine wpList_lay2v (by rfl) (.tmp 19) (.tmp 20) 21 r1 r0 HR1.out HR0.out (by rfl) (by rfl) (by rfl) ?_; intro nv w5 hown hb4; have HO4 := Lib.hid hown; have H4 := Lib.hid (H3.out.step hb4); clear hown hb4))
    obtain ⟨N, hNN⟩ : ∃ N, N = [r1, r0] := ⟨_, rfl⟩
    have HN := Lib.hid (show ∀ d ∈ N, D32 d from by rw [hNN]; intro d hd; simp only [List.mem_cons, List.not_mem_nil, or_false] at hd; rcases hd with rfl | rfl <;> first | exact HR1.out | exact HR0.out)
    have hN0 : 0 < N.length := by rw [hNN]; simp
    have hN2 : N.length = 2 := by rw [hNN]; rfl
    rw [← hNN] at HO4
    clear hNN HL1 HL0
    rcases hsplit with hsp | ⟨hsp1, hsp2⟩
    · have q1 : ¬ (0 : Int) < m := by omega
      go_upto_region 7 with fail
      have hown := HO4.out
      have hm5 := H4.out
      clear HO4 H4
      obtain ⟨na, nl, nc, hv, hNl, hnc, hncm, _, hNr⟩ := hown.form HN.out
      have hnl : 0 < nl := by rw [← hNl]; exact hN0
      obtain ⟨nb, no, rfl, _, _⟩ := hNr.at 0 hnl
      have HL5 := Lib.hid (show MXL w r0 w1.heap.size a1 n1 es (some ⟨nb, no, none⟩) nl N w5 from ⟨hm5.2.1, hm5.2.2.1, hNr, hm5.2.2.2⟩)
      have hablk : ∀ W, MXL w r0 w1.heap.size a1 n1 es (some ⟨nb, no, none⟩) nl N W → ∀ b, blkOf a1 = some b → b < W.heap.size := by
        intro W hW b hb
        have h1 := HAB.out b hb
        have h2 := hW.1.lt
        omega
      have HABL := Lib.hid hablk
      clear hablk hown hm5 hNr
      subst hv
      go_wp2_with fail
      go_loopw [41] (fun q wr => ∃ k : Nat, k ≤ nl ∧ q = .int .i64 k ∧ Hid (MXL w r0 w1.heap.size a1 n1 es (some ⟨nb, no, none⟩) nl N wr)) (fun q _ => nl - (intOf q).toNat)
      case atStart => exact ⟨0, by omega, rfl, HL5⟩
      case round =>
        clear HL5
        obtain ⟨k, hk2, rfl, HM⟩ := hrel
        by_cases hk : k < nl
        · obtain ⟨x, hx⟩ : ∃ x, x = N.getD k [] := ⟨_, rfl⟩
          have HX := Lib.hid (show D32 x from by rw [hx]; exact D32.get HN.out k (by omega))
          have kI := fun W => run_dindex dtR W nb no nl nc k hk
          have HLX0 := Lib.hid (run_dload dtR wr nb (no + k * 32) x HX.out (by
            obtain ⟨b', o', h1, _, h3⟩ := HM.out.2.2.1.at k hk
            simp only [Option.some.injEq, Addr.mk.injEq, and_true] at h1
            obtain ⟨rfl, rfl⟩ := h1
            rw [hx]
            exact h3))
          have HIX := Lib.hid (info32 dtR HX.out)
          have HZX := Lib.hid (zsize HX.out)
          have K2 := Lib.hid (fun (O : Obj) (hO : O = .cells (cellsOf zs32).toArray 22 (0, 0)) => show MXX w r0 w1.heap.size a1 n1 es (some ⟨nb, no, none⟩) nl N wr.heap.size x ((wr.alloc O).setRow wr.heap.size (cellsOf x).toArray) from by
            subst hO
            have hb : Below wr.heap.size wr ((wr.alloc (.cells (cellsOf zs32).toArray 22 (0, 0))).setRow wr.heap.size (cellsOf x).toArray) := ((Below.refl _ _).alloc (Nat.le_refl _) _).setRow (Nat.le_refl _) _
            exact ⟨HM.out.step hb, (Brow.new wr 22 zs32).setRow⟩)
          clear hx
          go_upto_region 10 with (first | (refine wpList_loadg 22 _ (by rfl) (by rfl) (.pointer (some ⟨nb, no + k * 32, none⟩)) (by rfl) (.agg (cellsOf x).toArray) HLX0.out ?_) | (refine wpList_store_row (by rfl) 22 _ _ (by rfl) wr.heap.size (cellsOf x).toArray (by rfl) (by rfl) 22 (cellsOf zs32).toArray (by exact heap_new _ _) HIX.out HZX.out (cellsOf_all _) ?_))
          obtain ⟨gx, hgx⟩ : ∃ g, g = wr.heap.size := ⟨_, rfl⟩
          rw [← hgx] at K2 ⊢
          refine gen_code (F := MXX w r0 w1.heap.size a1 n1 es (some ⟨nb, no, none⟩) nl N gx x) (by rw [hgx]; rw [hgx] at K2; exact K2.out _ rfl) ?_
          intro w6 h6
          have HS := Lib.hid (show MXX w r0 w1.heap.size a1 n1 es (some ⟨nb, no, none⟩) nl N gx x w6.drew from ⟨⟨h6.1.1.drew, h6.1.2.1, h6.1.2.2.1, h6.1.2.2.2.drew⟩, h6.2.drew⟩)
          clear h6 K2 hgx kI HLX0 HM
          (try dsimp only [Act.put, List.setIfInBounds_toArray, List.set_cons_zero, List.set_cons_succ])
          have HLX := Lib.hid (fun W (hW : MXX w r0 w1.heap.size a1 n1 es (some ⟨nb, no, none⟩) nl N gx x W) => run_dload dtR W gx 0 x HX.out hW.2.range)
          have HLO := Lib.hid (fun W (hW : MXX w r0 w1.heap.size a1 n1 es (some ⟨nb, no, none⟩) nl N gx x W) => run_dload dtR W w1.heap.size 0 r0 HR0.out hW.1.1.range)
          have HTO := Lib.hid (fun W (hW : DR W a1 n1 es) => to_c n1 es a1 c1 W hW (by omega))
          obtain ⟨V, hV⟩ : ∃ V, V = exB r0 m x n es := ⟨_, rfl⟩
          have HCK := Lib.hid (show ∀ W fa fn fc, Below w.heap.size w W → DR W fa fn es → fn ≤ fc → fc ≤ 9223372036854775807 → Calls Tryd.prog 11 #[.agg (cellsOf r0).toArray, .int .i64 m, .agg (cellsOf x).toArray, .int .i64 n, .slice fa fn fc] W (fun e w' => e = .returned (.bool V) ∧ Below W.heap.size W w') from fun W fa fn fc h1 h2 h3 h4 => by rw [hV]; exact ext_g m n r0 x fa fn fc _ W hn2 HR0.out HX.out h2 h3 h4 (HT.out.below h1 hpos))
          have HRK := Lib.hid (show ∀ W, MXL w r0 w1.heap.size a1 n1 es (some ⟨nb, no, none⟩) nl N W → Calls Tryd.prog 13 #[.agg (cellsOf r0).toArray, .int .i64 m, .agg (cellsOf x).toArray, .int .i64 n, .slice a1 n1 c1] W (fun e w' => e = .returned (.bool V) ∧ Below W.heap.size W w') from fun W hW => by rw [hV]; exact rext_g m n r0 x _ _ _ _ W hn2 HR0.out HX.out hW.2.1 hc1 hc1m (HABL.out W hW))
          clear hV
          refine anyH_begin (S := MXX w r0 w1.heap.size a1 n1 es (some ⟨nb, no, none⟩) nl N gx x) (by kernel_rfl) ?_
          refine anyH_loadG 0 (d := 45) (ty := 22) (x := (.tmp 9)) (gd := none) (p := .pointer (some ⟨w1.heap.size, 0, none⟩)) (.agg (cellsOf r0).toArray) (by rfl) (fun o ho => wanted_plain ho _) (by kernel_rfl) (by kernel_rfl) (by kernel_rfl) (fun _ _ _ h => h) (by rfl) HLO.out HS.out ?_
          simp only [Act.put, List.setIfInBounds_toArray, List.set_cons_zero, List.set_cons_succ]
          refine anyH_pureG 1 (d := 46) (op := .move (.tmp 1)) (gd := none) (.int .i64 m) (by rfl) (fun o ho => wanted_plain ho _) (by kernel_rfl) (by kernel_rfl) (by kernel_rfl) (fun _ _ _ h => h) (fun o ho W hW => by unfold execOp; simp only [ho]; go_simp) HS.out ?_
          simp only [Act.put, List.setIfInBounds_toArray, List.set_cons_zero, List.set_cons_succ]
          refine anyH_loadG 2 (d := 47) (ty := 22) (x := (.tmp 13)) (gd := none) (p := .pointer (some ⟨gx, 0, none⟩)) (.agg (cellsOf x).toArray) (by rfl) (fun o ho => wanted_plain ho _) (by kernel_rfl) (by kernel_rfl) (by kernel_rfl) (fun _ _ _ h => h) (by rfl) HLX.out HS.out ?_
          simp only [Act.put, List.setIfInBounds_toArray, List.set_cons_zero, List.set_cons_succ]
          refine anyH_pureG 3 (d := 48) (op := .move (.tmp 2)) (gd := none) (.int .i64 n) (by rfl) (fun o ho => wanted_plain ho _) (by kernel_rfl) (by kernel_rfl) (by kernel_rfl) (fun _ _ _ h => h) (fun o ho W hW => by unfold execOp; simp only [ho]; go_simp) HS.out ?_
          simp only [Act.put, List.setIfInBounds_toArray, List.set_cons_zero, List.set_cons_succ]
          refine anyH_pureG 4 (d := 49) (op := .move (.tmp 3)) (gd := none) (.slice a1 n1 c1) (by rfl) (fun o ho => wanted_plain ho _) (by kernel_rfl) (by kernel_rfl) (by kernel_rfl) (fun _ _ _ h => h) (fun o ho W hW => by unfold execOp; simp only [ho]; go_simp) HS.out ?_
          simp only [Act.put, List.setIfInBounds_toArray, List.set_cons_zero, List.set_cons_succ]
          refine anyH_loadG 7 (d := 52) (ty := 22) (x := (.tmp 9)) (gd := none) (p := .pointer (some ⟨w1.heap.size, 0, none⟩)) (.agg (cellsOf r0).toArray) (by rfl) (fun o ho => wanted_plain ho _) (by kernel_rfl) (by kernel_rfl) (by kernel_rfl) (fun _ _ _ h => h) (by rfl) HLO.out HS.out ?_
          simp only [Act.put, List.setIfInBounds_toArray, List.set_cons_zero, List.set_cons_succ]
          refine anyH_pureG 8 (d := 53) (op := .move (.tmp 1)) (gd := none) (.int .i64 m) (by rfl) (fun o ho => wanted_plain ho _) (by kernel_rfl) (by kernel_rfl) (by kernel_rfl) (fun _ _ _ h => h) (fun o ho W hW => by unfold execOp; simp only [ho]; go_simp) HS.out ?_
          simp only [Act.put, List.setIfInBounds_toArray, List.set_cons_zero, List.set_cons_succ]
          refine anyH_loadG 9 (d := 54) (ty := 22) (x := (.tmp 13)) (gd := none) (p := .pointer (some ⟨gx, 0, none⟩)) (.agg (cellsOf x).toArray) (by rfl) (fun o ho => wanted_plain ho _) (by kernel_rfl) (by kernel_rfl) (by kernel_rfl) (fun _ _ _ h => h) (by rfl) HLX.out HS.out ?_
          simp only [Act.put, List.setIfInBounds_toArray, List.set_cons_zero, List.set_cons_succ]
          refine anyH_pureG 10 (d := 55) (op := .move (.tmp 2)) (gd := none) (.int .i64 n) (by rfl) (fun o ho => wanted_plain ho _) (by kernel_rfl) (by kernel_rfl) (by kernel_rfl) (fun _ _ _ h => h) (fun o ho W hW => by unfold execOp; simp only [ho]; go_simp) HS.out ?_
          simp only [Act.put, List.setIfInBounds_toArray, List.set_cons_zero, List.set_cons_succ]
          refine anyH_pureG 11 (d := 56) (op := .move (.tmp 3)) (gd := none) (.slice a1 n1 c1) (by rfl) (fun o ho => wanted_plain ho _) (by kernel_rfl) (by kernel_rfl) (by kernel_rfl) (fun _ _ _ h => h) (fun o ho W hW => by unfold execOp; simp only [ho]; go_simp) HS.out ?_
          simp only [Act.put, List.setIfInBounds_toArray, List.set_cons_zero, List.set_cons_succ]
          refine anyH_callG 5 (d := some 50) (f := 12) (xs := #[(.tmp 49)]) (ts := #[24]) (gd := none) (vs := #[.slice a1 n1 c1]) (by kernel_rfl) (by rfl) (fun o ho => wanted_plain ho _) (by go_simp) (by go_simp) (HTO.out _ HS.out.1.2.1) ?_
          rintro e71 w71 ⟨v71, rfl, hov71, hb71⟩
          obtain ⟨fa, fn, fc, rfl, hfn, hfc, hfm, _, hr71⟩ := hov71.form HES.out
          refine ⟨_, rfl, HS.out.step hb71, fun hS71 => ?_⟩
          have HS := Lib.hid hS71
          have HF := Lib.hid hr71
          clear hov71 hr71 hS71 hb71
          simp only [Act.put, List.setIfInBounds_toArray, List.set_cons_zero, List.set_cons_succ]
          refine anyH_callG 6 (d := some 51) (f := 11) (xs := #[(.tmp 45), (.tmp 46), (.tmp 47), (.tmp 48), (.tmp 50)]) (ts := #[30, 3, 30, 3, 31]) (gd := none) (vs := #[.agg (cellsOf r0).toArray, .int .i64 m, .agg (cellsOf x).toArray, .int .i64 n, .slice fa fn fc]) (by kernel_rfl) (by rfl) (fun o ho => wanted_plain ho _) (by go_simp) (by go_simp) (HCK.out _ fa fn fc HS.out.1.2.2.2 HF.out hfc hfm) ?_
          rintro e72 w72 ⟨rfl, hb72⟩
          refine ⟨_, rfl, HS.out.step hb72, fun hS72 => ?_⟩
          have HS := Lib.hid hS72
          clear hS72 hb72
          simp only [Act.put, List.setIfInBounds_toArray, List.set_cons_zero, List.set_cons_succ]
          refine anyH_callG 12 (d := some 57) (f := 13) (xs := #[(.tmp 52), (.tmp 53), (.tmp 54), (.tmp 55), (.tmp 56)]) (ts := #[22, 3, 22, 3, 24]) (gd := none) (vs := #[.agg (cellsOf r0).toArray, .int .i64 m, .agg (cellsOf x).toArray, .int .i64 n, .slice a1 n1 c1]) (by kernel_rfl) (by rfl) (fun o ho => wanted_plain ho _) (by go_simp) (by go_simp) (HRK.out _ HS.out.1) ?_
          rintro e73 w73 ⟨rfl, hb73⟩
          refine ⟨_, rfl, HS.out.step hb73, fun hS73 => ?_⟩
          have HS := Lib.hid hS73
          clear hS73 hb73
          simp only [Act.put, List.setIfInBounds_toArray, List.set_cons_zero, List.set_cons_succ]
          refine anyH_pureG 13 (d := 58) (op := .binOp .neq 4 (.tmp 51) (.tmp 57) 4) (gd := none) (.bool false) (by rfl) (fun o ho => wanted_plain ho _) (by kernel_rfl) (by kernel_rfl) (by kernel_rfl) (fun _ _ _ h => h) (fun o ho W hW => by unfold execOp; simp only [ho]; cases V <;> go_simp) HS.out ?_
          refine wpAnyH_done (by kernel_rfl) ?_ _
          have HM2 := Lib.hid HS.out.1
          clear HS HLX HLO HTO HCK HRK
          go_wp2
          go_roundw
          case rel => exact ⟨k + 1, by omega, by go_num, HM2⟩
          case measure => simp [intOf]; omega
        · obtain rfl : k = nl := by omega
          have HB := Lib.hid HM.out.2.2.2
          go_wp2_with (first | (go_at_call 14; refine (awake3_c _ (HT.out.below HB.out hpos)).mono ?_; rintro e wb ⟨rfl, hbb⟩; have HB2 := Lib.hid (HB.out.trans (hbb.mono HB.out.size)); clear hbb))
          go_ret
          exact ⟨rfl, HB2.out⟩
    · have q2 : ¬ m ≤ n := by omega
      go_upto_region 7 with fail
      have hown := HO4.out
      have hm5 := H4.out
      clear HO4 H4
      obtain ⟨na, nl, nc, hv, hNl, hnc, hncm, _, hNr⟩ := hown.form HN.out
      have hnl : 0 < nl := by rw [← hNl]; exact hN0
      obtain ⟨nb, no, rfl, _, _⟩ := hNr.at 0 hnl
      have HL5 := Lib.hid (show MXL w r0 w1.heap.size a1 n1 es (some ⟨nb, no, none⟩) nl N w5 from ⟨hm5.2.1, hm5.2.2.1, hNr, hm5.2.2.2⟩)
      have hablk : ∀ W, MXL w r0 w1.heap.size a1 n1 es (some ⟨nb, no, none⟩) nl N W → ∀ b, blkOf a1 = some b → b < W.heap.size := by
        intro W hW b hb
        have h1 := HAB.out b hb
        have h2 := hW.1.lt
        omega
      have HABL := Lib.hid hablk
      clear hablk hown hm5 hNr
      subst hv
      go_wp2_with fail
      go_loopw [41] (fun q wr => ∃ k : Nat, k ≤ nl ∧ q = .int .i64 k ∧ Hid (MXL w r0 w1.heap.size a1 n1 es (some ⟨nb, no, none⟩) nl N wr)) (fun q _ => nl - (intOf q).toNat)
      case atStart => exact ⟨0, by omega, rfl, HL5⟩
      case round =>
        clear HL5
        obtain ⟨k, hk2, rfl, HM⟩ := hrel
        by_cases hk : k < nl
        · obtain ⟨x, hx⟩ : ∃ x, x = N.getD k [] := ⟨_, rfl⟩
          have HX := Lib.hid (show D32 x from by rw [hx]; exact D32.get HN.out k (by omega))
          have kI := fun W => run_dindex dtR W nb no nl nc k hk
          have HLX0 := Lib.hid (run_dload dtR wr nb (no + k * 32) x HX.out (by
            obtain ⟨b', o', h1, _, h3⟩ := HM.out.2.2.1.at k hk
            simp only [Option.some.injEq, Addr.mk.injEq, and_true] at h1
            obtain ⟨rfl, rfl⟩ := h1
            rw [hx]
            exact h3))
          have HIX := Lib.hid (info32 dtR HX.out)
          have HZX := Lib.hid (zsize HX.out)
          have K2 := Lib.hid (fun (O : Obj) (hO : O = .cells (cellsOf zs32).toArray 22 (0, 0)) => show MXX w r0 w1.heap.size a1 n1 es (some ⟨nb, no, none⟩) nl N wr.heap.size x ((wr.alloc O).setRow wr.heap.size (cellsOf x).toArray) from by
            subst hO
            have hb : Below wr.heap.size wr ((wr.alloc (.cells (cellsOf zs32).toArray 22 (0, 0))).setRow wr.heap.size (cellsOf x).toArray) := ((Below.refl _ _).alloc (Nat.le_refl _) _).setRow (Nat.le_refl _) _
            exact ⟨HM.out.step hb, (Brow.new wr 22 zs32).setRow⟩)
          clear hx
          go_upto_region 10 with (first | (refine wpList_loadg 22 _ (by rfl) (by rfl) (.pointer (some ⟨nb, no + k * 32, none⟩)) (by rfl) (.agg (cellsOf x).toArray) HLX0.out ?_) | (refine wpList_store_row (by rfl) 22 _ _ (by rfl) wr.heap.size (cellsOf x).toArray (by rfl) (by rfl) 22 (cellsOf zs32).toArray (by exact heap_new _ _) HIX.out HZX.out (cellsOf_all _) ?_))
          obtain ⟨gx, hgx⟩ : ∃ g, g = wr.heap.size := ⟨_, rfl⟩
          rw [← hgx] at K2 ⊢
          refine gen_code (F := MXX w r0 w1.heap.size a1 n1 es (some ⟨nb, no, none⟩) nl N gx x) (by rw [hgx]; rw [hgx] at K2; exact K2.out _ rfl) ?_
          intro w6 h6
          have HS := Lib.hid (show MXX w r0 w1.heap.size a1 n1 es (some ⟨nb, no, none⟩) nl N gx x w6.drew from ⟨⟨h6.1.1.drew, h6.1.2.1, h6.1.2.2.1, h6.1.2.2.2.drew⟩, h6.2.drew⟩)
          clear h6 K2 hgx kI HLX0 HM
          (try dsimp only [Act.put, List.setIfInBounds_toArray, List.set_cons_zero, List.set_cons_succ])
          have HLX := Lib.hid (fun W (hW : MXX w r0 w1.heap.size a1 n1 es (some ⟨nb, no, none⟩) nl N gx x W) => run_dload dtR W gx 0 x HX.out hW.2.range)
          have HLO := Lib.hid (fun W (hW : MXX w r0 w1.heap.size a1 n1 es (some ⟨nb, no, none⟩) nl N gx x W) => run_dload dtR W w1.heap.size 0 r0 HR0.out hW.1.1.range)
          have HTO := Lib.hid (fun W (hW : DR W a1 n1 es) => to_c n1 es a1 c1 W hW (by omega))
          obtain ⟨V, hV⟩ : ∃ V, V = exB r0 m x n es := ⟨_, rfl⟩
          have HCK := Lib.hid (show ∀ W fa fn fc, Below w.heap.size w W → DR W fa fn es → fn ≤ fc → fc ≤ 9223372036854775807 → Calls Tryd.prog 11 #[.agg (cellsOf r0).toArray, .int .i64 m, .agg (cellsOf x).toArray, .int .i64 n, .slice fa fn fc] W (fun e w' => e = .returned (.bool V) ∧ Below W.heap.size W w') from fun W fa fn fc h1 h2 h3 h4 => by rw [hV]; exact ext_g m n r0 x fa fn fc _ W hn2 HR0.out HX.out h2 h3 h4 (HT.out.below h1 hpos))
          have HRK := Lib.hid (show ∀ W, MXL w r0 w1.heap.size a1 n1 es (some ⟨nb, no, none⟩) nl N W → Calls Tryd.prog 13 #[.agg (cellsOf r0).toArray, .int .i64 m, .agg (cellsOf x).toArray, .int .i64 n, .slice a1 n1 c1] W (fun e w' => e = .returned (.bool V) ∧ Below W.heap.size W w') from fun W hW => by rw [hV]; exact rext_g m n r0 x _ _ _ _ W hn2 HR0.out HX.out hW.2.1 hc1 hc1m (HABL.out W hW))
          clear hV
          refine anyH_begin (S := MXX w r0 w1.heap.size a1 n1 es (some ⟨nb, no, none⟩) nl N gx x) (by kernel_rfl) ?_
          refine anyH_loadG 0 (d := 45) (ty := 22) (x := (.tmp 9)) (gd := none) (p := .pointer (some ⟨w1.heap.size, 0, none⟩)) (.agg (cellsOf r0).toArray) (by rfl) (fun o ho => wanted_plain ho _) (by kernel_rfl) (by kernel_rfl) (by kernel_rfl) (fun _ _ _ h => h) (by rfl) HLO.out HS.out ?_
          simp only [Act.put, List.setIfInBounds_toArray, List.set_cons_zero, List.set_cons_succ]
          refine anyH_pureG 1 (d := 46) (op := .move (.tmp 1)) (gd := none) (.int .i64 m) (by rfl) (fun o ho => wanted_plain ho _) (by kernel_rfl) (by kernel_rfl) (by kernel_rfl) (fun _ _ _ h => h) (fun o ho W hW => by unfold execOp; simp only [ho]; go_simp) HS.out ?_
          simp only [Act.put, List.setIfInBounds_toArray, List.set_cons_zero, List.set_cons_succ]
          refine anyH_loadG 2 (d := 47) (ty := 22) (x := (.tmp 13)) (gd := none) (p := .pointer (some ⟨gx, 0, none⟩)) (.agg (cellsOf x).toArray) (by rfl) (fun o ho => wanted_plain ho _) (by kernel_rfl) (by kernel_rfl) (by kernel_rfl) (fun _ _ _ h => h) (by rfl) HLX.out HS.out ?_
          simp only [Act.put, List.setIfInBounds_toArray, List.set_cons_zero, List.set_cons_succ]
          refine anyH_pureG 3 (d := 48) (op := .move (.tmp 2)) (gd := none) (.int .i64 n) (by rfl) (fun o ho => wanted_plain ho _) (by kernel_rfl) (by kernel_rfl) (by kernel_rfl) (fun _ _ _ h => h) (fun o ho W hW => by unfold execOp; simp only [ho]; go_simp) HS.out ?_
          simp only [Act.put, List.setIfInBounds_toArray, List.set_cons_zero, List.set_cons_succ]
          refine anyH_pureG 4 (d := 49) (op := .move (.tmp 3)) (gd := none) (.slice a1 n1 c1) (by rfl) (fun o ho => wanted_plain ho _) (by kernel_rfl) (by kernel_rfl) (by kernel_rfl) (fun _ _ _ h => h) (fun o ho W hW => by unfold execOp; simp only [ho]; go_simp) HS.out ?_
          simp only [Act.put, List.setIfInBounds_toArray, List.set_cons_zero, List.set_cons_succ]
          refine anyH_loadG 7 (d := 52) (ty := 22) (x := (.tmp 9)) (gd := none) (p := .pointer (some ⟨w1.heap.size, 0, none⟩)) (.agg (cellsOf r0).toArray) (by rfl) (fun o ho => wanted_plain ho _) (by kernel_rfl) (by kernel_rfl) (by kernel_rfl) (fun _ _ _ h => h) (by rfl) HLO.out HS.out ?_
          simp only [Act.put, List.setIfInBounds_toArray, List.set_cons_zero, List.set_cons_succ]
          refine anyH_pureG 8 (d := 53) (op := .move (.tmp 1)) (gd := none) (.int .i64 m) (by rfl) (fun o ho => wanted_plain ho _) (by kernel_rfl) (by kernel_rfl) (by kernel_rfl) (fun _ _ _ h => h) (fun o ho W hW => by unfold execOp; simp only [ho]; go_simp) HS.out ?_
          simp only [Act.put, List.setIfInBounds_toArray, List.set_cons_zero, List.set_cons_succ]
          refine anyH_loadG 9 (d := 54) (ty := 22) (x := (.tmp 13)) (gd := none) (p := .pointer (some ⟨gx, 0, none⟩)) (.agg (cellsOf x).toArray) (by rfl) (fun o ho => wanted_plain ho _) (by kernel_rfl) (by kernel_rfl) (by kernel_rfl) (fun _ _ _ h => h) (by rfl) HLX.out HS.out ?_
          simp only [Act.put, List.setIfInBounds_toArray, List.set_cons_zero, List.set_cons_succ]
          refine anyH_pureG 10 (d := 55) (op := .move (.tmp 2)) (gd := none) (.int .i64 n) (by rfl) (fun o ho => wanted_plain ho _) (by kernel_rfl) (by kernel_rfl) (by kernel_rfl) (fun _ _ _ h => h) (fun o ho W hW => by unfold execOp; simp only [ho]; go_simp) HS.out ?_
          simp only [Act.put, List.setIfInBounds_toArray, List.set_cons_zero, List.set_cons_succ]
          refine anyH_pureG 11 (d := 56) (op := .move (.tmp 3)) (gd := none) (.slice a1 n1 c1) (by rfl) (fun o ho => wanted_plain ho _) (by kernel_rfl) (by kernel_rfl) (by kernel_rfl) (fun _ _ _ h => h) (fun o ho W hW => by unfold execOp; simp only [ho]; go_simp) HS.out ?_
          simp only [Act.put, List.setIfInBounds_toArray, List.set_cons_zero, List.set_cons_succ]
          refine anyH_callG 5 (d := some 50) (f := 12) (xs := #[(.tmp 49)]) (ts := #[24]) (gd := none) (vs := #[.slice a1 n1 c1]) (by kernel_rfl) (by rfl) (fun o ho => wanted_plain ho _) (by go_simp) (by go_simp) (HTO.out _ HS.out.1.2.1) ?_
          rintro e71 w71 ⟨v71, rfl, hov71, hb71⟩
          obtain ⟨fa, fn, fc, rfl, hfn, hfc, hfm, _, hr71⟩ := hov71.form HES.out
          refine ⟨_, rfl, HS.out.step hb71, fun hS71 => ?_⟩
          have HS := Lib.hid hS71
          have HF := Lib.hid hr71
          clear hov71 hr71 hS71 hb71
          simp only [Act.put, List.setIfInBounds_toArray, List.set_cons_zero, List.set_cons_succ]
          refine anyH_callG 6 (d := some 51) (f := 11) (xs := #[(.tmp 45), (.tmp 46), (.tmp 47), (.tmp 48), (.tmp 50)]) (ts := #[30, 3, 30, 3, 31]) (gd := none) (vs := #[.agg (cellsOf r0).toArray, .int .i64 m, .agg (cellsOf x).toArray, .int .i64 n, .slice fa fn fc]) (by kernel_rfl) (by rfl) (fun o ho => wanted_plain ho _) (by go_simp) (by go_simp) (HCK.out _ fa fn fc HS.out.1.2.2.2 HF.out hfc hfm) ?_
          rintro e72 w72 ⟨rfl, hb72⟩
          refine ⟨_, rfl, HS.out.step hb72, fun hS72 => ?_⟩
          have HS := Lib.hid hS72
          clear hS72 hb72
          simp only [Act.put, List.setIfInBounds_toArray, List.set_cons_zero, List.set_cons_succ]
          refine anyH_callG 12 (d := some 57) (f := 13) (xs := #[(.tmp 52), (.tmp 53), (.tmp 54), (.tmp 55), (.tmp 56)]) (ts := #[22, 3, 22, 3, 24]) (gd := none) (vs := #[.agg (cellsOf r0).toArray, .int .i64 m, .agg (cellsOf x).toArray, .int .i64 n, .slice a1 n1 c1]) (by kernel_rfl) (by rfl) (fun o ho => wanted_plain ho _) (by go_simp) (by go_simp) (HRK.out _ HS.out.1) ?_
          rintro e73 w73 ⟨rfl, hb73⟩
          refine ⟨_, rfl, HS.out.step hb73, fun hS73 => ?_⟩
          have HS := Lib.hid hS73
          clear hS73 hb73
          simp only [Act.put, List.setIfInBounds_toArray, List.set_cons_zero, List.set_cons_succ]
          refine anyH_pureG 13 (d := 58) (op := .binOp .neq 4 (.tmp 51) (.tmp 57) 4) (gd := none) (.bool false) (by rfl) (fun o ho => wanted_plain ho _) (by kernel_rfl) (by kernel_rfl) (by kernel_rfl) (fun _ _ _ h => h) (fun o ho W hW => by unfold execOp; simp only [ho]; cases V <;> go_simp) HS.out ?_
          refine wpAnyH_done (by kernel_rfl) ?_ _
          have HM2 := Lib.hid HS.out.1
          clear HS HLX HLO HTO HCK HRK
          go_wp2
          go_roundw
          case rel => exact ⟨k + 1, by omega, by go_num, HM2⟩
          case measure => simp [intOf]; omega
        · obtain rfl : k = nl := by omega
          have HB := Lib.hid HM.out.2.2.2
          go_wp2_with (first | (go_at_call 14; refine (awake3_c _ (HT.out.below HB.out hpos)).mono ?_; rintro e wb ⟨rfl, hbb⟩; have HB2 := Lib.hid (HB.out.trans (hbb.mono HB.out.size)); clear hbb))
          go_ret
          exact ⟨rfl, HB2.out⟩
theorem mextends_c (r0 r1 : List Nat) (m n : Int) (a : Option Addr) (l cap : Nat) (ds : Ds) (w : World) (h0 : D32 r0) (h1 : D32 r1) (hm : (Lit.int .i64 m).wf = true) (hn : (Lit.int .i64 n).wf = true) (r : DigsIn w a l cap ds) (ht : Tab w) :
    Calls Tryd.prog 3 #[.agg (cellsOf (r0 ++ r1)).toArray, .int .i64 m, .int .i64 n, .slice a l cap] w fun e w' => e = .returned (.bool true) ∧ Below w.heap.size w w' := by
  have hb : -9223372036854775808 ≤ m ∧ m ≤ 9223372036854775807 := by simpa [Lit.wf, IntKind.min, IntKind.max, IntKind.signed, IntKind.bits] using hm
  have hb2 : -9223372036854775808 ≤ n ∧ n ≤ 9223372036854775807 := by simpa [Lit.wf, IntKind.min, IntKind.max, IntKind.signed, IntKind.bits] using hn
  exact extends_in r0 r1 m n a l cap ds w h0 h1 r ht hb.1 hb.2 hb2.1 hb2.2
end Go.Proofs.YtdcninfbpmhojaaDoor
