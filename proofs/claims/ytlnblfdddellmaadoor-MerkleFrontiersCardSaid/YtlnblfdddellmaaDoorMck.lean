/-
  The walk over MerkleChecks.
-/
import Derived.Test.YtlnblfdddellmaaDoorRck
import Derived.Test.YtlnblfdddellmaaDoorMpt
namespace Go.Proofs.YtlnblfdddellmaaDoor
open Go.RowKit
set_option linter.unusedVariables false
/-- what Check says, of any numbers -/
def ckB (n i : Int) (leaf : List Nat) (way : Ds) (root : List Nat) : Bool := if i < 0 ∨ n ≤ i then false else decide (topS n.toNat i.toNat leaf way = some root)
theorem run_alloc_r (a : Act) (o : Oper) (ho : o.op = .alloc 31) (W : World) : (execOp a.eval o).run Tryd.prog W = .ok (.value (.pointer (some ⟨W.heap.size, 0, none⟩))) (W.alloc (.cells (cellsOf zs32).toArray 31)) := by
  unfold execOp
  simp only [ho]
  kernel_rfl
theorem wp_alloc_r {o : Oper} {a : Act} {w : World} {K : Act → World → Prop} {Q : Exit → Act → World → Prop} (ho : o.op = .alloc 31)
    (h : K (a.put o.dst (.pointer (some ⟨w.heap.size, 0, none⟩))) (w.alloc (.cells (cellsOf zs32).toArray 31))) : o.wp Tryd.prog a w K Q := by
  unfold Oper.wp
  rw [run_alloc_r a o ho w]
  exact h
theorem OwnD.blk {w : World} {B : Nat} {E : TypeId} {a : Option Addr} {n c : Nat} {ds : Ds} (h : OwnD w B E (.slice a n c) ds) : ∀ b, blkOf a = some b → b < w.heap.size := by
  intro b hb
  refine (h.block b ?_).2
  cases a with
  | none => simp [blkOf] at hb
  | some a => simpa [blkOf, Value.ownBlock] using hb
/-- the first part: a leaf, and the way behind it, in memory of the law's own -/
def MC1 (w : World) (root : List Nat) (a1 : Option Addr) (n1 : Nat) (es : Ds) (W : World) : Prop := Brow W w.heap.size 31 root ∧ DR W a1 n1 es ∧ Below w.heap.size w W
theorem MC1.step {w W W' : World} {root : List Nat} {a1 : Option Addr} {n1 : Nat} {es : Ds} (h : MC1 w root a1 n1 es W) (hb : Below W.heap.size W W') : MC1 w root a1 n1 es W' := ⟨h.1.below hb h.1.lt, h.2.1.below hb, h.2.2.trans (hb.mono h.2.2.size)⟩
theorem built_two {E : TypeId} (hr : (Tryd.prog.info? E).map (fun i => (i.zero.map (·.cells.size), i.size, i.bytes)) = some (some 32, 32, 32)) (x y : List Nat) (hx : x.length = 32) (hy : y.length = 32) : Tryd.prog.builtSlice E 2 [(0, .agg (cellsOf x).toArray), (1, .agg (cellsOf y).toArray)] = some (cellsOf [x, y].flatten).toArray := by
  unfold Program.builtSlice
  cases hi : Tryd.prog.info? E with
  | none => simp [hi] at hr
  | some i =>
    simp only [hi, Option.map_some, Option.some.injEq, Prod.mk.injEq] at hr
    obtain ⟨h1, h2, h3⟩ := hr
    obtain ⟨z, hz, hs⟩ := Option.map_eq_some_iff.1 h1
    simp only [hz, h2]
    have := Great.fill_whole (s := 32) (by omega) [.agg (cellsOf x).toArray, .agg (cellsOf y).toArray] ((Array.range (2 * 32)).map (z.cells[· % z.cells.size]!)) (by
      intro v hv
      simp only [List.mem_cons, List.not_mem_nil, or_false] at hv
      rcases hv with rfl | rfl
      · show (cellsOf x).toArray.size = 32; rw [cellsOf_size, hx]
      · show (cellsOf y).toArray.size = 32; rw [cellsOf_size, hy]) (by simp)
    have e : ([Value.agg (cellsOf x).toArray, .agg (cellsOf y).toArray].flatMap fun v => v.cells.toList).toArray = (cellsOf [x, y].flatten).toArray := by simp [Value.cells, cellsOf_append]
    rw [e] at this
    rw [if_neg (by omega)]
    exact this
theorem wpList_lay2 {w : World} {ops : Array Oper} {rest : List Oper} {o : Oper} {a : Act} {Q : Exit → Act → World → Prop} (hgd : o.guard = none) (x y : Operand) (d : Tmp) (p q : List Nat) (hp : D32 p) (hq : D32 q)
    (ho : (o.dst, o.op) = (some d, .buildSlice 22 2 #[(0, x), (1, y)])) (hx : a.eval x = .agg (cellsOf p).toArray) (hy : a.eval y = .agg (cellsOf q).toArray)
    (h : ∀ W, DR W (some ⟨w.heap.size, 0, none⟩) 2 [p, q] → Below w.heap.size w W → wpList Tryd.prog ops Q rest (a.put (some d) (.slice (some ⟨w.heap.size, 0, none⟩) 2 2)) W) : wpList Tryd.prog ops Q (o :: rest) a w :=
  Great.wpList_buildSliceTo hgd 22 31 2 _ (congrArg Prod.snd ho) w.heap.size rfl (some d) (congrArg Prod.fst ho) Tryd.underlying22 (cellsOf [p, q].flatten).toArray (by simp only [List.map_toArray, List.map_cons, List.map_nil, hx, hy]; exact built_two row_r p q hp.1 hq.1)
    (h _ (dr_new w 31 [p, q] (by intro d hd; simp only [List.mem_cons, List.not_mem_nil, or_false] at hd; rcases hd with rfl | rfl <;> assumption)) ((Below.refl _ _).alloc (Nat.le_refl _) _))
/-- where no root follows from a way, Check is false -/
theorem up_ck {n i : Int} {N I : Nat} {leaf : List Nat} {way : Ds} (hN : (N : Int) = max n 1) (hI : 1 ≤ n → (I : Int) = max 0 (min i (n - 1))) (h : upS N I leaf way = none) (root : List Nat) : ckB n i leaf way root = false := by
  unfold ckB
  split
  · rfl
  · have e1 : n.toNat = N := by omega
    have e2 : i.toNat = I := by have := hI (by omega); omega
    rw [e1, e2, top_up, h]
def UpC (n i : Int) (leaf : List Nat) (way : Ds) (w : World) (e : Ending) (w' : World) : Prop :=
  ∃ d ra rl rc c, D32 d ∧ e = .returned (.tuple #[.agg (cellsOf d).toArray, .slice ra rl rc, .bool c]) ∧ (c = false → ∀ root, ckB n i leaf way root = false) ∧ Below w.heap.size w w'
/-- while the two roots are tried -/
def MCL (w : World) (root leaf d : List Nat) (g9 gp : Nat) (pa : Option Addr) (pl : Nat) (way : Ds) (W : World) : Prop :=
  Brow W w.heap.size 31 root ∧ Brow W g9 31 leaf ∧ DR W pa pl way ∧ DR W (some ⟨gp, 0, none⟩) 2 [root, d] ∧ Below w.heap.size w W
theorem MCL.step {w W W' : World} {root leaf d : List Nat} {g9 gp : Nat} {pa : Option Addr} {pl : Nat} {way : Ds} (h : MCL w root leaf d g9 gp pa pl way W) (hb : Below W.heap.size W W') : MCL w root leaf d g9 gp pa pl way W' :=
  ⟨h.1.below hb h.1.lt, h.2.1.below hb h.2.1.lt, h.2.2.1.below hb, h.2.2.2.1.below hb, h.2.2.2.2.trans (hb.mono h.2.2.2.2.size)⟩
theorem MCL.drew {w W : World} {root leaf d : List Nat} {g9 gp : Nat} {pa : Option Addr} {pl : Nat} {way : Ds} (h : MCL w root leaf d g9 gp pa pl way W) : MCL w root leaf d g9 gp pa pl way W.drew := ⟨h.1.drew, h.2.1.drew, h.2.2.1, h.2.2.2.1, h.2.2.2.2.drew⟩
def MCX (w : World) (root leaf d : List Nat) (g9 gp : Nat) (pa : Option Addr) (pl : Nat) (way : Ds) (g : Nat) (x : List Nat) (W : World) : Prop := MCL w root leaf d g9 gp pa pl way W ∧ Brow W g 31 x
theorem MCX.step {w W W' : World} {root leaf d : List Nat} {g9 gp : Nat} {pa : Option Addr} {pl : Nat} {way : Ds} {g : Nat} {x : List Nat} (h : MCX w root leaf d g9 gp pa pl way g x W) (hb : Below W.heap.size W W') : MCX w root leaf d g9 gp pa pl way g x W' := ⟨h.1.step hb, h.2.below hb h.2.lt⟩
end Go.Proofs.YtlnblfdddellmaaDoor
