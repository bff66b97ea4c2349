/-
  The walk over ChainDigits.
-/
import Derived.Test.YtlnblfdddellmaaDoorChc
namespace Go.Proofs.YtlnblfdddellmaaDoor
open Go.RowKit
set_option linter.unusedVariables false
theorem nib_at (m : List Nat) (k : Nat) (hk : k < m.length) : (Dg.nib m).getD (2 * k) 0 = m.getD k 0 / 16 ∧ (Dg.nib m).getD (2 * k + 1) 0 = m.getD k 0 % 16 := by
  induction m generalizing k with
  | nil => simp at hk
  | cons b m ih =>
    cases k with
    | zero => exact ⟨rfl, rfl⟩
    | succ k =>
      have := ih k (by simpa using hk)
      simpa [Dg.nib, Nat.mul_succ] using this
theorem digs_at (m : List Nat) (hm : m.length = 32) (k : Nat) (hk : k < 32) : (Dg.digs m).getD (2 * k) 0 = m.getD k 0 / 16 ∧ (Dg.digs m).getD (2 * k + 1) 0 = m.getD k 0 % 16 := by
  have hl := Dg.nib_len m
  unfold Dg.digs
  rw [Dg.getD_app_left _ _ _ (by omega), Dg.getD_app_left _ _ _ (by omega)]
  exact nib_at m k (by omega)
theorem digs_end (m : List Nat) (hm : m.length = 32) : (Dg.digs m).getD 64 0 = Dg.left m / 256 ∧ (Dg.digs m).getD 65 0 = Dg.left m / 16 % 16 ∧ (Dg.digs m).getD 66 0 = Dg.left m % 16 := by
  have hl : 64 = (Dg.nib m).length := by rw [Dg.nib_len, hm]
  refine ⟨?_, ?_, ?_⟩
  · have := Dg.getD_app_right (Dg.nib m) (Dg.tail (Dg.left m)) 0; rw [← hl] at this; exact this
  · have := Dg.getD_app_right (Dg.nib m) (Dg.tail (Dg.left m)) 1; rw [← hl] at this; exact this
  · have := Dg.getD_app_right (Dg.nib m) (Dg.tail (Dg.left m)) 2; rw [← hl] at this; exact this
theorem i64_or (a b : Nat) (ha : a < 4294967296) (hb : b < 4294967296) : bits .or .i64 (a : Int) (b : Int) = ((a ||| b : Nat) : Int) := by
  show IntKind.i64.wrap ((BitVec.ofInt 64 (a : Int) ||| BitVec.ofInt 64 (b : Int)).toNat : Int) = _
  have h : (BitVec.ofInt 64 (a : Int) ||| BitVec.ofInt 64 (b : Int)).toNat = a ||| b := by
    rw [BitVec.toNat_or, BitVec.toNat_ofInt, BitVec.toNat_ofInt]
    congr 1 <;> omega
  rw [h]
  have hl : a ||| b < 4294967296 := Nat.or_lt_two_pow (n := 32) ha hb
  simp [IntKind.wrap, IntKind.bits, IntKind.signed]
  omega
/-- what came in, and its digits -/
def DG (w : World) (g : Nat) (m d : List Nat) (W : World) : Prop := Brow W w.heap.size 31 m ∧ Brow W g 59 d ∧ Below w.heap.size w W
theorem DG.below {w W W' : World} {g : Nat} {x y : List Nat} (h : DG w g x y W) (hb : Below W.heap.size W W') : DG w g x y W' :=
  ⟨h.1.below hb h.1.lt, h.2.1.below hb h.2.1.lt, h.2.2.trans (hb.mono h.2.2.size)⟩
theorem DG.drew {w W : World} {g : Nat} {x y : List Nat} (h : DG w g x y W) : DG w g x y W.drew := ⟨h.1.drew, h.2.1.drew, h.2.2.drew⟩
theorem DG.lay {w W : World} {x y : List Nat} (h : B1 w 31 x W) (V : Obj) (hV : V = .cells (cellsOf zs67).toArray 59 (0, 0)) : DG w W.heap.size x y ((W.alloc V).setRow W.heap.size (cellsOf y).toArray) := by
  subst hV
  have hb := ((Below.refl W.heap.size W).alloc (Nat.le_refl _) (.cells (cellsOf zs67).toArray 59 (0, 0))).setRow (Nat.le_refl _) (cellsOf y).toArray
  exact ⟨h.1.below hb h.1.lt, (Brow.new W 59 zs67).setRow, h.2.trans (hb.mono h.2.size)⟩
theorem info_d67 (D : List Nat) (h : D.length = 67) : (Tryd.prog.info? 59).map (·.size) = some (cellsOf D).toArray.size := by rw [cellsOf_size, h]; exact info_67
theorem zs_67 (D : List Nat) (h : D.length = 67) : (cellsOf zs67).toArray.size = (cellsOf D).toArray.size := by rw [cellsOf_size, cellsOf_size, h]; rfl
theorem load67 (W : World) (g : Nat) (x : List Nat) (hx : x.length = 67) (h : Brow W g 59 x) : (Instr.loadAt 59 (.pointer (some ⟨g, 0, none⟩))).run Tryd.prog W = .ok (.agg (cellsOf x).toArray) W :=
  run_loadAt_mid W g 0 59 (cellsOf x) _ h.range Tryd.underlying59 rfl (by rw [cellsOf_length, hx]; exact info_67)
end Go.Proofs.YtlnblfdddellmaaDoor
