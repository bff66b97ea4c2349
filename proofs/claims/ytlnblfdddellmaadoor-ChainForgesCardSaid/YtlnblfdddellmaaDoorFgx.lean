/-
  ChainForges' walk, of numbers as they come in.
-/
import Derived.Test.YtlnblfdddellmaaDoorFgs
namespace Go.Proofs.YtlnblfdddellmaaDoor
open Go.RowKit
theorem cforges_c (seed : List Nat) (key : Int) (x y : List Nat) (a : Int) (turn : Int) (w : World) (hs : D32 seed) (hk : (Lit.int .u32 key).wf = true) (hx : D32 x) (hy : D32 y) (_ha : (Lit.int .i64 a).wf = true) (hn : (Lit.int .u8 turn).wf = true) (ht : Tab w) :
    Calls Tryd.prog 5 #[.agg (cellsOf seed).toArray, .int .u32 key, .agg (cellsOf (x ++ y)).toArray, .int .i64 a, .int .u8 turn] w fun e w' => e = .returned (.bool true) ∧ Below w.heap.size w w' := by
  have h1 : 0 ≤ key ∧ key ≤ 4294967295 := by simpa [Lit.wf, IntKind.min, IntKind.max, IntKind.signed, IntKind.bits] using hk
  have h2 : 0 ≤ turn ∧ turn ≤ 255 := by simpa [Lit.wf, IntKind.min, IntKind.max, IntKind.signed, IntKind.bits] using hn
  obtain ⟨k', rfl⟩ : ∃ k : Nat, key = (k : Int) := ⟨key.toNat, by omega⟩
  obtain ⟨t', rfl⟩ : ∃ k : Nat, turn = (k : Int) := ⟨turn.toNat, by omega⟩
  exact forges_c seed k' x y a t' w hs (by omega) hx hy (by omega) ht
end Go.Proofs.YtlnblfdddellmaaDoor
