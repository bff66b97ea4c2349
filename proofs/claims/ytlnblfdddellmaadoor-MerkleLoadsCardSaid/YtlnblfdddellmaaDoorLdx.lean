/-
  MerkleLoads' walk, of numbers as they come in.
-/
import Derived.Test.YtlnblfdddellmaaDoorLdo
namespace Go.Proofs.YtlnblfdddellmaaDoor
open Go.RowKit
theorem mloads_c (n : Int) (a : Option Addr) (l cap : Nat) (zs : Ds) (leaf : List Nat) (w : World) (hn : (Lit.int .i64 n).wf = true) (hin : DigsIn w a l cap zs) (hlf : D32 leaf) (ht : Tab w) :
    Calls Tryd.prog 4 #[.int .i64 n, .slice a l cap, .agg (cellsOf leaf).toArray] w fun e w' => e = .returned (.bool true) ∧ Below w.heap.size w w' := by
  have h1 : -9223372036854775808 ≤ n ∧ n ≤ 9223372036854775807 := by simpa [Lit.wf, IntKind.min, IntKind.max, IntKind.signed, IntKind.bits] using hn
  by_cases h0 : n < 0
  · exact loads_neg n a l cap zs leaf w h0 hin hlf ht
  · obtain ⟨k, rfl⟩ : ∃ k : Nat, n = (k : Int) := ⟨n.toNat, by omega⟩
    have hk : k ≤ 9223372036854775807 := by omega
    by_cases hl : l = ones k
    · by_cases h9 : k = 9223372036854775807
      · exact loads_most k a l cap zs leaf w hk h9 hl hin hlf ht
      · exact loads_ok k a l cap zs leaf w hk (by omega) hl hin hlf ht
    · exact loads_form k a l cap zs leaf w hk hl hin hlf ht
end Go.Proofs.YtlnblfdddellmaaDoor
