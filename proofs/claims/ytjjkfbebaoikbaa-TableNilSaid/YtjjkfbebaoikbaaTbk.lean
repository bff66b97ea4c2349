/-
  The table's Len.
-/
import Derived.Test.YtjjkfbebaoikbaaTbj
namespace Go.Proofs.Ytjjkfbebaoikbaa
open Go.RowKit Go.Maps
set_option linter.unusedVariables false
set_option maxRecDepth 100000 in
set_option maxHeartbeats 2000000 in
theorem tlen_c {B m n tb : Nat} {V : Nat → Prop} {D : DU} {f : ByteArray → Option (List Nat)} {jv : Value} {dn : Bool} {w : World} (h : TM B V w m n D f) (ht : TRow w tb jv m dn) :
    Calls Try.prog 20 #[.pointer (some ⟨tb, 0, none⟩)] w fun e w' => (∃ l : List ByteArray, l.Nodup ∧ (∀ s, s ∈ l ↔ (f s).isSome = true) ∧ e = .returned (.int .i64 (l.length : Nat))) ∧ w' = w := by
  have y1 := ht.cells.2.1
  obtain ⟨l, l1, l2, l3⟩ := h.ks
  have hln := fun ty => h.mp.len Try.underlying65 ty
  have HL := Lib.hid (show ∃ l : List ByteArray, l.Nodup ∧ (∀ s, s ∈ l ↔ (f s).isSome = true) ∧ Ending.returned (.int .i64 (Maps.size D : Nat)) = .returned (.int .i64 (l.length : Nat)) from ⟨l, l1, l2, by rw [l3]⟩)
  clear h ht l1 l2 l3
  go_enter Try.func20, Try.ntmps20
  go_wp2_with fail
  go_ret
  exact ⟨HL.out, rfl⟩
end Go.Proofs.Ytjjkfbebaoikbaa
