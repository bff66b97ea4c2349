/-
  The walk over the document's Twin: the same bytes once more, in new memory.
-/
import Derived.Test.YthnfbdmkdpokcaaDoorBase
namespace Go.Proofs.YthnfbdmkdpokcaaDoor
open Go.RowKit

theorem twin_nil (a : Option Addr) (cap : Nat) (w : World) :
    Calls Tryd.prog 74 #[.slice a 0 cap] w (RetB w.heap.size w []) := by
  go_enter Tryd.func74, Tryd.ntmps74
  go_wp2
  refine wp_loop_rounds 1 ?_
  rw [rounds_succ]
  go_wp2
  go_ret
  exact ⟨_, rfl, Own.nil _ _, Below.refl _ _⟩

set_option maxHeartbeats 400000 in
theorem twin_some (b off len cap : Nat) (zs : List Nat) (w : World) (hl : zs.length = len) (hm : len ≤ 140737488355327) (hb : b < w.heap.size)
    (hcell : ∀ i, i < len → w.cell? ⟨b, off + i, none⟩ = some (.int .u8 ((zs.getD i 0 : Nat) : Int))) :
    Calls Tryd.prog 74 #[.slice (some ⟨b, off, none⟩) len cap] w (RetB w.heap.size w zs) := by
  go_enter Tryd.func74, Tryd.ntmps74
  go_wp2
  go_loopw [3, 4] (fun v i wr => ∃ k : Nat, k ≤ len ∧ i = .int .i64 k ∧ Own wr w.heap.size v (zs.take k) ∧ Below w.heap.size w wr) (fun _ i _ => len - (intOf i).toNat)
  case atStart => exact ⟨0, Nat.zero_le _, rfl, Own.nil _ _, Below.refl _ _⟩
  case round =>
    obtain ⟨k, hk, rfl, hown, hnx⟩ := hrel
    have hcx : k < len → wr.cell? ⟨b, off + k, none⟩ = some (.int .u8 ((zs.getD k 0 : Nat) : Int)) := fun h => (hnx.cell (by exact hb)).trans (hcell k h)
    clear hcell
    by_cases hkl : k < len
    · have hcy := hcx hkl
      have hsz := hnx.size
      go_wp2_with (at_builtin; (refine wpList_push rfl _ _ rfl w.heap.size u3 (zs.take k) zs[k] _ rfl rfl hown hsz rfl ?hl ?_))
      case hl => rw [List.length_take]; omega
      intro v1 w1 hown1 hb1
      have hnx1 := hnx.trans hb1
      clear hown hnx hb1 hcx hcy
      go_wp2
      go_roundw
      case rel => exact ⟨k + 1, by omega, by go_num, hown1, hnx1⟩
      case measure => simp [intOf]; omega
    · go_wp2
      go_ret
      obtain rfl : k = len := by omega
      rw [List.take_of_length_le (by omega)] at hown
      exact ⟨_, rfl, hown, hnx⟩

/-- Twin: the same bytes in new memory -/
theorem twin_c (a : Option Addr) (len cap : Nat) (zs : List Nat) (w : World) (h : Rd w a len zs) (hm : len ≤ 140737488355327) :
    Calls Tryd.prog 74 #[.slice a len cap] w (RetB w.heap.size w zs) := by
  obtain ⟨hl, hz, h0 | ⟨b, off, rfl, hb, hc⟩⟩ := h
  · subst h0
    obtain rfl : zs = [] := List.eq_nil_of_length_eq_zero hl
    exact twin_nil a cap w
  · exact twin_some b off len cap zs w hl hm hb hc
end Go.Proofs.YthnfbdmkdpokcaaDoor
