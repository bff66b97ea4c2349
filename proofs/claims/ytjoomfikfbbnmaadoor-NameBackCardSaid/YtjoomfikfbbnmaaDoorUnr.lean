/-
  The walk over the document's Unhex.
-/
import Derived.Test.YtjoomfikfbbnmaaDoorUnh
namespace Go.Proofs.YtjoomfikfbbnmaaDoor
open Go.RowKit

def UnRetB (B : Nat) (w : World) (r : Option (List Nat)) (e : Ending) (w' : World) : Prop :=
  ∃ v, e = .returned (.tuple #[v, .bool r.isSome]) ∧ Own w' B v (r.getD []) ∧ Below B w w'
theorem UnRetB.no {B : Nat} {w w' : World} {cs : List Nat} (h : Unm.un cs = Option.none) (hb : Below B w w') : UnRetB B w (Unm.un cs) (.returned (.tuple #[.slice Option.none 0 0, .bool false])) w' := by
  rw [h]; exact ⟨_, rfl, Own.nil _ _, hb⟩
theorem UnRetB.yes {B : Nat} {w w' : World} {cs P : List Nat} {v : Value} (h : Unm.un cs = some P) (ho : Own w' B v P) (hb : Below B w w') : UnRetB B w (Unm.un cs) (.returned (.tuple #[v, .bool true])) w' := by
  rw [h]; exact ⟨_, rfl, ho, hb⟩
theorem hv_D {c : Nat} (h1 : 48 ≤ c) (h2 : c ≤ 57) : Unm.hv c ≠ none ∧ digv c = c - 48 := by
  have e : Unm.hv c = some (c - 48) := by unfold Unm.hv; rw [if_pos ⟨h1, h2⟩]
  unfold digv; rw [e]; simp
theorem hv_L {c : Nat} (h1 : 97 ≤ c) (h2 : c ≤ 102) : Unm.hv c ≠ none ∧ digv c = c - 87 := by
  have e : Unm.hv c = some (c - 87) := by unfold Unm.hv; rw [if_neg (by omega), if_pos ⟨h1, h2⟩]
  unfold digv; rw [e]; simp
theorem hv_N {c : Nat} (h1 : ¬ (48 ≤ c ∧ c ≤ 57)) (h2 : ¬ (97 ≤ c ∧ c ≤ 102)) : Unm.hv c = none := by
  unfold Unm.hv; rw [if_neg h1, if_neg h2]

set_option maxRecDepth 100000 in
set_option maxHeartbeats 3200000 in
/-- the document's Unhex -/
theorem refUnhex_c (s : ByteArray) (w : World) (hs : s.size ≤ 140000000000000) : Calls Tryd.prog 40 #[.string s] w (UnRetB w.heap.size w (Unm.un (chars s))) := by
  have hcl := chars_len s
  go_enter Tryd.func40, Tryd.ntmps40
  go_wp2_with fail
  go_loopw [4, 5] (fun v i wr => ∃ (k : Nat) (P : List Nat), 2 * k ≤ s.size ∧ i = .int .i64 (2 * (k : Int)) ∧ UAt (chars s) k P ∧ Own wr w.heap.size v P ∧ Below w.heap.size w wr) (fun _ i _ => s.size + 2 - (intOf i).toNat)
  case atStart => exact ⟨0, [], Nat.zero_le _, rfl, ⟨rfl, by simp, by simp⟩, Own.nil _ _, Below.refl _ _⟩
  case round =>
    obtain ⟨k, P, hk, rfl, hat, hown, hnx⟩ := hrel
    have hPl := hat.1
    by_cases hkn : 2 * k + 1 < s.size
    · have hi1 := idx_at s (2 * k) (by omega)
      have hi2 := idx_at s (2 * k + 1) (by omega)
      unfold IdxAt at hi1 hi2
      rw [show ((2 * k : Nat) : Int) = 2 * (k : Int) by omega] at hi1
      rw [show ((2 * k + 1 : Nat) : Int) = 2 * (k : Int) + 1 by omega] at hi2
      have hnone := Lib.hid (hat.none (by rw [hcl]; omega))
      have hnext := Lib.hid (hat.next (by rw [hcl]; omega))
      have hc1b := chars_byte s (2 * k)
      have hc2b := chars_byte s (2 * k + 1)
      obtain ⟨c1, hc1⟩ : ∃ c, c = (chars s).getD (2 * k) 0 := ⟨_, rfl⟩
      obtain ⟨c2, hc2⟩ : ∃ c, c = (chars s).getD (2 * k + 1) 0 := ⟨_, rfl⟩
      rw [← hc1] at hi1 hc1b hnone hnext
      rw [← hc2] at hi2 hc2b hnone hnext
      have hsz := hnx.size
      have hPb : P.length + 1 ≤ 140737488355328 := by omega
      clear hc1 hc2 hat hcl
      by_cases D1 : 48 ≤ c1 ∧ c1 ≤ 57
      · obtain ⟨D1a, D1b⟩ := D1
        obtain ⟨n1, v1⟩ := hv_D D1a D1b
        by_cases D2 : 48 ≤ c2 ∧ c2 ≤ 57
        · obtain ⟨D2a, D2b⟩ := D2
          obtain ⟨n2, v2⟩ := hv_D D2a D2b
          have hat1 := Lib.hid (hnext.out n1 n2)
          rw [v1, v2] at hat1
          clear hnone hnext n1 n2 v1 v2
          go_wp2_with fail
          refine wp_loop_rounds 3 ?_
          rw [rounds_succ]
          go_wp2_with fail
          rw [rounds_succ]
          go_wp2_with fail
          rw [rounds_succ]
          go_wp2_with (at_builtin; refine wpList_push rfl _ _ rfl w.heap.size u4 P (16 * (c1 - 48) + (c2 - 48)) _ ?hy4848 rfl hown hsz rfl hPb ?_)
          case hy4848 => omega
          intro v1 w1 hown1 hb1
          have hnx1 := hnx.trans hb1
          clear hown hnx hb1 hi1 hi2
          go_wp2_with fail
          go_roundw
          case rel => exact ⟨k + 1, _, by omega, by go_num, hat1.out, hown1, hnx1⟩
          case measure => simp [intOf]; omega
        · by_cases L2 : 97 ≤ c2 ∧ c2 ≤ 102
          · obtain ⟨L2a, L2b⟩ := L2
            obtain ⟨n2, v2⟩ := hv_L L2a L2b
            have hat1 := Lib.hid (hnext.out n1 n2)
            rw [v1, v2] at hat1
            clear hnone hnext n1 n2 v1 v2
            go_wp2_with fail
            refine wp_loop_rounds 3 ?_
            rw [rounds_succ]
            go_wp2_with fail
            rw [rounds_succ]
            go_wp2_with fail
            rw [rounds_succ]
            go_wp2_with (at_builtin; refine wpList_push rfl _ _ rfl w.heap.size u4 P (16 * (c1 - 48) + (c2 - 87)) _ ?hy4887 rfl hown hsz rfl hPb ?_)
            case hy4887 => omega
            intro v1 w1 hown1 hb1
            have hnx1 := hnx.trans hb1
            clear hown hnx hb1 hi1 hi2
            go_wp2_with fail
            go_roundw
            case rel => exact ⟨k + 1, _, by omega, by go_num, hat1.out, hown1, hnx1⟩
            case measure => simp [intOf]; omega
          · have hno := Lib.hid (hnone.out (.inr (hv_N D2 L2)))
            rcases (show c2 < 48 ∨ (57 < c2 ∧ c2 < 97) ∨ 102 < c2 by omega) with R | ⟨Ra, Rb⟩ | R
            · clear hnone hnext n1 v1 hown D2 L2
              go_wp2_with fail
              refine wp_loop_rounds 2 ?_
              rw [rounds_succ]
              go_wp2_with fail
              rw [rounds_succ]
              go_wp2_with fail
              go_ret2
              exact UnRetB.no hno.out hnx
            · clear hnone hnext n1 v1 hown D2 L2
              go_wp2_with fail
              refine wp_loop_rounds 2 ?_
              rw [rounds_succ]
              go_wp2_with fail
              rw [rounds_succ]
              go_wp2_with fail
              go_ret2
              exact UnRetB.no hno.out hnx
            · clear hnone hnext n1 v1 hown D2 L2
              go_wp2_with fail
              refine wp_loop_rounds 2 ?_
              rw [rounds_succ]
              go_wp2_with fail
              rw [rounds_succ]
              go_wp2_with fail
              go_ret2
              exact UnRetB.no hno.out hnx
      · by_cases L1 : 97 ≤ c1 ∧ c1 ≤ 102
        · obtain ⟨L1a, L1b⟩ := L1
          obtain ⟨n1, v1⟩ := hv_L L1a L1b
          by_cases D2 : 48 ≤ c2 ∧ c2 ≤ 57
          · obtain ⟨D2a, D2b⟩ := D2
            obtain ⟨n2, v2⟩ := hv_D D2a D2b
            have hat1 := Lib.hid (hnext.out n1 n2)
            rw [v1, v2] at hat1
            clear hnone hnext n1 n2 v1 v2
            go_wp2_with fail
            refine wp_loop_rounds 3 ?_
            rw [rounds_succ]
            go_wp2_with fail
            rw [rounds_succ]
            go_wp2_with fail
            rw [rounds_succ]
            go_wp2_with (at_builtin; refine wpList_push rfl _ _ rfl w.heap.size u4 P (16 * (c1 - 87) + (c2 - 48)) _ ?hy8748 rfl hown hsz rfl hPb ?_)
            case hy8748 => omega
            intro v1 w1 hown1 hb1
            have hnx1 := hnx.trans hb1
            clear hown hnx hb1 hi1 hi2
            go_wp2_with fail
            go_roundw
            case rel => exact ⟨k + 1, _, by omega, by go_num, hat1.out, hown1, hnx1⟩
            case measure => simp [intOf]; omega
          · by_cases L2 : 97 ≤ c2 ∧ c2 ≤ 102
            · obtain ⟨L2a, L2b⟩ := L2
              obtain ⟨n2, v2⟩ := hv_L L2a L2b
              have hat1 := Lib.hid (hnext.out n1 n2)
              rw [v1, v2] at hat1
              clear hnone hnext n1 n2 v1 v2
              go_wp2_with fail
              refine wp_loop_rounds 3 ?_
              rw [rounds_succ]
              go_wp2_with fail
              rw [rounds_succ]
              go_wp2_with fail
              rw [rounds_succ]
              go_wp2_with (at_builtin; refine wpList_push rfl _ _ rfl w.heap.size u4 P (16 * (c1 - 87) + (c2 - 87)) _ ?hy8787 rfl hown hsz rfl hPb ?_)
              case hy8787 => omega
              intro v1 w1 hown1 hb1
              have hnx1 := hnx.trans hb1
              clear hown hnx hb1 hi1 hi2
              go_wp2_with fail
              go_roundw
              case rel => exact ⟨k + 1, _, by omega, by go_num, hat1.out, hown1, hnx1⟩
              case measure => simp [intOf]; omega
            · have hno := Lib.hid (hnone.out (.inr (hv_N D2 L2)))
              rcases (show c2 < 48 ∨ (57 < c2 ∧ c2 < 97) ∨ 102 < c2 by omega) with R | ⟨Ra, Rb⟩ | R
              · clear hnone hnext n1 v1 hown D2 L2
                go_wp2_with fail
                refine wp_loop_rounds 2 ?_
                rw [rounds_succ]
                go_wp2_with fail
                rw [rounds_succ]
                go_wp2_with fail
                go_ret2
                exact UnRetB.no hno.out hnx
              · clear hnone hnext n1 v1 hown D2 L2
                go_wp2_with fail
                refine wp_loop_rounds 2 ?_
                rw [rounds_succ]
                go_wp2_with fail
                rw [rounds_succ]
                go_wp2_with fail
                go_ret2
                exact UnRetB.no hno.out hnx
              · clear hnone hnext n1 v1 hown D2 L2
                go_wp2_with fail
                refine wp_loop_rounds 2 ?_
                rw [rounds_succ]
                go_wp2_with fail
                rw [rounds_succ]
                go_wp2_with fail
                go_ret2
                exact UnRetB.no hno.out hnx
        · have hno := Lib.hid (hnone.out (.inl (hv_N D1 L1)))
          rcases (show c1 < 48 ∨ (57 < c1 ∧ c1 < 97) ∨ 102 < c1 by omega) with R | ⟨Ra, Rb⟩ | R
          · clear hnone hnext hown D1 L1
            go_wp2_with fail
            refine wp_loop_rounds 1 ?_
            rw [rounds_succ]
            go_wp2_with fail
            go_ret2
            exact UnRetB.no hno.out hnx
          · clear hnone hnext hown D1 L1
            go_wp2_with fail
            refine wp_loop_rounds 1 ?_
            rw [rounds_succ]
            go_wp2_with fail
            go_ret2
            exact UnRetB.no hno.out hnx
          · clear hnone hnext hown D1 L1
            go_wp2_with fail
            refine wp_loop_rounds 1 ?_
            rw [rounds_succ]
            go_wp2_with fail
            go_ret2
            exact UnRetB.no hno.out hnx
    · by_cases hev : s.size = 2 * k
      · have hd := Lib.hid (hat.done (by rw [hcl]; omega))
        have hm : (2 * (k : Int)) % 2 = 0 := by omega
        clear hat
        go_wp2_with fail
        go_ret2
        exact UnRetB.yes hd.out hown hnx
      · have hodd : s.size = 2 * k + 1 := by omega
        have hd := Lib.hid (hat.odd (by rw [hcl]; omega))
        have hm : ((s.size : Int)) % 2 = 1 := by omega
        clear hat hodd hev
        go_wp2_with fail
        go_ret2
        exact UnRetB.no hd.out hnx
end Go.Proofs.YtjoomfikfbbnmaaDoor
