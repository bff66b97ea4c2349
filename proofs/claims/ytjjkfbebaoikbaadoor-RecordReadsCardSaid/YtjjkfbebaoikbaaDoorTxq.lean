/-
  The walk over the document's ReadText.
-/
import Derived.Test.YtjjkfbebaoikbaaDoorTxt
namespace Go.Proofs.YtjjkfbebaoikbaaDoor
open Go.RowKit

theorem u64_nat (x : Nat) (h : x ≤ 9223372036854775807) : IntKind.u64.wrap (x : Int) = (x : Int) := IntWalk.u64_in _ (by omega)
theorem w64_nat (x : Nat) (h : x ≤ 9223372036854775807) : wrap64 (x : Int) = (x : Int) := IntWalk.wrap64_in _ (by omega)
set_option maxRecDepth 100000 in
set_option maxHeartbeats 1600000 in
theorem refReadText_ok (b off len cap x u : Nat) (zs : List Nat) (mo : Nat) (w : World) (hmo : mo ≤ 9223372036854775807) (hcap : len ≤ cap) (hm : len ≤ 140737488355328) (hm0 : cap ≤ 9223372036854775807) (hb : b < w.heap.size) (h : Rd w (some ⟨b, off, none⟩) len zs)
    (hcell : ∀ i, i < len → w.cell? ⟨b, off + i, none⟩ = some (.int .u8 ((zs.getD i 0 : Nat) : Int)))
    (hrd : Cntm.rd 0 0 zs = (x, u, 0)) (hu : u ≤ len) (hl1 : x ≤ mo) (hs : x ≤ len - u) :
    Calls Tryd.prog 36 #[.slice (some ⟨b, off, none⟩) len cap, .int .i64 (mo : Int)] w (RtRet w.heap.size w (rt zs mo)) := by
  have hc := (refReadCount_c (some ⟨b, off, none⟩) len cap zs w h (by omega)).mono fun e w' h => read_ret hrd h
  have hl := h.1
  have HR := Lib.hid (rt_ok hrd (show ¬ ((mo : Int) < 0 ∨ (mo : Int) < (x : Int)) by omega) (by rw [hl]; omega))
  have hsi : ¬ (len : Int) - (u : Int) < (x : Int) := by omega
  have hge : (0 : Int) ≤ (len : Int) - (u : Int) := by omega
  have hxb : x ≤ 9223372036854775807 := Nat.le_trans hl1 hmo
  have hl1' : ¬ mo < x := by omega
  have hl0' : ¬ (mo : Int) < 0 := by omega
  have hs' : ¬ len - u < x := by omega
  clear hrd h hl1 hs
  go_enter Tryd.func36, Tryd.ntmps36
  go_wp2_with fail
  refine hc.mono ?_
  rintro e1 w1 ⟨rfl, rfl⟩
  clear hc
  go_wp2_with fail
  go_loopw [10, 11] (fun v i wr => ∃ k : Nat, k ≤ x ∧ i = .int .i64 k ∧ Own wr w.heap.size v ((zs.drop u).take k) ∧ Below w.heap.size w wr) (fun _ i _ => x - (intOf i).toNat)
  case atStart => exact ⟨0, Nat.zero_le _, rfl, Own.nil _ _, Below.refl _ _⟩
  case round =>
    obtain ⟨k, hk, rfl, hown, hnx⟩ := hrel
    by_cases hkx : k < x
    · have hcy := (hnx.cell (p := ⟨b, off + (u + k), none⟩) (by exact hb)).trans (hcell (u + k) (by omega))
      have hsz := hnx.size
      have HT := Lib.hid (take_snoc (zs.drop u) k (by rw [List.length_drop]; omega))
      have HG : Hid ((zs.drop u)[k]? = some (zs.getD (u + k) 0)) := Lib.hid (by rw [List.getElem?_drop, getD_at zs (u + k) (by omega)]; exact List.getElem?_eq_getElem _)
      obtain ⟨c, hcE⟩ : ∃ c, c = zs.getD (u + k) 0 := ⟨_, rfl⟩
      rw [← hcE] at hcy
      have HC := Lib.hid hcE
      clear hcell hcE
      have hlen : ((zs.drop u).take k).length + 1 ≤ 140737488355328 := by rw [List.length_take]; omega
      obtain ⟨P, hP⟩ : ∃ P, P = (zs.drop u).take k := ⟨_, rfl⟩
      rw [← hP] at hown hlen
      have HP := Lib.hid hP
      clear hP
      go_wp2_with (at_builtin; refine wpList_push rfl _ _ rfl w.heap.size u10 P c _ rfl rfl hown hsz rfl hlen ?_)
      intro v1 w1 hown1 hb1
      have hnx1 := hnx.trans hb1
      have hown2 : Own w1 w.heap.size v1 ((zs.drop u).take (k + 1)) := by
        rw [HT.out, ← HP.out]
        have e : (zs.drop u)[k]'(by rw [List.length_drop]; omega) = c := by
          have := HG.out
          rw [List.getElem?_eq_getElem (by rw [List.length_drop]; omega)] at this
          rw [HC.out]
          exact Option.some.inj this
        rw [e]
        exact hown1
      clear hown hnx hb1 hcy hown1
      go_wp2
      go_roundw
      case rel => exact ⟨k + 1, by omega, by go_num, hown2, hnx1⟩
      case measure => simp [intOf]; omega
    · have hkx' : ¬ (k : Int) < (x : Int) := by omega
      clear hcell
      go_wp2
      go_ret3
      obtain rfl : k = x := by omega
      exact rtret_mk HR.out (by omega) rfl hown hnx
end Go.Proofs.YtjjkfbebaoikbaaDoor
