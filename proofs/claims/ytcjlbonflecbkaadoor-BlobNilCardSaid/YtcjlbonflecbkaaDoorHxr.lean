/-
  The walk over the document's Hex.
-/
import Derived.Test.YtcjlbonflecbkaaDoorPka
namespace Go.Proofs.YtcjlbonflecbkaaDoor
open Go.RowKit

def LenAt (zs : List Nat) (k : Nat) : Prop := (hex (zs.take k)).length + 1 ≤ 140737488355328 ∧ ∀ z, (hex (zs.take k) ++ [z]).length + 1 ≤ 140737488355328
theorem lenAt (zs : List Nat) (k : Nat) (h : zs.length ≤ 70000000000000) : LenAt zs k := by
  have hlen := hex_len (zs.take k)
  rw [List.length_take] at hlen
  refine ⟨by omega, fun z => ?_⟩
  rw [List.length_append]
  simp only [List.length_cons, List.length_nil]
  omega
set_option maxRecDepth 100000 in
set_option maxHeartbeats 1600000 in
theorem refHex_some (b off len cap : Nat) (zs : List Nat) (w : World) (hl : zs.length = len) (hm : len ≤ 70000000000000) (hz : ∀ z ∈ zs, z < 256) (hb : b < w.heap.size)
    (hcell : ∀ i, i < len → w.cell? ⟨b, off + i, none⟩ = some (.int .u8 ((zs.getD i 0 : Nat) : Int))) :
    Calls Tryd.prog 56 #[.slice (some ⟨b, off, none⟩) len cap] w (RetS w.heap.size (str (hex zs)) w) := by
  go_enter Tryd.func56, Tryd.ntmps56
  go_wp2
  go_loopw [3, 4] (fun v i wr => ∃ k : Nat, k ≤ len ∧ i = .int .i64 k ∧ Own wr w.heap.size v (hex (zs.take k)) ∧ Below w.heap.size w wr) (fun _ i _ => len - (intOf i).toNat)
  case atStart => exact ⟨0, Nat.zero_le _, rfl, Own.nil _ _, Below.refl _ _⟩
  case round =>
    obtain ⟨k, hk, rfl, hown, hnx⟩ := hrel
    have hsz := hnx.size
    by_cases hkl : k < len
    · have hcx := (hnx.cell (p := ⟨b, off + k, none⟩) (by exact hb)).trans (hcell k hkl)
      rw [getD_at zs k (by omega)] at hcx
      have hzk : zs[k] < 256 := hz _ (List.getElem_mem _)
      have HC := hex_snoc (zs.take k) zs[k]
      rw [← take_snoc zs k (by omega)] at HC
      obtain ⟨c, hc⟩ : ∃ c, c = zs[k] := ⟨_, rfl⟩
      rw [← hc] at hcx hzk HC
      clear hc
      obtain ⟨p, hp⟩ : ∃ p, p = c / 16 := ⟨_, rfl⟩
      obtain ⟨q, hq⟩ : ∃ q, q = c % 16 := ⟨_, rfl⟩
      rw [← hp, ← hq] at HC
      have hp16 : p < 16 := by omega
      have hq16 : q < 16 := by omega
      have hpi : (c : Int) / 16 = (p : Int) := by omega
      have hqi : (c : Int) % 16 = (q : Int) := by omega
      replace HC := Lib.hid HC
      obtain ⟨hl1, hl2⟩ := lenAt zs k (by omega)
      clear hp hq
      by_cases e1 : p < 10
      · by_cases e2 : q < 10
        · have HNh11 : Hid (∀ (w' : World) (v : Value), Own w' w.heap.size v (hex (zs.take k) ++ [48 + p, 48 + q]) → Own w' w.heap.size v (hex (zs.take (k + 1)))) := Lib.hid (fun w' v h => by rw [HC.out]; simp only [hexd, if_pos e1, if_pos e2]; exact h)
          clear HC
          clear hcell
          go_wp2_with fail
          refine wp_loop_rounds 3 ?_
          rw [rounds_succ]
          go_wp2_with (at_builtin; refine wpList_push rfl _ _ rfl w.heap.size u3 (hex (zs.take k)) (48 + p) _ ?h11a rfl hown hsz rfl hl1 ?_)
          case h11a => omega
          intro v1 w1 hown1 hb1
          have hcx1 := (hb1.cell (p := ⟨b, off + k, none⟩) (by exact hb)).trans hcx
          have hsz1 : w.heap.size ≤ w1.heap.size := (hnx.trans hb1).size
          have hnx1 := hnx.trans hb1
          clear hown hnx hb1 hcx hsz
          go_wp2_with fail
          rw [rounds_succ]
          go_wp2_with (at_builtin; refine wpList_push rfl _ _ rfl w.heap.size v1 (hex (zs.take k) ++ [48 + p]) (48 + q) _ ?h11b rfl hown1 hsz1 rfl (hl2 _) ?_)
          case h11b => omega
          intro v2 w2 hown2 hb2
          have hnx2 := hnx1.trans hb2
          clear hown1 hnx1 hb2 hcx1 hsz1
          go_wp2_with fail
          rw [rounds_succ]
          go_wp2_with fail
          go_roundw
          case rel => exact ⟨k + 1, by omega, by go_num, HNh11.out _ _ hown2, hnx2⟩
          case measure => simp [intOf]; omega
        · have HNh10 : Hid (∀ (w' : World) (v : Value), Own w' w.heap.size v (hex (zs.take k) ++ [48 + p, 87 + q]) → Own w' w.heap.size v (hex (zs.take (k + 1)))) := Lib.hid (fun w' v h => by rw [HC.out]; simp only [hexd, if_pos e1, if_neg e2]; exact h)
          clear HC
          clear hcell
          go_wp2_with fail
          refine wp_loop_rounds 3 ?_
          rw [rounds_succ]
          go_wp2_with (at_builtin; refine wpList_push rfl _ _ rfl w.heap.size u3 (hex (zs.take k)) (48 + p) _ ?h10a rfl hown hsz rfl hl1 ?_)
          case h10a => omega
          intro v1 w1 hown1 hb1
          have hcx1 := (hb1.cell (p := ⟨b, off + k, none⟩) (by exact hb)).trans hcx
          have hsz1 : w.heap.size ≤ w1.heap.size := (hnx.trans hb1).size
          have hnx1 := hnx.trans hb1
          clear hown hnx hb1 hcx hsz
          go_wp2_with fail
          rw [rounds_succ]
          go_wp2_with (at_builtin; refine wpList_push rfl _ _ rfl w.heap.size v1 (hex (zs.take k) ++ [48 + p]) (87 + q) _ ?h10b rfl hown1 hsz1 rfl (hl2 _) ?_)
          case h10b => omega
          intro v2 w2 hown2 hb2
          have hnx2 := hnx1.trans hb2
          clear hown1 hnx1 hb2 hcx1 hsz1
          go_wp2_with fail
          rw [rounds_succ]
          go_wp2_with fail
          go_roundw
          case rel => exact ⟨k + 1, by omega, by go_num, HNh10.out _ _ hown2, hnx2⟩
          case measure => simp [intOf]; omega
      · by_cases e2 : q < 10
        · have HNh01 : Hid (∀ (w' : World) (v : Value), Own w' w.heap.size v (hex (zs.take k) ++ [87 + p, 48 + q]) → Own w' w.heap.size v (hex (zs.take (k + 1)))) := Lib.hid (fun w' v h => by rw [HC.out]; simp only [hexd, if_neg e1, if_pos e2]; exact h)
          clear HC
          clear hcell
          go_wp2_with fail
          refine wp_loop_rounds 3 ?_
          rw [rounds_succ]
          go_wp2_with (at_builtin; refine wpList_push rfl _ _ rfl w.heap.size u3 (hex (zs.take k)) (87 + p) _ ?h01a rfl hown hsz rfl hl1 ?_)
          case h01a => omega
          intro v1 w1 hown1 hb1
          have hcx1 := (hb1.cell (p := ⟨b, off + k, none⟩) (by exact hb)).trans hcx
          have hsz1 : w.heap.size ≤ w1.heap.size := (hnx.trans hb1).size
          have hnx1 := hnx.trans hb1
          clear hown hnx hb1 hcx hsz
          go_wp2_with fail
          rw [rounds_succ]
          go_wp2_with (at_builtin; refine wpList_push rfl _ _ rfl w.heap.size v1 (hex (zs.take k) ++ [87 + p]) (48 + q) _ ?h01b rfl hown1 hsz1 rfl (hl2 _) ?_)
          case h01b => omega
          intro v2 w2 hown2 hb2
          have hnx2 := hnx1.trans hb2
          clear hown1 hnx1 hb2 hcx1 hsz1
          go_wp2_with fail
          rw [rounds_succ]
          go_wp2_with fail
          go_roundw
          case rel => exact ⟨k + 1, by omega, by go_num, HNh01.out _ _ hown2, hnx2⟩
          case measure => simp [intOf]; omega
        · have HNh00 : Hid (∀ (w' : World) (v : Value), Own w' w.heap.size v (hex (zs.take k) ++ [87 + p, 87 + q]) → Own w' w.heap.size v (hex (zs.take (k + 1)))) := Lib.hid (fun w' v h => by rw [HC.out]; simp only [hexd, if_neg e1, if_neg e2]; exact h)
          clear HC
          clear hcell
          go_wp2_with fail
          refine wp_loop_rounds 3 ?_
          rw [rounds_succ]
          go_wp2_with (at_builtin; refine wpList_push rfl _ _ rfl w.heap.size u3 (hex (zs.take k)) (87 + p) _ ?h00a rfl hown hsz rfl hl1 ?_)
          case h00a => omega
          intro v1 w1 hown1 hb1
          have hcx1 := (hb1.cell (p := ⟨b, off + k, none⟩) (by exact hb)).trans hcx
          have hsz1 : w.heap.size ≤ w1.heap.size := (hnx.trans hb1).size
          have hnx1 := hnx.trans hb1
          clear hown hnx hb1 hcx hsz
          go_wp2_with fail
          rw [rounds_succ]
          go_wp2_with (at_builtin; refine wpList_push rfl _ _ rfl w.heap.size v1 (hex (zs.take k) ++ [87 + p]) (87 + q) _ ?h00b rfl hown1 hsz1 rfl (hl2 _) ?_)
          case h00b => omega
          intro v2 w2 hown2 hb2
          have hnx2 := hnx1.trans hb2
          clear hown1 hnx1 hb2 hcx1 hsz1
          go_wp2_with fail
          rw [rounds_succ]
          go_wp2_with fail
          go_roundw
          case rel => exact ⟨k + 1, by omega, by go_num, HNh00.out _ _ hown2, hnx2⟩
          case measure => simp [intOf]; omega
    · obtain rfl : k = len := by omega
      rw [List.take_of_length_le (by omega)] at hown
      obtain ⟨ad, cp, rfl, _, _, hrd⟩ := hown.rd (hex_byte zs hz)
      go_wp2_with (refine wpList_str rfl _ rfl ad _ cp _ rfl hrd ?_)
      go_ret
      exact ⟨rfl, hnx⟩

theorem refHex_nil (a : Option Addr) (cap : Nat) (w : World) :
    Calls Tryd.prog 56 #[.slice a 0 cap] w (RetS w.heap.size (str []) w) := by
  go_enter Tryd.func56, Tryd.ntmps56
  go_wp2
  refine wp_loop_rounds 1 ?_
  rw [rounds_succ]
  have hr : Rd w none 0 [] := ⟨rfl, by simp, .inl rfl⟩
  go_wp2_with (refine wpList_str rfl _ rfl none 0 0 _ rfl hr ?_)
  go_ret
  exact ⟨rfl, Below.refl _ _⟩
/-- the document's Hex -/
theorem refHex_c (a : Option Addr) (len cap : Nat) (zs : List Nat) (w : World) (h : Rd w a len zs) (hm : len ≤ 70000000000000) :
    Calls Tryd.prog 56 #[.slice a len cap] w (RetS w.heap.size (str (hex zs)) w) := by
  obtain ⟨hl, hz, h0 | ⟨b, off, rfl, hb, hc⟩⟩ := h
  · subst h0
    obtain rfl : zs = [] := List.eq_nil_of_length_eq_zero hl
    exact refHex_nil a cap w
  · exact refHex_some b off len cap zs w hl hm hz hb hc
end Go.Proofs.YtcjlbonflecbkaaDoor
