/-
  The walks over slices.Grow of nil and slices.Concat at bytes.
-/
import Derived.Test.YtihbgigledmliaaPka
import Derived.Lib.AppendZerosOnto
namespace Go.Proofs.Ytihbgigledmliaa
open Go.RowKit
set_option linter.unusedVariables false

theorem own_made (w : World) (B G : Nat) (cs : Array Value) (hB : B ≤ w.heap.size) (hG : cs.size = G) (hG2 : G ≤ 9223372036854775807) : Own (w.drew.alloc (.cells cs 5)) B (.slice (some ⟨w.heap.size, 0, none⟩) 0 G) [] := by
  refine ⟨rfl, .inr ⟨w.heap.size, G, cs, rfl, hB, heap_alloc_new w.drew _, Nat.zero_le _, hG2, by rw [Nat.mul_one]; exact hG, by simp [cellsOf]⟩⟩
set_option maxRecDepth 100000 in
set_option maxHeartbeats 1000000 in
/-- slices.Grow(nil, n) -/
theorem grow_nil_c (n : Nat) (w : World) (hn : n ≤ 140737488355328) : Calls Try.prog 95 #[.slice none 0 0, .int .i64 (n : Int)] w (RetB w.heap.size w []) := by
  obtain ⟨i0, hi, hz0, hz1, hz2⟩ := info_parts byteInfo
  by_cases h0 : n = 0
  · subst h0
    go_enter Try.func95, Try.ntmps95
    go_wp2
    go_ret
    exact ⟨_, rfl, Own.nil _ _, Below.refl _ _⟩
  · have hrz : ∀ ty, (Builtin.append_ #[41, 3] ty #[.slice none 0 0, .int .i64 (n : Int)]).run Try.prog w =
        .ok (.slice (some ⟨w.heap.size, 0, none⟩) n (grownCap w n 0 5)) (w.drew.alloc (.cells (([] : List Value).toArray ++ Builtin.zeroCells (Value.int .u8 0).cells n ++ Builtin.zeroCells (Value.int .u8 0).cells (grownCap w n 0 5 - n)) 5)) := fun ty => by
      have h := Lib.run_append_grow_zeros (P := Try.prog) w 41 3 ty 5 i0 (.int .u8 0) .i64 .i64 Try.underlying41 Try.underlying3 hi hz0 none 0 0 [] (run_firstCells_none w.drew i0.size 0 0 0) n (by omega) (by omega) (by omega) (by omega) (by rw [hz2]; omega)
        (by rw [Nat.zero_add]; exact growslice_fits (by omega) (by rw [hz2]; omega))
      simp only [Nat.zero_add] at h
      exact h
    have hGn : n ≤ grownCap w n 0 5 := grownCap_ge w _ _ _
    have hG63 : grownCap w n 0 5 ≤ 9223372036854775807 := by
      have := grownCap_le_maxLen w n 0 5 (by unfold maxLen; omega)
      unfold maxLen at this
      omega
    obtain ⟨G, hG⟩ : ∃ G, G = grownCap w n 0 5 := ⟨_, rfl⟩
    rw [← hG] at hrz hGn hG63
    have h1 : ¬ ((n : Int) < 0) := by omega
    have h2 : wrap64 ((n : Int) - 0) = (n : Int) := by unfold wrap64; omega
    have h4 : (n : Int) > 0 := by omega
    obtain ⟨cs, hcs⟩ : ∃ cs, cs = (([] : List Value).toArray ++ Builtin.zeroCells (Value.int .u8 0).cells n ++ Builtin.zeroCells (Value.int .u8 0).cells (G - n)) := ⟨_, rfl⟩
    rw [← hcs] at hrz
    have hcz : cs.size = G := by
      rw [hcs]
      simp only [Array.size_append, size_zeroCells]
      have e : (Value.int .u8 0).cells.size = 1 := rfl
      rw [e]
      simp
      omega
    clear hG hcs
    go_enter Try.func95, Try.ntmps95
    go_wp2_with (at_builtin; refine Lib.wpList_append_run _ rfl _ _ _ _ rfl _ _ rfl rfl _ _ (hrz _) ?_)
    go_ret
    exact ⟨_, rfl, own_made w _ G cs (Nat.le_refl _) hcz hG63, (below_drewN' _ w 1).trans ((Below.refl _ _).alloc (by simp [World.drewN]) _)⟩
/-- slices of bytes that can be read: address, length, capacity, bytes -/
abbrev Sl := Option Addr × Nat × Nat × List Nat
def slv (s : Sl) : Value := .slice s.1 s.2.1 s.2.2.1
def slz (s : Sl) : List Nat := s.2.2.2
def SlOk (w : World) (s : Sl) : Prop := Rd w s.1 s.2.1 s.2.2.2 ∧ (s.1 = none → s.2.2.1 = 0)
def catS (L : List Sl) : List Nat := (L.map slz).flatten
theorem catS_snoc (L : List Sl) (k : Nat) (s : Sl) (h : L[k]? = some s) : catS (L.take (k + 1)) = catS (L.take k) ++ slz s := by
  unfold catS
  rw [List.take_add_one, h]
  simp
theorem catS_le (L : List Sl) (k : Nat) : (catS (L.take k)).length ≤ (catS L).length := by
  have h : L = L.take k ++ L.drop k := by simp
  conv => rhs; rw [h]
  unfold catS
  rw [List.map_append, List.flatten_append, List.length_append]
  omega
theorem catS_all (L : List Sl) (k : Nat) (h : L.length ≤ k) : catS (L.take k) = catS L := by rw [List.take_of_length_le h]
theorem catS_byte {w : World} {L : List Sl} (h : ∀ s ∈ L, SlOk w s) (k : Nat) : ∀ z ∈ catS (L.take k), z < 256 := by
  intro z hz
  unfold catS at hz
  obtain ⟨l, hl, hz⟩ := List.mem_flatten.1 hz
  obtain ⟨s, hs, rfl⟩ := List.mem_map.1 hl
  exact (h s (List.mem_of_mem_take hs)).1.2.1 z hz
set_option maxRecDepth 100000 in
set_option maxHeartbeats 2000000 in
/-- slices.Concat of slices that stand in a row -/
theorem concat_c (L : List Sl) (hb k cap : Nat) (w : World) (hlen : L.length = k) (hk : k ≤ 4611686018427387904) (hbw : hb < w.heap.size) (hh : ∀ i s, L[i]? = some s → w.cell? ⟨hb, i, none⟩ = some (slv s)) (hok : ∀ s ∈ L, SlOk w s) (htot : (catS L).length ≤ 140737488355328) :
    Calls Try.prog 83 #[.slice (some ⟨hb, 0, none⟩) k cap] w (RetB w.heap.size w (catS L)) := by
  have HL := Lib.hid hlen
  have HH := Lib.hid hh
  have HOK := Lib.hid hok
  have HT := Lib.hid htot
  clear hlen hh hok htot
  go_enter Try.func83, Try.ntmps83
  go_wp2
  go_loopw [3, 11] (fun v i wr => ∃ j : Nat, j ≤ k ∧ i = .int .i64 j ∧ v = .int .i64 (((catS (L.take j)).length : Nat) : Int) ∧ w = wr) (fun _ i _ => k - (intOf i).toNat)
  case atStart => exact ⟨0, Nat.zero_le _, rfl, by simp [catS], rfl⟩
  case round =>
    obtain ⟨j, hj, rfl, rfl, rfl⟩ := hrel
    by_cases hjk : j < k
    · obtain ⟨s, hs⟩ : ∃ s, L[j]? = some s := ⟨_, List.getElem?_eq_getElem (by rw [HL.out]; exact hjk)⟩
      have hcx := HH.out j s hs
      have hq := catS_snoc L j s hs
      have hle := catS_le L (j + 1)
      rw [hq, List.length_append] at hle
      have hsz := (HOK.out s (List.mem_of_getElem? hs)).1.1
      have hsl : (slz s).length = s.2.1 := hsz
      have htt := HT.out
      obtain ⟨S, hS⟩ : ∃ S, S = (catS (L.take j)).length := ⟨_, rfl⟩
      obtain ⟨a, n, c, zs⟩ := s
      simp only [slv] at hcx
      simp only at hsl
      have HE : Hid ((catS (L.take (j + 1))).length = S + n) := Lib.hid (by rw [hq, List.length_append, hsl, hS])
      rw [← hS] at hle ⊢
      rw [hsl] at hle
      have i0 : S + n ≤ 140737488355328 := by omega
      clear hS hq hsl hsz htt hle hs
      have i1 : ¬ ((S : Int) + (n : Int) < 0) := by omega
      have i2 : wrap64 ((S : Int) + (n : Int)) = ((S + n : Nat) : Int) := by unfold wrap64; omega
      go_wp2
      go_roundw
      case rel => exact ⟨j + 1, by omega, by go_num, by rw [HE.out]; first | rfl | (congr 1; omega), by first | trivial | rfl⟩
      case measure => simp [intOf]; omega
    · have hA := catS_all L j (by rw [HL.out]; omega)
      rw [hA]
      have HG := Lib.hid ((grow_nil_c (catS L).length w HT.out))
      obtain ⟨S, hS⟩ : ∃ S, S = (catS L).length := ⟨_, rfl⟩
      rw [← hS] at HG ⊢
      have i9 : ¬ ((j : Int) < (k : Int)) := by omega
      clear hA hS
      go_wp2_with fail
      refine HG.out.mono ?_
      rintro e2 w2 ⟨v2, rfl, ho2, hb2⟩
      have HO := Lib.hid ho2
      have HB := Lib.hid hb2
      clear ho2 hb2 HG
      go_wp2_with fail
      go_loopw [6, 27] (fun v i wr => ∃ m : Nat, m ≤ k ∧ i = .int .i64 m ∧ Hid (Own wr w.heap.size v (catS (L.take m))) ∧ Hid (Below w.heap.size w wr)) (fun _ i _ => k - (intOf i).toNat)
      case atStart => exact ⟨0, Nat.zero_le _, rfl, by simpa [catS] using HO, HB⟩
      case round =>
        clear HO HB
        obtain ⟨m, hm, rfl, HO, HB⟩ := hrel
        by_cases hmj : m < k
        · obtain ⟨s, hs⟩ : ∃ s, L[m]? = some s := ⟨_, List.getElem?_eq_getElem (by rw [HL.out]; exact hmj)⟩
          have hcx := ((HB.out.cell (p := ⟨hb, m, none⟩) (by exact hbw))).trans (HH.out m s hs)
          have HQ := Lib.hid (catS_snoc L m s hs)
          have hle := catS_le L (m + 1)
          rw [HQ.out, List.length_append] at hle
          have hs2 := HOK.out s (List.mem_of_getElem? hs)
          have hLE : (catS (L.take m)).length + (slz s).length ≤ 140737488355328 := by have := HT.out; omega
          obtain ⟨a, n, c, zs⟩ := s
          simp only [slv] at hcx
          have HLE := Lib.hid (show (catS (L.take m)).length + zs.length ≤ 140737488355328 from hLE)
          have HRD := Lib.hid (show Rd wr a n zs from hs2.1.below HB.out)
          have HNN := Lib.hid (show a = none → c = 0 from hs2.2)
          have HBY := Lib.hid (catS_byte HOK.out m)
          have hsz := HB.out.size
          clear hle hs2 hs hLE
          go_wp2_with (at_builtin; (refine wpList_catR rfl (.tmp 31) (.tmp 32) rfl w.heap.size _ (catS (L.take m)) zs rfl HO.out hsz a n c rfl HRD.out HNN.out HBY.out HLE.out ?_); intro a3 L3 c3 w3 g1 g2 g3 g4 g5 g6 g7; have HO3 := Lib.hid (show Own w3 w.heap.size (.slice a3 L3 c3) (catS (L.take (m + 1))) from by have e := HQ.out; simp only [slz] at e; rw [e]; exact g6); have HB3 := Lib.hid (HB.out.trans g7); clear g1 g2 g3 g4 g5 g6 g7)
          go_roundw
          case rel => exact ⟨m + 1, by omega, by go_num, HO3, HB3⟩
          case measure => simp [intOf]; omega
        · have hA := catS_all L m (by rw [HL.out]; omega)
          rw [hA] at HO
          go_wp2_with fail
          go_ret
          exact ⟨_, rfl, HO.out, HB.out⟩
end Go.Proofs.Ytihbgigledmliaa
