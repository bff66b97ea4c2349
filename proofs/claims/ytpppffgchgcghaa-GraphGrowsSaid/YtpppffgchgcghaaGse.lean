/-
  The law's nodes: sums of numbers, in memory of their own.
-/
import Derived.Test.YtpppffgchgcghaaGsd
namespace Go.Proofs.Ytpppffgchgcghaa
open Go.RowKit Go.Maps
set_option linter.unusedVariables false
def ndsP (z : List Nat) : Ds := (z.take 12).map nd
theorem ndsP_d32 (z : List Nat) : ∀ d ∈ ndsP z, D32 d := fun d hd => by
  obtain ⟨n, -, rfl⟩ := List.mem_map.1 hd
  exact d32_nd n
theorem ndsP_len (z : List Nat) : (ndsP z).length ≤ 12 := by
  unfold ndsP
  rw [List.length_map, List.length_take]
  omega
theorem take_map_snoc {z : List Nat} {j x : Nat} (hj : j < z.length) (hx : x = z.getD j 0) : (z.take (j + 1)).map nd = (z.take j).map nd ++ [nd x] := by
  have e : x = z[j] := by rw [hx, List.getD_eq_getElem?_getD, List.getElem?_eq_getElem hj]; rfl
  rw [List.take_succ_eq_append_getElem hj, List.map_append, e]
  rfl
set_option maxRecDepth 100000 in
set_option maxHeartbeats 4000000 in
theorem nodes_c (a : Option Addr) (len cap : Nat) (z : List Nat) (w : World) (hrd : Rd w a len z) (hl : len ≤ cap) (hcap : cap ≤ 140737488351232) : Calls Try.prog 24 #[.slice a len cap] w fun e w' => ∃ a' n' c', e = .returned (.slice a' n' c') ∧ OwE w' w.heap.size (.slice a' n' c') (ndsP z) ∧ Below w.heap.size w w' := by
  obtain ⟨m, hm⟩ : ∃ m : Nat, m = min len 12 := ⟨_, rfl⟩
  have e1 : min (len : Int) 12 = (m : Int) := by omega
  have hm12 : m ≤ 12 := by omega
  have hml : m ≤ len := by omega
  have HRD := Lib.hid hrd
  have HME := Lib.hid hm
  have HP0 := Lib.hid (show OwE w w.heap.size (.slice none 0 0) ((z.take 0).map nd) ∧ Below w.heap.size w w from ⟨OwnD.nil _ _ _, Below.refl _ _⟩)
  clear hrd hm
  go_enter Try.func24, Try.ntmps24
  go_wp2_with fail
  go_loopw [12, 3] (fun i v wr => ∃ j : Nat, j ≤ m ∧ i = .int .i64 j ∧ Hid (OwE wr w.heap.size v ((z.take j).map nd) ∧ Below w.heap.size w wr)) (fun i _ _ => m - (intOf i).toNat)
  case atStart => exact ⟨0, Nat.zero_le _, rfl, HP0⟩
  case round =>
    clear HP0
    obtain ⟨j, hj, rfl, HP⟩ := hrel
    by_cases hjn : j < m
    · obtain ⟨hl1, hz, hcell⟩ := HRD.out.below HP.out.2
      obtain ⟨b, off, rfl, hb, hc⟩ := hcell.resolve_left (by omega)
      obtain ⟨x, hx⟩ : ∃ x, x = z.getD j 0 := ⟨_, rfl⟩
      have hcj := hc j (by omega)
      rw [← hx] at hcj
      have hx256 : x < 256 := by rw [hx, List.getD_eq_getElem?_getD, List.getElem?_eq_getElem (by omega)]; exact hz _ (List.getElem_mem _)
      have HXE := Lib.hid (take_map_snoc (by omega) hx)
      have HZL := Lib.hid hl1
      obtain ⟨nn, hnn⟩ : ∃ nn : List Nat, nn = nd x := ⟨_, rfl⟩
      have HND := Lib.hid (show Calls Try.prog 14 #[.int .u8 (x : Int)] wr (fun e w' => e = .returned (.agg (cellsOf nn).toArray) ∧ Below wr.heap.size wr w') from by rw [hnn]; exact node_c x hx256 wr)
      have HSD := Lib.hid (show D32 nn from by rw [hnn]; exact d32_nd x)
      have HNE := Lib.hid hnn
      clear hc hcell hz hx hl1 hnn hb
      go_wp2_with fail
      refine HND.out.mono ?_
      rintro e2 w2 ⟨rfl, hb2⟩
      have HO2 := Lib.hid (show OwE w2 w.heap.size u3 ((z.take j).map nd) from HP.out.1.below hb2 (Nat.le_refl _))
      have HB2 := Lib.hid (HP.out.2.trans (hb2.mono HP.out.2.size))
      have hlen : ((z.take j).map nd).length + 1 ≤ 4398046511104 := by rw [List.length_map, List.length_take]; omega
      have hszB : w.heap.size ≤ w2.heap.size := HB2.out.size
      clear hb2 HND HP hcj
      go_wp2_with (first | (refine wpList_dlayG _ (by rfl) (by rfl) nn HSD.out (by rfl) ?_) | (at_builtin; (refine wpList_pushE rfl _ _ rfl w.heap.size u3 _ nn HSD.out rfl HO2.out hszB rfl hlen ?_); intro v5 w5 hown5 hg5; have HPN := Lib.hid (show OwE w5 w.heap.size v5 ((z.take (j + 1)).map nd) ∧ Below w.heap.size w w5 from ⟨by rw [HXE.out, ← HNE.out]; exact hown5, (HB2.out.alloc hszB _).grown hg5 (by simp; omega) fun k hk => (HO2.out.block k hk).1⟩); clear hown5 hg5) | fail)
      go_roundw
      case rel => exact ⟨j + 1, by omega, by go_num, HPN⟩
      case measure => simp [intOf]; omega
    · obtain rfl : j = m := by omega
      have HFIN := Lib.hid (show OwE wr w.heap.size u3 (ndsP z) ∧ Below w.heap.size w wr from by
        have h1 := HP.out
        have e2 : z.take j = z.take 12 := by
          have h2 := HRD.out.1
          rw [HME.out]
          by_cases h12 : len ≤ 12
          · rw [Nat.min_eq_left h12, List.take_of_length_le (by omega), List.take_of_length_le (by omega)]
          · rw [Nat.min_eq_right (by omega)]
        unfold ndsP
        rw [← e2]
        exact h1)
      obtain ⟨av, nv, cv, ev⟩ : ∃ av nv cv, u3 = .slice av nv cv := by
        rcases HP.out.1.2 with ⟨e, _⟩ | ⟨_, _, _, e, _⟩
        · exact ⟨_, _, _, e⟩
        · exact ⟨_, _, _, e⟩
      subst ev
      clear HP
      go_wp2_with fail
      go_ret
      exact ⟨av, nv, cv, rfl, HFIN.out.1, HFIN.out.2⟩
end Go.Proofs.Ytpppffgchgcghaa
