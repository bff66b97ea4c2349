/-
  The walk over the document's Words; the words that the definition names.
-/
import Derived.Test.YtbhgpkhpammdeaaDoorPdr
namespace Go.Proofs.YtbhgpkhpammdeaaDoor
open Go.RowKit
set_option linter.unusedVariables false
def wordsS (n : Nat) (three : Bool) : List Nat := ((Ov.pl 312).take n).map fun p => Ov.root p three
theorem words_h : wordsS 8 false = Sha.H0 := by decide +kernel
theorem words_k : wordsS 64 true = Sha.K := by decide +kernel
set_option maxRecDepth 100000 in
set_option maxHeartbeats 2000000 in
theorem words_c (n : Nat) (three : Bool) (hn : n ≤ 64) (w : World) :
    Calls Tryd.prog 5 #[.int .i64 (n : Int), .bool three] w (RetK 26 .u32 (wordsS n three) w) := by
  have HP := Lib.hid (primes_c n hn w)
  obtain ⟨ps, hps⟩ : ∃ ps, ps = (Ov.pl 312).take n := ⟨_, rfl⟩
  have HW := Lib.hid (show wordsS n three = ps.map fun p => Ov.root p three from by rw [hps]; rfl)
  have hlen : ps.length = n := by rw [hps, List.length_take, Ov.pl_all]; omega
  have HPB := Lib.hid (show ∀ x ∈ ps, x < 4294967296 from fun x hx => by rw [hps] at hx; have := Ov.pl_lt (List.mem_of_mem_take hx); omega)
  rw [← hps] at HP
  clear hps
  go_enter Tryd.func5, Tryd.ntmps5
  go_wp2_with fail
  refine HP.out.mono ?_
  rintro e wA ⟨v, rfl, hown, hb⟩
  obtain ⟨a, L, c, hv, hL, hLc, hcm, hcell⟩ := hown.form
  cases hv
  obtain rfl : L = n := by omega
  have HCELL := Lib.hid hcell
  have HBA := Lib.hid hb
  clear hown hb hcell HP
  go_wp2_with fail
  go_loopw [6, 7] (fun v i wr => ∃ k : Nat, k ≤ L ∧ i = .int .i64 k ∧ Hid (OwnK wr wA.heap.size 26 .u32 v ((ps.take k).map fun p => Ov.root p three)) ∧ Hid (Below wA.heap.size wA wr)) (fun _ i _ => L - (intOf i).toNat)
  case atStart => exact ⟨0, by omega, rfl, Lib.hid (OwnK.nil _ _ _ _), Lib.hid (Below.refl _ _)⟩
  case round =>
    obtain ⟨k, hk, rfl, HO, HB⟩ := hrel
    by_cases hkl : k < L
    · obtain ⟨g, rfl, _, hg, hc⟩ := HCELL.out (by omega)
      obtain ⟨p, hp⟩ : ∃ p, p = ps.getD k 0 := ⟨_, rfl⟩
      have hpb : p < 4294967296 := HPB.out p (by rw [hp, List.getD_eq_getElem?_getD, List.getElem?_eq_getElem (by omega)]; exact List.getElem_mem _)
      have hcx : wr.cell? ⟨g, k, none⟩ = some (.int .u64 (p : Int)) := by rw [hp]; exact (HB.out.cell (p := ⟨g, k, none⟩) hg).trans (hc k hkl)
      have HR := Lib.hid (fun W => oroot_c p three W hpb)
      obtain ⟨z, hz⟩ : ∃ z, z = Ov.root p three := ⟨_, rfl⟩
      rw [← hz] at HR
      have HN := Lib.hid (show ((ps.take k).map fun p => Ov.root p three) ++ [z] = (ps.take (k + 1)).map fun p => Ov.root p three from by
        rw [List.take_add_one, List.map_append, List.getElem?_eq_getElem (by omega), Option.toList_some, List.map_cons, List.map_nil, hz, hp, List.getD_eq_getElem?_getD, List.getElem?_eq_getElem (by omega)]
        rfl)
      have HLE := Lib.hid (show ((ps.take k).map fun p => Ov.root p three).length + 1 ≤ 1000000 from by rw [List.length_map, List.length_take]; omega)
      have hsz := HB.out.size
      have q1 : (k : Int) < (L : Int) := by omega
      clear hp hz hc hpb
      go_wp2_with (first | (go_at_call 22; refine (HR.out _).mono ?_; rintro e wb ⟨rfl, rfl⟩) | (at_builtin; (refine wpList_pushK kt32 (by omega) (by rfl) _ _ (by rfl) wA.heap.size _ ((ps.take k).map fun p => Ov.root p three) z _ rfl (by rfl) HO.out hsz (by rfl) HLE.out ?_); intro v2 w2 hown hb2; have HO2 := Lib.hid hown; have HB2 := Lib.hid (HB.out.trans hb2); clear hown hb2))
      go_roundw
      case rel => exact ⟨k + 1, by omega, by go_num, Lib.hid (by rw [← HN.out]; exact HO2.out), HB2⟩
      case measure => simp [intOf]; omega
    · obtain rfl : k = L := by omega
      have q1 : ¬ (k : Int) < (k : Int) := by omega
      have HT := Lib.hid (show ((ps.take k).map fun p => Ov.root p three) = wordsS k three from by rw [HW.out, List.take_of_length_le (by omega)])
      go_wp2
      go_ret
      exact ⟨_, rfl, by rw [← HT.out]; exact HO.out.base HBA.out.size, HBA.out.trans (HB.out.mono HBA.out.size)⟩
end Go.Proofs.YtbhgpkhpammdeaaDoor
