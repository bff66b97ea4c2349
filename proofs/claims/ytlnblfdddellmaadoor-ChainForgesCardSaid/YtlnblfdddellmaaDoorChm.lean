/-
  One-time keys on plain lists: secrets, steps, climbs, signatures, and what they are recovered to.
-/
import Derived.Test.YtlnblfdddellmaaDoorChd
import Derived.Test.YtlnblfdddellmaaDoorPkd
namespace Go.Proofs.YtlnblfdddellmaaDoor
open Go.RowKit
set_option linter.unusedVariables false
theorem d32_of_sum (z : List Nat) : D32 (Sha.sum z) := ⟨sum_len z, sum_byte z⟩
namespace Ch
def stepB (key c s : Nat) (x : List Nat) : List Nat := 2 :: (Numm.put key 4 ++ [c, s] ++ x)
def stepS (key c s : Nat) (x : List Nat) : List Nat := Sha.sum (stepB key c s x)
def secB (seed : List Nat) (key c : Nat) : List Nat := 4 :: (seed ++ Numm.put key 4 ++ [c])
def secS (seed : List Nat) (key c : Nat) : List Nat := Sha.sum (secB seed key c)
def climbS (key c : Nat) (x : List Nat) (f : Nat) : Nat → List Nat
  | 0 => x
  | n + 1 => stepS key c (f + n) (climbS key c x f n)
def pressS (ends : List (List Nat)) : List Nat := Sha.sum (3 :: ends.flatten)
def endsS (seed : List Nat) (key : Nat) : List (List Nat) := (List.range 67).map fun c => climbS key c (secS seed key c) 0 15
def signS (seed : List Nat) (key : Nat) (m : List Nat) : List (List Nat) := (List.range 67).map fun c => climbS key c (secS seed key c) 0 ((Dg.digs m).getD c 0)
def topsS (key : Nat) (m : List Nat) (sig : List (List Nat)) : List (List Nat) := (List.range 67).map fun c => climbS key c (sig.getD c []) ((Dg.digs m).getD c 0) (15 - (Dg.digs m).getD c 0)
theorem d32_step (key c s : Nat) (x : List Nat) : D32 (stepS key c s x) := d32_of_sum _
theorem d32_sec (seed : List Nat) (key c : Nat) : D32 (secS seed key c) := d32_of_sum _
theorem d32_climb {key c : Nat} {x : List Nat} (hx : D32 x) (f n : Nat) : D32 (climbS key c x f n) := by
  cases n with
  | zero => exact hx
  | succ n => exact d32_step _ _ _ _
theorem climb_add (key c : Nat) (x : List Nat) (f a b : Nat) : climbS key c x f (a + b) = climbS key c (climbS key c x f a) (f + a) b := by
  induction b with
  | zero => rfl
  | succ b ih => rw [← Nat.add_assoc]; simp only [climbS, ih, Nat.add_assoc]
theorem stepB_len (key c s : Nat) (x : List Nat) (hx : x.length = 32) : (stepB key c s x).length = 39 := by
  simp [stepB, Numm.put_len, hx]
theorem secB_len (seed : List Nat) (key c : Nat) (hx : seed.length = 32) : (secB seed key c).length = 38 := by
  simp [secB, Numm.put_len, hx]
theorem stepB_byte (key c s : Nat) (x : List Nat) (hc : c < 256) (hs : s < 256) (hx : ∀ z ∈ x, z < 256) : ∀ z ∈ stepB key c s x, z < 256 := by
  intro z hz
  simp only [stepB, List.mem_cons, List.mem_append, List.not_mem_nil, or_false] at hz
  rcases hz with rfl | (h | rfl | rfl) | h
  · omega
  · exact Numm.put_byte _ _ z h
  · exact hc
  · exact hs
  · exact hx z h
theorem secB_byte (seed : List Nat) (key c : Nat) (hc : c < 256) (hx : ∀ z ∈ seed, z < 256) : ∀ z ∈ secB seed key c, z < 256 := by
  intro z hz
  simp only [secB, List.mem_cons, List.mem_append, List.not_mem_nil, or_false] at hz
  rcases hz with rfl | (h | h) | rfl
  · omega
  · exact hx z h
  · exact Numm.put_byte _ _ z h
  · exact hc
theorem dig_le (m : List Nat) (hm : D32 m) (c : Nat) : (Dg.digs m).getD c 0 ≤ 15 := by
  by_cases h : c < (Dg.digs m).length
  · rw [getD_at _ _ h]
    have := Dg.digs_lt m hm.1 hm.2 _ (List.getElem_mem h)
    omega
  · rw [List.getD_eq_getElem?_getD, List.getElem?_eq_none (by omega)]; simp
theorem sign_tops (seed : List Nat) (key : Nat) (m : List Nat) (hm : D32 m) : topsS key m (signS seed key m) = endsS seed key := by
  unfold topsS endsS
  apply List.map_congr_left
  intro c hc
  have hc' : c < 67 := by simpa using hc
  have e : (signS seed key m).getD c [] = climbS key c (secS seed key c) 0 ((Dg.digs m).getD c 0) := by
    unfold signS
    rw [List.getD_eq_getElem?_getD, List.getElem?_map, List.getElem?_range hc']; rfl
  have hl := dig_le m hm c
  rw [e]
  have h := climb_add key c (secS seed key c) 0 ((Dg.digs m).getD c 0) (15 - (Dg.digs m).getD c 0)
  rw [Nat.zero_add] at h
  rw [← h]
  congr 1
  omega
end Ch
end Go.Proofs.YtlnblfdddellmaaDoor
