/-
  SHA-256 on plain numbers and lists. How the last block is filled, on plain lists. The walk over digest.schedule. A state of digest as it lies in memory: eight words, a block, how many bytes came in. The walk over digest.mix. The walks over New, waiting, Size and spread. Cutting bytes: pieces of slices and of arrays. Steps of a region that draws its order: a copy into a row. The walk over the state's Write.
-/
import Derived.Test.YtpppffgchgcghaaPka
import Derived.Laws.CopyOwn
import Derived.Laws.Rows
import Derived.Laws.Tables
import Derived.BigQuiet
import Derived.StillTailTactics
import Derived.Deep.MidRow
import Derived.Deep.CutRange
import Derived.Great.BuildSlice
import Derived.Deep.RegionHeld3
namespace Go.Proofs.Ytpppffgchgcghaa.Sha
/-- sums of words -/
def add (a b : Nat) : Nat := (a + b) % 4294967296
theorem add_lt (a b : Nat) : add a b < 4294967296 := Nat.mod_lt _ (by omega)
/-- word i of a block -/
def wd (bs : List Nat) (i : Nat) : Nat := Numm.num 0 [bs.getD (4 * i) 0, bs.getD (4 * i + 1) 0, bs.getD (4 * i + 2) 0, bs.getD (4 * i + 3) 0]
/-- what is mixed of a word at 15 and at 2 behind -/
def sig0 (x : Nat) : Nat := (Rotm.rot x 7 ^^^ Rotm.rot x 18) ^^^ (x / 8)
def sig1 (x : Nat) : Nat := (Rotm.rot x 17 ^^^ Rotm.rot x 19) ^^^ (x / 1024)
/-- the next word behind ws -/
def nxt (ws : List Nat) (i : Nat) : Nat := add (add (add (ws.getD (i - 16) 0) (sig0 (ws.getD (i - 15) 0))) (ws.getD (i - 7) 0)) (sig1 (ws.getD (i - 2) 0))
/-- the first n words of a block -/
def sch (bs : List Nat) : Nat → List Nat
  | 0 => []
  | n + 1 => sch bs n ++ [if n < 16 then wd bs n else nxt (sch bs n) n]
theorem sch_len (bs : List Nat) (n : Nat) : (sch bs n).length = n := by
  induction n with
  | zero => rfl
  | succ n ih => simp [sch, ih]
theorem wd_lt (bs : List Nat) (hb : ∀ i, bs.getD i 0 < 256) (i : Nat) : wd bs i < 4294967296 := by
  unfold wd
  have h := Numm.num_lt [bs.getD (4 * i) 0, bs.getD (4 * i + 1) 0, bs.getD (4 * i + 2) 0, bs.getD (4 * i + 3) 0] (by
    intro z hz
    simp only [List.mem_cons, List.not_mem_nil, or_false] at hz
    rcases hz with rfl | rfl | rfl | rfl <;> exact hb _)
  simpa using h
theorem sch_lt (bs : List Nat) (hb : ∀ i, bs.getD i 0 < 256) (n : Nat) : ∀ z ∈ sch bs n, z < 4294967296 := by
  induction n with
  | zero => simp [sch]
  | succ n ih =>
    intro z hz
    simp only [sch, List.mem_append, List.mem_singleton] at hz
    rcases hz with h | rfl
    · exact ih z h
    · split
      · exact wd_lt bs hb n
      · exact add_lt _ _
/-- the eight variables -/
structure R8 where
  a : Nat
  b : Nat
  c : Nat
  d : Nat
  e : Nat
  f : Nat
  g : Nat
  h : Nat
def r8 (l : List Nat) : R8 := ⟨l.getD 0 0, l.getD 1 0, l.getD 2 0, l.getD 3 0, l.getD 4 0, l.getD 5 0, l.getD 6 0, l.getD 7 0⟩
def R8.ok (r : R8) : Prop := r.a < 4294967296 ∧ r.b < 4294967296 ∧ r.c < 4294967296 ∧ r.d < 4294967296 ∧ r.e < 4294967296 ∧ r.f < 4294967296 ∧ r.g < 4294967296 ∧ r.h < 4294967296
def S1 (e : Nat) : Nat := (Rotm.rot e 6 ^^^ Rotm.rot e 11) ^^^ Rotm.rot e 25
def S0 (a : Nat) : Nat := (Rotm.rot a 2 ^^^ Rotm.rot a 13) ^^^ Rotm.rot a 22
def ch (e f g : Nat) : Nat := (e &&& f) ^^^ ((4294967295 - e) &&& g)
def mj (a b c : Nat) : Nat := ((a &&& b) ^^^ (a &&& c)) ^^^ (b &&& c)
def tx (r : R8) (k w : Nat) : Nat := add (add (add (add r.h (S1 r.e)) (ch r.e r.f r.g)) k) w
def ty (r : R8) : Nat := add (S0 r.a) (mj r.a r.b r.c)
/-- one round -/
def rnd (r : R8) (k w : Nat) : R8 := ⟨add (tx r k w) (ty r), r.a, r.b, r.c, add r.d (tx r k w), r.e, r.f, r.g⟩
theorem rnd_ok {r : R8} (h : r.ok) (k w : Nat) : (rnd r k w).ok := by
  obtain ⟨h1, h2, h3, h4, h5, h6, h7, _⟩ := h
  exact ⟨add_lt _ _, h1, h2, h3, add_lt _ _, h5, h6, h7⟩
/-- the constants of the rounds -/
def K : List Nat := [0x428a2f98, 0x71374491, 0xb5c0fbcf, 0xe9b5dba5, 0x3956c25b, 0x59f111f1, 0x923f82a4, 0xab1c5ed5,
  0xd807aa98, 0x12835b01, 0x243185be, 0x550c7dc3, 0x72be5d74, 0x80deb1fe, 0x9bdc06a7, 0xc19bf174,
  0xe49b69c1, 0xefbe4786, 0x0fc19dc6, 0x240ca1cc, 0x2de92c6f, 0x4a7484aa, 0x5cb0a9dc, 0x76f988da,
  0x983e5152, 0xa831c66d, 0xb00327c8, 0xbf597fc7, 0xc6e00bf3, 0xd5a79147, 0x06ca6351, 0x14292967,
  0x27b70a85, 0x2e1b2138, 0x4d2c6dfc, 0x53380d13, 0x650a7354, 0x766a0abb, 0x81c2c92e, 0x92722c85,
  0xa2bfe8a1, 0xa81a664b, 0xc24b8b70, 0xc76c51a3, 0xd192e819, 0xd6990624, 0xf40e3585, 0x106aa070,
  0x19a4c116, 0x1e376c08, 0x2748774c, 0x34b0bcb5, 0x391c0cb3, 0x4ed8aa4a, 0x5b9cca4f, 0x682e6ff3,
  0x748f82ee, 0x78a5636f, 0x84c87814, 0x8cc70208, 0x90befffa, 0xa4506ceb, 0xbef9a3f7, 0xc67178f2]
/-- the variables behind n rounds -/
def rnds (r : R8) (ws : List Nat) : Nat → R8
  | 0 => r
  | n + 1 => rnd (rnds r ws n) (K.getD n 0) (ws.getD n 0)
theorem rnds_ok {r : R8} (h : r.ok) (ws : List Nat) (n : Nat) : (rnds r ws n).ok := by
  induction n with
  | zero => exact h
  | succ n ih => exact rnd_ok ih _ _
/-- the words behind a block -/
def mixR (hs : List Nat) (r : R8) : List Nat :=
  [add (hs.getD 0 0) r.a, add (hs.getD 1 0) r.b, add (hs.getD 2 0) r.c, add (hs.getD 3 0) r.d, add (hs.getD 4 0) r.e, add (hs.getD 5 0) r.f, add (hs.getD 6 0) r.g, add (hs.getD 7 0) r.h]
theorem mixR_lt (hs : List Nat) (r : R8) : ∀ z ∈ mixR hs r, z < 4294967296 := by
  intro z hz
  simp only [mixR, List.mem_cons, List.not_mem_nil, or_false] at hz
  rcases hz with rfl | rfl | rfl | rfl | rfl | rfl | rfl | rfl <;> exact add_lt _ _
def mix (hs bs : List Nat) : List Nat := mixR hs (rnds (r8 hs) (sch bs 64) 64)
/-- the words at first -/
def H0 : List Nat := [0x6a09e667, 0xbb67ae85, 0x3c6ef372, 0xa54ff53a, 0x510e527f, 0x9b05688c, 0x1f83d9ab, 0x5be0cd19]
/-- block i of q -/
def blk (q : List Nat) (i : Nat) : List Nat := (q.drop (64 * i)).take 64
/-- the words behind n blocks of q -/
def runN (hs q : List Nat) : Nat → List Nat
  | 0 => hs
  | n + 1 => mix (runN hs q n) (blk q n)
/-- the words behind the whole blocks of q, and what stands behind them -/
def run (hs q : List Nat) : List Nat := runN hs q (q.length / 64)
def rest (q : List Nat) : List Nat := q.drop (64 * (q.length / 64))
theorem rest_len (q : List Nat) : (rest q).length = q.length % 64 := by unfold rest; rw [List.length_drop]; omega
theorem blk_app (q x : List Nat) (i : Nat) (h : 64 * (i + 1) ≤ q.length) : blk (q ++ x) i = blk q i := by
  unfold blk
  rw [List.drop_append_of_le_length (by omega), List.take_append_of_le_length (by rw [List.length_drop]; omega)]
theorem runN_app (hs q x : List Nat) (n : Nat) (h : 64 * n ≤ q.length) : runN hs (q ++ x) n = runN hs q n := by
  induction n with
  | zero => rfl
  | succ n ih => rw [runN, runN, ih (by omega), blk_app q x n (by omega)]
theorem run_short (hs q x : List Nat) (h : q.length % 64 + x.length < 64) : run hs (q ++ x) = run hs q ∧ rest (q ++ x) = rest q ++ x := by
  have e : (q ++ x).length / 64 = q.length / 64 := by rw [List.length_append]; omega
  unfold run rest
  rw [e]
  exact ⟨runN_app _ _ _ _ (by omega), List.drop_append_of_le_length (by omega)⟩
theorem run_full (hs q x : List Nat) (h : q.length % 64 + x.length = 64) : run hs (q ++ x) = mix (run hs q) (rest q ++ x) ∧ rest (q ++ x) = [] := by
  have e : (q ++ x).length / 64 = q.length / 64 + 1 := by rw [List.length_append]; omega
  unfold run rest
  rw [e, runN, runN_app _ _ _ _ (by omega)]
  refine ⟨?_, List.drop_eq_nil_of_le (by rw [List.length_append]; omega)⟩
  congr 1
  unfold blk
  rw [List.drop_append_of_le_length (by omega), List.take_of_length_le (by rw [List.length_append, List.length_drop]; omega)]
theorem run_less (hs q : List Nat) (h : q.length < 64) : run hs q = hs ∧ rest q = q := by
  have e : q.length / 64 = 0 := by omega
  unfold run rest
  rw [e]
  exact ⟨rfl, rfl⟩
theorem runN_two (hs a b : List Nat) (m n : Nat) (ha : a.length = 64 * m) : runN hs (a ++ b) (m + n) = runN (runN hs a m) b n := by
  induction n with
  | zero => rw [Nat.add_zero, runN_app _ _ _ _ (by omega)]; rfl
  | succ n ih =>
    rw [← Nat.add_assoc, runN, ih, runN]
    congr 1
    unfold blk
    rw [List.drop_append, List.drop_eq_nil_of_le (by omega), List.nil_append, ha]
    congr 2
    omega
theorem run_two (hs a b : List Nat) (m : Nat) (ha : a.length = 64 * m) : run hs (a ++ b) = run (runN hs a m) b ∧ rest (a ++ b) = rest b := by
  have e : (a ++ b).length / 64 = m + b.length / 64 := by rw [List.length_append]; omega
  unfold run rest
  rw [e]
  refine ⟨runN_two _ _ _ _ _ ha, ?_⟩
  rw [List.drop_append, List.drop_eq_nil_of_le (by omega), List.nil_append]
  congr 1
  omega
/-- by pieces -/
theorem run_run (hs q x : List Nat) : run (run hs q) (rest q ++ x) = run hs (q ++ x) ∧ rest (rest q ++ x) = rest (q ++ x) := by
  have hq : q.take (64 * (q.length / 64)) ++ rest q = q := List.take_append_drop _ _
  have hl : (q.take (64 * (q.length / 64))).length = 64 * (q.length / 64) := by rw [List.length_take]; omega
  have h := run_two hs _ (rest q ++ x) _ hl
  rw [← List.append_assoc, hq] at h
  have hr : run hs q = runN hs (q.take (64 * (q.length / 64))) (q.length / 64) := by
    have := runN_app hs (q.take (64 * (q.length / 64))) (rest q) (q.length / 64) (by omega)
    rw [hq] at this
    exact this
  rw [h.1, h.2, hr]
  exact ⟨rfl, rfl⟩
theorem mix_len (hs bs : List Nat) : (mix hs bs).length = 8 := by unfold mix; exact rfl
theorem mix_lt (hs bs : List Nat) : ∀ z ∈ mix hs bs, z < 4294967296 := mixR_lt _ _
/-- eight words -/
def W8 (hs : List Nat) : Prop := hs.length = 8 ∧ ∀ z ∈ hs, z < 4294967296
theorem W8.mix (hs bs : List Nat) : W8 (mix hs bs) := ⟨mix_len _ _, mix_lt _ _⟩
theorem W8.runN {hs : List Nat} (h : W8 hs) (q : List Nat) (n : Nat) : W8 (runN hs q n) := by
  cases n with
  | zero => exact h
  | succ n => exact W8.mix _ _
theorem W8.run {hs : List Nat} (h : W8 hs) (q : List Nat) : W8 (run hs q) := h.runN _ _
theorem W8.H0 : W8 H0 := ⟨rfl, by decide⟩
/-- what stands behind n bytes of which the tail waits -/
def padded (tail : List Nat) (n : Nat) : List Nat :=
  if tail.length < 56 then tail ++ [128] ++ List.replicate (55 - tail.length) 0 ++ Numm.put (8 * n) 8
  else tail ++ [128] ++ List.replicate (119 - tail.length) 0 ++ Numm.put (8 * n) 8
def bytesOf (hs : List Nat) : List Nat := hs.flatMap fun h => Numm.put h 4
/-- the sum of a state -/
def close (hs tail : List Nat) (n : Nat) : List Nat := bytesOf (run hs (padded tail n))
/-- the sum of a list of bytes -/
def sum (p : List Nat) : List Nat := close (run H0 p) (rest p) p.length
end Go.Proofs.Ytpppffgchgcghaa.Sha
namespace Go.Proofs.Ytpppffgchgcghaa
open Go.RowKit
set_option linter.unusedVariables false
def zs64 : List Nat := List.replicate 64 0
def zs32 : List Nat := List.replicate 32 0
def zs8 : List Nat := List.replicate 8 0
theorem zs64_len : zs64.length = 64 := by simp [zs64]
theorem zs32_len : zs32.length = 32 := by simp [zs32]
/-- a block with the bytes T ahead, and 128 behind them -/
theorem set_block (T : List Nat) (h : T.length < 64) : (splice zs64 0 T).set T.length 128 = T ++ 128 :: List.replicate (63 - T.length) 0 := by
  unfold splice zs64
  rw [List.take_zero, List.nil_append, Nat.zero_add, List.drop_replicate, List.set_append_right _ _ (Nat.le_refl _), Nat.sub_self, show 64 - T.length = (63 - T.length) + 1 by omega, List.replicate_succ, List.set_cons_zero]
theorem pad_less (T : List Nat) (n : Nat) (h : T.length < 56) : splice ((splice zs64 0 T).set T.length 128) 56 (Numm.put (8 * n) 8) = Sha.padded T n := by
  rw [set_block T (by omega)]
  have hp := Numm.put_len (8 * n) 8
  unfold splice Sha.padded
  rw [if_pos h, hp, List.drop_eq_nil_of_le (by simp; omega), List.append_nil]
  congr 1
  rw [List.take_append, List.take_of_length_le (by omega)]
  obtain ⟨k, hk⟩ : ∃ k, 56 - T.length = k + 1 := ⟨55 - T.length, by omega⟩
  rw [hk, List.take_succ_cons, List.take_replicate, List.append_assoc]
  simp only [List.singleton_append]
  congr 3
  omega
theorem close_less (hs T : List Nat) (n : Nat) (h : T.length < 56) : Sha.bytesOf (Sha.mix hs (splice ((splice zs64 0 T).set T.length 128) 56 (Numm.put (8 * n) 8))) = Sha.close hs T n := by
  rw [pad_less T n h]
  unfold Sha.close
  have hl : (Sha.padded T n).length = 64 := by
    unfold Sha.padded
    rw [if_pos h]
    simp [Numm.put_len]
    omega
  have h1 := (Sha.run_full hs [] (Sha.padded T n) (by simp [hl])).1
  rw [List.nil_append, (Sha.run_less hs [] (by simp)).1, (Sha.run_less hs [] (by simp)).2, List.nil_append] at h1
  rw [h1]
theorem close_more (hs T : List Nat) (n : Nat) (h : 56 ≤ T.length) (h2 : T.length < 64) : Sha.bytesOf (Sha.mix (Sha.mix hs ((splice zs64 0 T).set T.length 128)) (splice zs64 56 (Numm.put (8 * n) 8))) = Sha.close hs T n := by
  rw [set_block T h2]
  have hp := Numm.put_len (8 * n) 8
  have e : Sha.padded T n = (T ++ 128 :: List.replicate (63 - T.length) 0) ++ splice zs64 56 (Numm.put (8 * n) 8) := by
    unfold splice Sha.padded zs64
    rw [if_neg (by omega), hp, List.drop_eq_nil_of_le (by simp), List.append_nil, show 119 - T.length = (63 - T.length) + 56 by omega, ← List.replicate_append_replicate]
    simp
  have hl1 : (T ++ 128 :: List.replicate (63 - T.length) 0).length = 64 := by simp; omega
  have hl2 : (splice zs64 56 (Numm.put (8 * n) 8)).length = 64 := by rw [length_splice _ _ _ (by rw [hp, zs64_len]; omega), zs64_len]
  unfold Sha.close
  rw [e]
  have h1 := Sha.run_full hs [] (T ++ 128 :: List.replicate (63 - T.length) 0) (by rw [hl1]; rfl)
  rw [List.nil_append, (Sha.run_less hs [] (by simp)).1, (Sha.run_less hs [] (by simp)).2, List.nil_append] at h1
  have h3 := (Sha.run_full hs (T ++ 128 :: List.replicate (63 - T.length) 0) (splice zs64 56 (Numm.put (8 * n) 8)) (by rw [hl1, hl2])).1
  rw [h1.1, h1.2, List.nil_append] at h3
  rw [h3]
end Go.Proofs.Ytpppffgchgcghaa
namespace Go.Proofs.Ytpppffgchgcghaa
open Go.RowKit
set_option linter.unusedVariables false

/-- the cells of a list of words -/
def wordsOf (ws : List Nat) : List Value := ws.map fun z : Nat => Value.int .u32 (z : Int)
theorem wordsOf_get (ws : List Nat) (i : Nat) (h : i < ws.length) : (wordsOf ws).toArray[i]? = some (.int .u32 ((ws.getD i 0 : Nat) : Int)) := by simp [wordsOf, h]
theorem wordsOf_set (ws : List Nat) (i z : Nat) : (wordsOf ws).toArray.setIfInBounds i (.int .u32 (z : Int)) = (wordsOf (ws.set i z)).toArray := by simp [wordsOf, List.map_set]
theorem wordsOf_size (ws : List Nat) : (wordsOf ws).toArray.size = ws.length := by simp [wordsOf]
/-- a row of words -/
def Wrow (w : World) (g : Nat) (t : TypeId) (ws : List Nat) : Prop := w.heap[g]? = some (.cells (wordsOf ws).toArray t (0, 0))
theorem Wrow.cell {w : World} {g : Nat} {t : TypeId} {ws : List Nat} (h : Wrow w g t ws) (j : Nat) (hj : j < ws.length) : w.cell? ⟨g, j, none⟩ = some (.int .u32 ((ws.getD j 0 : Nat) : Int)) := by
  rw [cell_of_row w g j _ t _ h, wordsOf_get _ _ hj]
theorem Wrow.frozen {w : World} {g : Nat} {t : TypeId} {ws : List Nat} (h : Wrow w g t ws) (j : Nat) : w.frozen? ⟨g, j, none⟩ = false := frozen_of_row w g j _ t h
theorem Wrow.set {w : World} {g : Nat} {t : TypeId} {ws : List Nat} (h : Wrow w g t ws) (j z : Nat) : Wrow (w.setCell ⟨g, j, none⟩ (.int .u32 (z : Int))) g t (ws.set j z) := by
  unfold Wrow
  rw [heap_setCell_same w g j _ t _ h, wordsOf_set]
def Brow (w : World) (g : Nat) (t : TypeId) (zs : List Nat) : Prop := w.heap[g]? = some (.cells (cellsOf zs).toArray t (0, 0))
theorem Brow.cell {w : World} {g : Nat} {t : TypeId} {zs : List Nat} (h : Brow w g t zs) (j : Nat) (hj : j < zs.length) : w.cell? ⟨g, j, none⟩ = some (.int .u8 ((zs.getD j 0 : Nat) : Int)) := by
  rw [cell_of_row w g j _ t _ h]
  simpa using cellsOf_get zs j hj
theorem Brow.rd {w : World} {g : Nat} {t : TypeId} {zs : List Nat} (h : Brow w g t zs) (hz : ∀ z ∈ zs, z < 256) : Rd w (some ⟨g, 0, none⟩) zs.length zs := by
  refine ⟨rfl, hz, .inr ⟨g, 0, rfl, ?_, fun i hi => ?_⟩⟩
  · exact (Array.getElem?_eq_some_iff.1 h).1
  · rw [Nat.zero_add]; exact h.cell i hi
theorem Brow.frozen {w : World} {g : Nat} {t : TypeId} {zs : List Nat} (h : Brow w g t zs) (j : Nat) : w.frozen? ⟨g, j, none⟩ = false := frozen_of_row w g j _ t h

theorem xor_lt32 {a b : Nat} (ha : a < 4294967296) (hb : b < 4294967296) : a ^^^ b < 4294967296 := Nat.xor_lt_two_pow (n := 32) ha hb
theorem sig_nat (p q r : Nat) (hp : p < 4294967296) (hq : q < 4294967296) (hr : r < 4294967296) : bits .xor .u32 (bits .xor .u32 (p : Int) (q : Int)) (r : Int) = (((p ^^^ q) ^^^ r : Nat) : Int) := by
  rw [u32_xor_nat _ _ hp hq, u32_xor_nat _ _ (xor_lt32 hp hq) hr]
theorem sig0_int (x : Nat) (hx : x < 4294967296) : bits .xor .u32 (bits .xor .u32 ((Rotm.rot x 7 : Nat) : Int) ((Rotm.rot x 18 : Nat) : Int)) ((x : Int) / 8) = ((Sha.sig0 x : Nat) : Int) := by
  rw [show (x : Int) / 8 = ((x / 8 : Nat) : Int) by omega]
  exact sig_nat _ _ _ (Rotm.rot_lt _ _) (Rotm.rot_lt _ _) (by omega)
theorem sig1_int (x : Nat) (hx : x < 4294967296) : bits .xor .u32 (bits .xor .u32 ((Rotm.rot x 17 : Nat) : Int) ((Rotm.rot x 19 : Nat) : Int)) ((x : Int) / 1024) = ((Sha.sig1 x : Nat) : Int) := by
  rw [show (x : Int) / 1024 = ((x / 1024 : Nat) : Int) by omega]
  exact sig_nat _ _ _ (Rotm.rot_lt _ _) (Rotm.rot_lt _ _) (by omega)
theorem heap_new (w : World) (o : Obj) : (w.alloc o).heap[w.heap.size]? = some o := by
  show (w.heap.push o)[w.heap.size]? = _
  simp
theorem heap_new3 (w : World) (o1 o2 o3 : Obj) : ((((w.alloc o1).alloc o2).alloc o3).heap[w.heap.size]? = some o1) ∧ ((((w.alloc o1).alloc o2).alloc o3).heap[w.heap.size + 1]? = some o2) ∧ ((((w.alloc o1).alloc o2).alloc o3).heap[w.heap.size + 1 + 1]? = some o3) := by
  refine ⟨?_, ?_, ?_⟩
  · rw [Below.heap_alloc _ _ _ (by simp; omega), Below.heap_alloc _ _ _ (by simp)]; exact heap_new w o1
  · rw [Below.heap_alloc _ _ _ (by simp)]
    have := heap_new (w.alloc o1) o2
    simpa using this
  · have := heap_new ((w.alloc o1).alloc o2) o3
    simpa using this
theorem _root_.Go.RowKit.Below.setRow {B g : Nat} {w wr : World} (h : Below B w wr) (hg : B ≤ g) (cs : Array Value) : Below B w (wr.setRow g cs) :=
  h.trans ⟨rfl, rfl, rfl, by simp, fun k hk => setRow_other wr g k cs (by omega)⟩
theorem wordsOf_one (ws : List Nat) : (wordsOf ws).toArray.all (·.oneCell') = true := by
  refine Array.all_eq_true_iff_forall_mem.2 fun v hv => ?_
  simp only [wordsOf, List.mem_toArray, List.mem_map] at hv
  obtain ⟨z, _, rfl⟩ := hv
  rfl

end Go.Proofs.Ytpppffgchgcghaa
namespace Go.Proofs.Ytpppffgchgcghaa
open Go.RowKit
set_option linter.unusedVariables false

/-- all blocks but g are as they were -/
structure Only (g : Nat) (w w' : World) : Prop where
  os : w'.os = w.os
  tape : w'.tape = w.tape
  output : w'.output = w.output
  size : w.heap.size ≤ w'.heap.size
  block : ∀ k, k < w.heap.size → k ≠ g → w'.heap[k]? = w.heap[k]?
theorem Only.refl (g : Nat) (w : World) : Only g w w := ⟨rfl, rfl, rfl, Nat.le_refl _, fun _ _ _ => rfl⟩
theorem Only.trans {g : Nat} {a b c : World} (h : Only g a b) (k : Only g b c) : Only g a c :=
  ⟨k.os.trans h.os, k.tape.trans h.tape, k.output.trans h.output, Nat.le_trans h.size k.size, fun i hi hg => (k.block i (Nat.lt_of_lt_of_le hi h.size) hg).trans (h.block i hi hg)⟩
theorem Only.below {g B : Nat} {w w' : World} (h : Only g w w') (hB : B ≤ g) (hB2 : B ≤ w.heap.size) : Below B w w' :=
  ⟨h.os, h.tape, h.output, h.size, fun k hk => h.block k (by omega) (by omega)⟩
theorem Only.of {g : Nat} {w w' : World} (h : Below w.heap.size w w') : Only g w w' :=
  ⟨h.os, h.tape, h.output, h.size, fun k hk _ => h.block k hk⟩
theorem Only.setCell {g : Nat} {a w : World} (h : Only g a w) (o : Nat) (u : Value) : Only g a (w.setCell ⟨g, o, none⟩ u) :=
  ⟨h.os, h.tape, h.output, by simp [h.size], fun k hk hg => (Below.heap_setCell _ _ _ _ hg).trans (h.block k hk hg)⟩
theorem Only.drewN {g : Nat} {a w : World} (h : Only g a w) (n : Nat) : Only g a (w.drewN n) := ⟨h.os, h.tape, h.output, h.size, h.block⟩
theorem Only.drew {g : Nat} {a w : World} (h : Only g a w) : Only g a w.drew := ⟨h.os, h.tape, h.output, h.size, h.block⟩
theorem Only.setCells {g : Nat} : ∀ (vs : List Value) (o : Nat) {a w : World} (_ : Only g a w), Only g a (w.setCells g o vs)
  | [], _, _, _, h => h
  | v :: r, o, a, w, h => by rw [World.setCells]; exact Only.setCells r (o + 1) (h.setCell o v)
theorem Only.rd {g : Nat} {w w' : World} (h : Only g w w') {a : Option Addr} {len : Nat} {zs : List Nat} (hr : Rd w a len zs) (hg : ∀ b off, a = some ⟨b, off, none⟩ → b ≠ g) : Rd w' a len zs := by
  obtain ⟨h1, h2, h3⟩ := hr
  refine ⟨h1, h2, ?_⟩
  rcases h3 with h0 | ⟨b, off, ha, hlt, hc⟩
  · exact .inl h0
  · exact .inr ⟨b, off, ha, Nat.lt_of_lt_of_le hlt h.size, fun i hi => (World.cell?_of_block (w := w) (a := ⟨b, off + i, none⟩) (h.block b hlt (hg b off ha))).trans (hc i hi)⟩

/-- the cells of a state -/
def stCells (hs bs : List Nat) (n : Nat) : List Value := wordsOf hs ++ (cellsOf bs ++ [Value.int .i64 (n : Int)])
theorem wordsOf_length (ws : List Nat) : (wordsOf ws).length = ws.length := by simp [wordsOf]
theorem stCells_len {hs bs : List Nat} {n : Nat} (h : hs.length = 8) (hb : bs.length = 64) : (stCells hs bs n).length = 73 := by
  simp [stCells, wordsOf_length, cellsOf_length, h, hb]
theorem setCells_row (g : Nat) (t : TypeId) : ∀ (vs : List Value) (o : Nat) (cur : List Value) (w : World), w.heap[g]? = some (.cells cur.toArray t (0, 0)) → o + vs.length ≤ cur.length →
    (w.setCells g o vs).heap[g]? = some (.cells (splice cur o vs).toArray t (0, 0))
  | [], o, cur, w, hg, hl => by simpa [World.setCells, splice] using hg
  | v :: r, o, cur, w, hg, hl => by
    rw [World.setCells]
    have h1 := heap_setCell_same w g o _ _ v hg
    rw [List.setIfInBounds_toArray] at h1
    rw [setCells_row g t r (o + 1) (cur.set o v) _ h1 (by simp at hl ⊢; omega)]
    congr 2
    have := list_seg_step cur o v r (by simp at hl; omega)
    unfold splice
    simp only [List.append_assoc] at this
    rw [this]
    simp only [List.cons_append, List.length_cons]
theorem cellsOf_splice (bs xs : List Nat) (k : Nat) : cellsOf (splice bs k xs) = splice (cellsOf bs) k (cellsOf xs) := by
  simp [splice, cellsOf, List.map_take, List.map_drop]
theorem splice_mem {bs xs : List Nat} {k : Nat} (hb : ∀ z ∈ bs, z < 256) (hx : ∀ z ∈ xs, z < 256) : ∀ z ∈ splice bs k xs, z < 256 := by
  intro z hz
  simp only [splice, List.mem_append] at hz
  rcases hz with h | h | h
  · exact hb z (List.mem_of_mem_take h)
  · exact hx z h
  · exact hb z (List.mem_of_mem_drop h)
end Go.Proofs.Ytpppffgchgcghaa
namespace Go.Proofs.Ytpppffgchgcghaa
open Go.RowKit

/-- the table of the rounds' constants, as the program's text lays it -/
def Tab (w : World) : Prop := ∀ i, i < 64 → w.cell? ⟨0, i, none⟩ = some (.int .u32 ((Sha.K.getD i 0 : Nat) : Int))
theorem Tab.pos {w : World} (h : Tab w) : 0 < w.heap.size := by
  have := h 0 (by omega)
  cases hs : w.heap[0]? with
  | none => simp [World.cell?, hs] at this
  | some o => exact (Array.getElem?_eq_some_iff.1 hs).1
theorem Tab.below {B : Nat} {w w' : World} (h : Tab w) (hb : Below B w w') (hB : 0 < B) : Tab w' := fun i hi => (hb.cell (p := ⟨0, i, none⟩) hB).trans (h i hi)
theorem Tab.drewN {w : World} (h : Tab w) (n : Nat) : Tab (w.drewN n) := h
theorem Wrow.below {B g : Nat} {w w' : World} {t : TypeId} {ws : List Nat} (h : Wrow w g t ws) (hb : Below B w w') (hg : g < B) : Wrow w' g t ws := (hb.block g hg).trans h
theorem Brow.below {B g : Nat} {w w' : World} {t : TypeId} {ws : List Nat} (h : Brow w g t ws) (hb : Below B w w') (hg : g < B) : Brow w' g t ws := (hb.block g hg).trans h
theorem cellsOf_size (zs : List Nat) : (cellsOf zs).toArray.size = zs.length := by simp [cellsOf]
theorem gen_world {P : Program} {ops : Array Oper} {Q : Exit → Act → World → Prop} {rest : List Oper} {a : Act} {W : World} {F : World → Prop} (h : F W) (k : ∀ w, F w → wpList P ops Q rest a w) : wpList P ops Q rest a W := k W h
theorem and_lt32 {a b : Nat} (hb : b < 4294967296) : a &&& b < 4294967296 := Nat.and_lt_two_pow (n := 32) a hb
theorem s1_int (e : Nat) : bits .xor .u32 (bits .xor .u32 ((Rotm.rot e 6 : Nat) : Int) ((Rotm.rot e 11 : Nat) : Int)) ((Rotm.rot e 25 : Nat) : Int) = ((Sha.S1 e : Nat) : Int) := sig_nat _ _ _ (Rotm.rot_lt _ _) (Rotm.rot_lt _ _) (Rotm.rot_lt _ _)
theorem s0_int (a : Nat) : bits .xor .u32 (bits .xor .u32 ((Rotm.rot a 2 : Nat) : Int) ((Rotm.rot a 13 : Nat) : Int)) ((Rotm.rot a 22 : Nat) : Int) = ((Sha.S0 a : Nat) : Int) := sig_nat _ _ _ (Rotm.rot_lt _ _) (Rotm.rot_lt _ _) (Rotm.rot_lt _ _)
theorem not_nat (e : Nat) (he : e < 4294967296) : bits .xor .u32 (if IntKind.u32.signed = true then -1 else IntKind.u32.max) (e : Int) = ((4294967295 - e : Nat) : Int) := by
  rw [show (if IntKind.u32.signed = true then (-1 : Int) else IntKind.u32.max) = ((4294967295 : Nat) : Int) by decide, u32_xor_nat _ _ (by omega) he]
  congr 1
  apply Nat.eq_of_testBit_eq
  intro i
  rw [Nat.testBit_xor, show 4294967295 - e = 2 ^ 32 - (e + 1) by omega, Nat.testBit_two_pow_sub_succ (n := 32) (x := e) (by omega), show (4294967295 : Nat) = 2 ^ 32 - 1 by rfl, Nat.testBit_two_pow_sub_one]
  by_cases hi : i < 32
  · simp [hi]
  · have h32 : 2 ^ 32 ≤ 2 ^ i := Nat.pow_le_pow_right (by omega) (by omega)
    have : e.testBit i = false := Nat.testBit_lt_two_pow (Nat.lt_of_lt_of_le he h32)
    simp [hi, this]
theorem ch_int (e f g : Nat) (he : e < 4294967296) (hf : f < 4294967296) (hg : g < 4294967296) :
    bits .xor .u32 (bits .and .u32 (e : Int) (f : Int)) (bits .and .u32 (bits .xor .u32 (if IntKind.u32.signed = true then -1 else IntKind.u32.max) (e : Int)) (g : Int)) = ((Sha.ch e f g : Nat) : Int) := by
  rw [not_nat e he, u32_and_nat _ _ he hf, u32_and_nat _ _ (by omega) hg, u32_xor_nat _ _ (and_lt32 hf) (and_lt32 hg)]
  rfl
theorem mj_int (a b c : Nat) (ha : a < 4294967296) (hb : b < 4294967296) (hc : c < 4294967296) :
    bits .xor .u32 (bits .xor .u32 (bits .and .u32 (a : Int) (b : Int)) (bits .and .u32 (a : Int) (c : Int))) (bits .and .u32 (b : Int) (c : Int)) = ((Sha.mj a b c : Nat) : Int) := by
  rw [u32_and_nat _ _ ha hb, u32_and_nat _ _ ha hc, u32_and_nat _ _ hb hc, u32_xor_nat _ _ (and_lt32 hb) (and_lt32 hc), u32_xor_nat _ _ (xor_lt32 (and_lt32 hb) (and_lt32 hc)) (and_lt32 hc)]
  rfl
theorem u32_eq {x y : Int} (h : x = y) : Value.int .u32 x = .int .u32 y := by rw [h]
theorem tx_val (a b c d e f g h kk wk : Nat) :
    Value.int .u32 ((((h : Int) + ((Sha.S1 e : Nat) : Int) + ((Sha.ch e f g : Nat) : Int) + (kk : Int)) % 4294967296 + (wk : Int)) % 4294967296) = .int .u32 ((Sha.tx ⟨a, b, c, d, e, f, g, h⟩ kk wk : Nat) : Int) := by
  refine u32_eq ?_
  unfold Sha.tx Sha.add
  generalize Sha.S1 e = s
  generalize Sha.ch e f g = t
  dsimp only
  omega
theorem ty_val (a b c d e f g h : Nat) :
    Value.int .u32 ((((Sha.S0 a : Nat) : Int) + ((Sha.mj a b c : Nat) : Int)) % 4294967296) = .int .u32 ((Sha.ty ⟨a, b, c, d, e, f, g, h⟩ : Nat) : Int) := by
  refine u32_eq ?_
  unfold Sha.ty Sha.add
  dsimp only
  omega
theorem add_val (a b : Nat) : Value.int .u32 (((a : Int) + (b : Int)) % 4294967296) = .int .u32 ((Sha.add a b : Nat) : Int) := by
  refine u32_eq ?_
  unfold Sha.add
  omega
theorem ty_facts (a b c d e f g h : Nat) (ha : a < 4294967296) (hb : b < 4294967296) (hc : c < 4294967296) : ∃ y1 y3 y4 y5 y6 s0 m t : Nat,
    bits .xor .u32 ((Rotm.rot a 2 : Nat) : Int) ((Rotm.rot a 13 : Nat) : Int) = (y1 : Int) ∧ bits .xor .u32 (y1 : Int) ((Rotm.rot a 22 : Nat) : Int) = (s0 : Int) ∧
    bits .and .u32 (a : Int) (b : Int) = (y3 : Int) ∧ bits .and .u32 (a : Int) (c : Int) = (y4 : Int) ∧ bits .xor .u32 (y3 : Int) (y4 : Int) = (y5 : Int) ∧
    bits .and .u32 (b : Int) (c : Int) = (y6 : Int) ∧ bits .xor .u32 (y5 : Int) (y6 : Int) = (m : Int) ∧ ((s0 : Int) + (m : Int)) % 4294967296 = (t : Int) ∧ t = Sha.ty ⟨a, b, c, d, e, f, g, h⟩ := by
  refine ⟨_, _, _, _, _, _, _, _, u32_xor_nat _ _ (Rotm.rot_lt _ _) (Rotm.rot_lt _ _), u32_xor_nat _ _ (xor_lt32 (Rotm.rot_lt _ _) (Rotm.rot_lt _ _)) (Rotm.rot_lt _ _), u32_and_nat _ _ ha hb, u32_and_nat _ _ ha hc,
    u32_xor_nat _ _ (and_lt32 hb) (and_lt32 hc), u32_and_nat _ _ hb hc, u32_xor_nat _ _ (xor_lt32 (and_lt32 hb) (and_lt32 hc)) (and_lt32 hc), ?_, rfl⟩
  unfold Sha.ty Sha.add
  dsimp only [Sha.S0, Sha.mj]
  omega
theorem mix_cells (x0 x1 x2 x3 x4 x5 x6 x7 : Nat) (bs ws : List Nat) (r : Sha.R8) (hws : ws = Sha.sch bs 64) (hr : r = Sha.rnds (Sha.r8 [x0, x1, x2, x3, x4, x5, x6, x7]) ws 64) :
    wordsOf (Sha.mix [x0, x1, x2, x3, x4, x5, x6, x7] bs) = [.int .u32 ((Sha.add x0 r.a : Nat) : Int), .int .u32 ((Sha.add x1 r.b : Nat) : Int), .int .u32 ((Sha.add x2 r.c : Nat) : Int), .int .u32 ((Sha.add x3 r.d : Nat) : Int),
      .int .u32 ((Sha.add x4 r.e : Nat) : Int), .int .u32 ((Sha.add x5 r.f : Nat) : Int), .int .u32 ((Sha.add x6 r.g : Nat) : Int), .int .u32 ((Sha.add x7 r.h : Nat) : Int)] := by
  unfold Sha.mix
  rw [← hws, ← hr]
  rfl
end Go.Proofs.Ytpppffgchgcghaa
namespace Go.Proofs.Ytpppffgchgcghaa
open Go.RowKit
set_option linter.unusedVariables false

theorem Own.keep {w w' : World} {B : Nat} {v : Value} {zs : List Nat} (h : Own w B v zs) (hb : Below w.heap.size w w') : Own w' B v zs := by
  refine ⟨h.1, ?_⟩
  rcases h.2 with h0 | ⟨g, cap, cur, h1, h2, h3, h4⟩
  · exact .inl h0
  · exact .inr ⟨g, cap, cur, h1, h2, (hb.block g (Array.getElem?_eq_some_iff.1 h3).1).trans h3, h4⟩
theorem and63 (n : Nat) (hn : n ≤ 2305843009213693951) : bits .and .i64 (n : Int) 63 = ((n % 64 : Nat) : Int) := by
  show IntKind.i64.wrap ((BitVec.ofInt 64 n &&& BitVec.ofInt 64 63).toNat : Int) = _
  have h : (BitVec.ofInt 64 n &&& BitVec.ofInt 64 63).toNat = (BitVec.ofInt 64 n).toNat % 64 := by
    rw [BitVec.toNat_and, show (BitVec.ofInt 64 63).toNat = 2 ^ 6 - 1 by rfl, Nat.and_two_pow_sub_one_eq_mod]
  have h2 : ((BitVec.ofInt 64 (n : Int)).toNat : Int) = n := by
    rw [BitVec.toNat_ofInt]
    omega
  rw [h]
  have : IntKind.i64.wrap (((BitVec.ofInt 64 (n : Int)).toNat % 64 : Nat) : Int) = (((BitVec.ofInt 64 (n : Int)).toNat % 64 : Nat) : Int) := by
    simp [IntKind.wrap, IntKind.bits, IntKind.signed]
    omega
  rw [this]
  omega
theorem run_index_words (ws : List Nat) (k : Nat) (hk : k < ws.length) (ty n : Nat) (hu : Try.prog.underlying ty = some (.array n 105)) (hn : ws.length = n) (W : World) :
    (Instr.index ty (.agg (wordsOf ws).toArray) (.int .i64 (k : Int))).run Try.prog W = .ok (.int .u32 ((ws.getD k 0 : Nat) : Int)) W := by
  have h1 := wordsOf_get ws k hk
  simp [Instr.index, run_underlying hu, asIntOf, go_sem]
  rw [List.getElem?_toArray] at h1
  rw [if_pos (by omega), h1]
  simp
theorem bytesOf_snoc (hs : List Nat) (k : Nat) (h : k < hs.length) : Sha.bytesOf (hs.take (k + 1)) = Sha.bytesOf (hs.take k) ++ Numm.put hs[k] 4 := by
  unfold Sha.bytesOf
  rw [take_snoc _ _ h, List.flatMap_append]
  simp
theorem bytesOf_len (hs : List Nat) : (Sha.bytesOf hs).length = 4 * hs.length := by
  induction hs with
  | nil => rfl
  | cons h hs ih => simp only [Sha.bytesOf, List.flatMap_cons, List.length_append, Numm.put_len, List.length_cons] at *; omega
end Go.Proofs.Ytpppffgchgcghaa
namespace Go.Proofs.Ytpppffgchgcghaa
open Go.RowKit
set_option linter.unusedVariables false

theorem Only.setRow {g : Nat} {a w : World} (h : Only g a w) (cs : Array Value) : Only g a (w.setRow g cs) :=
  ⟨h.os, h.tape, h.output, by simp [h.size], fun k hk hg => (setRow_other w g k cs hg).trans (h.block k hk hg)⟩
/-- the block that an address lies in -/
def blkOf (a : Option Addr) : Option Nat := a.map (·.block)
theorem Only.rd' {g : Nat} {w w' : World} (h : Only g w w') {a : Option Addr} {len : Nat} {zs : List Nat} (hr : Rd w a len zs) (hg : 0 < len → blkOf a ≠ some g) : Rd w' a len zs := by
  by_cases h0 : 0 < len
  · exact h.rd hr fun b off hb => by
      have := hg h0
      rw [hb] at this
      simpa [blkOf] using this
  · exact ⟨hr.1, hr.2.1, .inl (by omega)⟩
theorem Rd.blk {w : World} {a : Option Addr} {len : Nat} {zs : List Nat} (hr : Rd w a len zs) (g : Nat) (hg : w.heap.size ≤ g) : 0 < len → blkOf a ≠ some g := by
  intro h0
  rcases hr.2.2 with h | ⟨b, off, rfl, hb, _⟩
  · omega
  · simp [blkOf]; omega
/-- copy(d, s) into a row -/
theorem wpList_copy_only {P : Program} {w : World} {ops : Array Oper} {rest : List Oper} {o : Oper} {a : Act} {Q : Exit → Act → World → Prop} (hgd : o.guard = none) (d s : Operand) (dT sT : TypeId)
    (ho : o.op = .call { callee := .builtin .copy, args := #[d, s], argTypes := #[dT, sT] }) (elem : TypeId) (hu : P.underlying dT = some (.slice elem)) (hsz : (P.info? elem).map (·.size) = some 1)
    (dp sp : Option Addr) (dLen dCap sLen sCap : Nat) (hd : a.eval d = .slice dp dLen dCap) (hs : a.eval s = .slice sp sLen sCap)
    (g off : Nat) (cur : List Value) (t : TypeId) (hg : w.heap[g]? = some (.cells cur.toArray t (0, 0))) (cs : List Value) (hn : cs.length = Nat.min sLen dLen)
    (hpos : 0 < cs.length → dp = some ⟨g, off, none⟩ ∧ ∃ ad, sp = some ad ∧ ∀ j v, cs[j]? = some v → w.cell? (ad.add j) = some v)
    (hfit : off + cs.length ≤ cur.length) (h1 : ∀ v ∈ cs, v.oneCell' = true)
    (h : ∀ w', Hid (w'.heap[g]? = some (.cells (splice cur off cs).toArray t (0, 0))) → Only g w w' → wpList P ops Q rest (a.put o.dst (.int .i64 (cs.length : Int))) w') :
    wpList P ops Q (o :: rest) a w := by
  by_cases h0 : cs.length = 0
  · obtain rfl : cs = [] := List.eq_nil_of_length_eq_zero h0
    refine wpList_copy_nothing hgd d s dT sT ho elem hu hsz dp sp dLen dCap sLen sCap hd hs (by simpa using hn.symm) ?_
    exact h w (show _ = _ by simpa [splice] using hg) (Only.refl _ _)
  · obtain ⟨rfl, ad, rfl, hsrc⟩ := hpos (by omega)
    refine wpList_copy_own hgd d s dT sT ho elem hu hsz g off dLen dCap ad sLen sCap hd hs cur.toArray t hg cs hn hsrc (by simpa using hfit) h1 ?_
    exact h _ (show _ = _ by simpa [splice] using setRow_heap w g _ _ t _ hg) ((Only.refl _ _).setRow _)
/-- what is read, cell by cell -/
theorem Rd.src {w : World} {a : Option Addr} {len : Nat} {zs : List Nat} (h : Rd w a len zs) (m : Nat) (hm : m ≤ len) (h0 : 0 < (cellsOf (zs.take m)).length) :
    ∃ ad, a = some ad ∧ ∀ j v, (cellsOf (zs.take m))[j]? = some v → w.cell? (ad.add j) = some v := by
  obtain ⟨h1, h2, h3⟩ := h
  rw [cellsOf_length, List.length_take] at h0
  rcases h3 with h3 | ⟨b, off, rfl, hb, hcell⟩
  · omega
  · refine ⟨_, rfl, fun j v hv => ?_⟩
    have hj : j < m := by
      have := (List.getElem?_eq_some_iff.1 hv).1
      rw [cellsOf_length, List.length_take] at this
      omega
    rw [cellsOf_get _ _ (by rw [List.length_take]; omega)] at hv
    cases hv
    rw [Addr.add_mid, hcell j (by omega)]
    simp [hj]
/-- a load as a still step -/
theorem wpStill_load {P : Program} {ops : Array Oper} {w : World} {Q : Act → Prop} {rest : List Oper} {o : Oper} {a : Act} (hgd : o.guard = none) (ty : TypeId) (x : Operand) (ho : o.op = .load ty x)
    (p : Value) (hx : a.eval x = p) (v : Value) (hrun : (Instr.loadAt ty p).run P w = .ok v w) (h : wpStill P ops w Q rest (a.put o.dst v)) : wpStill P ops w Q (o :: rest) a := by
  have hw : Region.wanted o (yielded ops a.tmps) = true := by simp [Region.wanted, hgd]
  subst hx
  unfold wpStill
  rw [if_pos hw]
  unfold Oper.still execOp
  simp only [ho, hrun, Sem.run_bind, Result.andThen_ok, Sem.run_pure]
  exact ⟨rfl, h⟩
theorem u8size : (Try.prog.info? 5).map (·.size) = some 1 := by kernel_rfl
/-- where the bytes from m on lie -/
def sla (a : Option Addr) (cap m : Nat) : Option Addr := if cap = m then a else a.map (·.add m)
theorem sizeOf_u8 (W : World) : (Go.sizeOf 5).run Try.prog W = .ok 1 W := by
  obtain ⟨i0, hi, hz0, hz1, hz2⟩ := info_parts byteInfo
  simp [Go.sizeOf, typeInfo, hi, hz1]
theorem elem_bytes : Try.prog.elem 33 = 5 := by kernel_rfl
theorem und_bytes : Try.prog.underlying 33 = some (.slice (Try.prog.elem 33)) := by rw [elem_bytes]; exact Try.underlying33
/-- p[m:] -/
theorem run_cut (W : World) (a : Option Addr) (len cap m : Nat) (h : m ≤ len) :
    (Instr.slice 33 (.slice a len cap) (some (.int .i64 (m : Int))) none none).run Try.prog W = .ok (.slice (sla a cap m) (len - m) (cap - m)) W := by
  rw [run_slice_l W _ a len cap und_bytes .i64 (m : Int) (by omega) (by omega), elem_bytes, sizeOf_u8]
  simp [Result.andThen, sliced, sla]
theorem run_cutAt (W : World) (a : Option Addr) (len cap m : Nat) (h : m ≤ len) :
    (Instr.sliceAt 33 (.slice a len cap) (some (.int .i64 (m : Int))) none none).run Try.prog W = .ok (.slice (sla a cap m) (len - m) (cap - m)) W := by
  rw [run_sliceAt_slice W _ _ _ _ _ und_bytes]
  exact run_cut W a len cap m h
theorem add_zero' (a : Option Addr) : a.map (·.add 0) = a := by
  cases a with
  | none => rfl
  | some a => obtain ⟨b, o, s⟩ := a; cases s <;> simp [Addr.add]
/-- p[:m] -/
theorem run_head (W : World) (a : Option Addr) (len cap m : Nat) (h : m ≤ cap) :
    (Instr.slice 33 (.slice a len cap) none (some (.int .i64 (m : Int))) none).run Try.prog W = .ok (.slice a m cap) W := by
  rw [run_slice_h W _ a len cap und_bytes .i64 (m : Int) (by omega) (by omega), elem_bytes, sizeOf_u8]
  simp [Result.andThen, sliced, add_zero']
theorem run_headAt (W : World) (a : Option Addr) (len cap m : Nat) (h : m ≤ cap) :
    (Instr.sliceAt 33 (.slice a len cap) none (some (.int .i64 (m : Int))) none).run Try.prog W = .ok (.slice a m cap) W := by
  rw [run_sliceAt_slice W _ _ _ _ _ und_bytes]
  exact run_head W a len cap m h
/-- p[l:m] -/
theorem run_midAt (W : World) (a : Option Addr) (len cap l m : Nat) (h0 : l ≤ m) (h : m ≤ cap) :
    (Instr.sliceAt 33 (.slice a len cap) (some (.int .i64 (l : Int))) (some (.int .i64 (m : Int))) none).run Try.prog W = .ok (.slice (sla a cap l) (m - l) (cap - l)) W := by
  rw [run_sliceAt_slice W _ _ _ _ _ und_bytes, run_slice_lh W _ a len cap und_bytes .i64 .i64 (l : Int) (m : Int) (by omega) (by omega) (by omega), elem_bytes, sizeOf_u8]
  simp [Result.andThen, sliced, sla]
theorem sla_none (a : Option Addr) (cap m : Nat) (h : sla a cap m = none) : a = none := by
  unfold sla at h
  split at h
  · exact h
  · cases a <;> simp_all
theorem Rd.cut {w : World} {a : Option Addr} {len : Nat} {zs : List Nat} (h : Rd w a len zs) (cap m : Nat) (hm : m ≤ len) (hc : len ≤ cap) : Rd w (sla a cap m) (len - m) (zs.drop m) := by
  by_cases h0 : len - m = 0
  · exact ⟨by rw [List.length_drop, h.1], fun z hz => h.2.1 z (List.mem_of_mem_drop hz), .inl h0⟩
  · obtain ⟨h1, h2, h3⟩ := h
    rcases h3 with h3 | ⟨b, off, rfl, hb, hcell⟩
    · omega
    · have e : sla (some ⟨b, off, none⟩) cap m = some ⟨b, off + m, none⟩ := by
        unfold sla
        rw [if_neg (by omega)]
        simp [Addr.add]
      rw [e]
      exact Rd.drop ⟨h1, h2, .inr ⟨b, off, rfl, hb, hcell⟩⟩ m
theorem sla_blk (a : Option Addr) (cap m : Nat) : blkOf (sla a cap m) = blkOf a := by
  unfold sla
  split
  · rfl
  · cases a with
    | none => rfl
    | some a => obtain ⟨b, o, s⟩ := a; cases s <;> simp [blkOf, Addr.add] <;> split <;> rfl
theorem len_dig : Try.prog.arrayLen 42 = 32 := by kernel_rfl
theorem elem_dig : Try.prog.elem 42 = 5 := by kernel_rfl
theorem und_dig : Try.prog.underlying 42 = some (.array (Try.prog.arrayLen 42) (Try.prog.elem 42)) := by rw [elem_dig, len_dig]; exact Try.underlying42
theorem run_digAll (W : World) (g o : Nat) :
    (Instr.sliceAt 42 (.pointer (some ⟨g, o, none⟩)) none none none).run Try.prog W = .ok (.slice (some ⟨g, o, none⟩) 32 32) W := by
  rw [run_sliceAt_array_all W _ _ und_dig, elem_dig, sizeOf_u8, len_dig]
  simp [Result.andThen, slicedAt, Addr.add]
end Go.Proofs.Ytpppffgchgcghaa
namespace Go.Proofs.Ytpppffgchgcghaa
open Go.RowKit
set_option linter.unusedVariables false
section
variable {P : Program} {ops : Array Oper} {Q : Exit → Act → World → Prop} {md : Region.Mode}
/-- a copy alone may come up -/
theorem any_copy (i : Nat) {dst : Option Tmp} {d s : Operand} {dT sT : TypeId} {fuel : Nat} {listed : Array Bool} {a : Act} {w : World}
    (h0 : Region.ready md ops listed = [i]) (hi : (ops[i]?.map fun o => (o.dst, o.op, o.guard)) = some (dst, Op.call { callee := .builtin .copy, args := #[d, s], argTypes := #[dT, sT] }, none))
    (elem : TypeId) (hu : P.underlying dT = some (.slice elem)) (hsz : (P.info? elem).map (·.size) = some 1)
    (dp sp : Option Addr) (dLen dCap sLen sCap : Nat) (hd : a.eval d = .slice dp dLen dCap) (hs : a.eval s = .slice sp sLen sCap)
    (g off : Nat) (cur : List Value) (t : TypeId) (hg : w.heap[g]? = some (.cells cur.toArray t (0, 0))) (cs : List Value) (hn : cs.length = Nat.min sLen dLen)
    (hpos : 0 < cs.length → dp = some ⟨g, off, none⟩ ∧ ∃ ad, sp = some ad ∧ ∀ j v, cs[j]? = some v → w.cell? (ad.add j) = some v)
    (hfit : off + cs.length ≤ cur.length) (h1 : ∀ v ∈ cs, v.oneCell' = true)
    (h : ∀ w', Hid (w'.heap[g]? = some (.cells (splice cur off cs).toArray t (0, 0))) → Only g w w' → wpAny P md ops Q fuel (listed.setIfInBounds i true) (a.put dst (.int .i64 (cs.length : Int))) w') :
    wpAny P md ops Q (fuel + 1) listed a w := by
  refine wpAny_all h0 (by simp) ?_
  intro k hk
  simp only [List.mem_cons, List.not_mem_nil, or_false] at hk
  subst hk
  cases ho : ops[k]? with
  | none => simp [ho] at hi
  | some o =>
    simp only [ho, Option.map_some, Option.some.injEq, Prod.mk.injEq] at hi
    obtain ⟨g1, g2, g3⟩ := hi
    unfold wpOp
    simp only [ho, wanted_plain g3, if_true]
    refine .inl ?_
    by_cases h0 : cs.length = 0
    · obtain rfl : cs = [] := List.eq_nil_of_length_eq_zero h0
      have hrun := run_copy_none (P := P) w dT sT o.type elem dp sp dLen dCap sLen sCap hu hsz (by simpa using hn.symm)
      have := h w (show _ = _ by simpa [splice] using hg) (Only.refl _ _)
      unfold Oper.wp
      simp [execOp, g2, resolve, invoke, builtin, hd, hs, hrun, Result.andThen]
      show wpAny P md ops Q fuel _ (a.put o.dst (goInt 0)) w
      rw [g1]
      exact this
    · obtain ⟨rfl, ad, rfl, hsrc⟩ := hpos (by omega)
      have hrun := run_copy_row (P := P) w dT sT o.type elem g off dLen dCap ad sLen sCap cur.toArray t cs hu hsz hg hn hsrc (by simpa using hfit) h1
      have := h _ (show _ = _ by simpa [splice] using setRow_heap w g _ _ t _ hg) ((Only.refl g w).setRow _)
      unfold Oper.wp
      simp [execOp, g2, resolve, invoke, builtin, hd, hs, hrun, Result.andThen]
      show wpAny P md ops Q fuel _ (a.put o.dst (goInt cs.length)) _
      rw [g1]
      simpa [splice, goInt] using this
/-- one operation alone may come up, that yields here -/
theorem any_one (i : Nat) {d : Nat} {op : Op} (v : Value) {fuel : Nat} {listed : Array Bool} {a : Act} {w : World}
    (h0 : Region.ready md ops listed = [i]) (hi : (ops[i]?.map fun o => (o.dst, o.op, o.guard)) = some (some d, op, none)) (hy : ∀ o : Oper, o.op = op → (execOp a.eval o).run P w = .ok (.value v) w)
    (h : wpAny P md ops Q fuel (listed.setIfInBounds i true) (a.put (some d) v) w) : wpAny P md ops Q (fuel + 1) listed a w := by
  refine wpAny_all h0 (by simp) ?_
  intro k hk
  simp only [List.mem_cons, List.not_mem_nil, or_false] at hk
  subst hk
  cases ho : ops[k]? with
  | none => simp [ho] at hi
  | some o =>
    simp only [ho, Option.map_some, Option.some.injEq, Prod.mk.injEq] at hi
    obtain ⟨g1, g2, g3⟩ := hi
    unfold wpOp
    simp only [ho, wanted_plain g3, if_true]
    refine .inl ?_
    unfold Oper.wp
    rw [hy o g2, Oper.upon_value, g1]
    exact h
end
/-- a row of bytes, written -/
theorem Brow.set {w : World} {g : Nat} {t : TypeId} {zs : List Nat} (h : Brow w g t zs) (j z : Nat) : Brow (w.setCell ⟨g, j, none⟩ (.int .u8 (z : Int))) g t (zs.set j z) := by
  unfold Brow
  rw [heap_setCell_same w g j _ t _ h]
  congr 2
  simp [cellsOf, List.map_set]
theorem Brow.only {g' g : Nat} {w w' : World} {t : TypeId} {zs : List Nat} (h : Brow w g t zs) (hb : Only g' w w') (hg : g ≠ g') : Brow w' g t zs := (hb.block g (Array.getElem?_eq_some_iff.1 h).1 hg).trans h
theorem Wrow.only {g' g : Nat} {w w' : World} {t : TypeId} {zs : List Nat} (h : Wrow w g t zs) (hb : Only g' w w') (hg : g ≠ g') : Wrow w' g t zs := (hb.block g (Array.getElem?_eq_some_iff.1 h).1 hg).trans h
theorem Brow.drew {w : World} {g : Nat} {t : TypeId} {zs : List Nat} (h : Brow w g t zs) : Brow w.drew g t zs := h
theorem Wrow.drew {w : World} {g : Nat} {t : TypeId} {zs : List Nat} (h : Wrow w g t zs) : Wrow w.drew g t zs := h
theorem Brow.lt {w : World} {g : Nat} {t : TypeId} {zs : List Nat} (h : Brow w g t zs) : g < w.heap.size := (Array.getElem?_eq_some_iff.1 h).1
theorem Wrow.lt {w : World} {g : Nat} {t : TypeId} {zs : List Nat} (h : Wrow w g t zs) : g < w.heap.size := (Array.getElem?_eq_some_iff.1 h).1
theorem Brow.copied {w' : World} {g : Nat} {t : TypeId} {zs xs : List Nat} {k : Nat} (h : Hid (w'.heap[g]? = some (.cells (splice (cellsOf zs) k (cellsOf xs)).toArray t (0, 0)))) : Brow w' g t (splice zs k xs) := by
  have h1 := h.out
  rw [← cellsOf_splice] at h1
  exact h1
theorem Brow.new (w : World) (t : TypeId) (zs : List Nat) : Brow (w.alloc (.cells (cellsOf zs).toArray t)) w.heap.size t zs := heap_new _ _
theorem Wrow.new (w : World) (t : TypeId) (zs : List Nat) : Wrow (w.alloc (.cells (wordsOf zs).toArray t)) w.heap.size t zs := heap_new _ _
theorem Brow.setRow {w : World} {g : Nat} {t : TypeId} {zs ys : List Nat} (h : Brow w g t zs) : Brow (w.setRow g (cellsOf ys).toArray) g t ys := setRow_heap _ _ _ _ _ _ h
theorem Wrow.setRow {w : World} {g : Nat} {t : TypeId} {zs ys : List Nat} (h : Wrow w g t zs) : Wrow (w.setRow g (wordsOf ys).toArray) g t ys := setRow_heap _ _ _ _ _ _ h
theorem Only.belowAlloc {B : Nat} {w : World} (o : Obj) : Below w.heap.size w (w.alloc o) := (Below.refl _ _).alloc (Nat.le_refl _) o
theorem cellsOf_all (zs : List Nat) : (cellsOf zs).toArray.all (·.oneCell') = true := all_oneCell_toArray (cellsOf_one zs)
theorem info_dig : (Try.prog.info? 42).map (·.size) = some 32 := by kernel_rfl
end Go.Proofs.Ytpppffgchgcghaa
namespace Go.Proofs.Ytpppffgchgcghaa
open Go.RowKit
set_option linter.unusedVariables false

theorem splice_take (bs X : List Nat) (r : Nat) (h : r ≤ bs.length) : (splice bs r X).take (r + X.length) = bs.take r ++ X := by
  unfold splice
  rw [← List.append_assoc, List.take_append_of_le_length (by rw [List.length_append, List.length_take]; omega), List.take_of_length_le (by rw [List.length_append, List.length_take]; omega)]
/-- a block that is full -/
theorem round_full {hs q bs X zs1 : List Nat} {r : Nat} (hq : q.length % 64 = r) (hb : bs.length = 64) (ht : bs.take r = Sha.rest q) (hr : r + X.length = 64) (hz : zs1 = q ++ X) :
    Sha.mix (Sha.run hs q) (splice bs r X) = Sha.run hs zs1 ∧ Sha.rest zs1 = [] := by
  have h1 := Sha.run_full hs q X (by omega)
  have h2 := splice_take bs X r (by omega)
  rw [hr, List.take_of_length_le (by rw [length_splice _ _ _ (by omega)]; omega), ht] at h2
  rw [hz, h2]
  exact ⟨h1.1.symm, h1.2⟩
theorem round_part {hs q bs X zs1 : List Nat} {r : Nat} (hq : q.length % 64 = r) (hb : bs.length = 64) (ht : bs.take r = Sha.rest q) (hr : r + X.length < 64) (hz : zs1 = q ++ X) :
    Sha.run hs q = Sha.run hs zs1 ∧ (splice bs r X).take (r + X.length) = Sha.rest zs1 := by
  have h1 := Sha.run_short hs q X (by omega)
  rw [splice_take bs X r (by omega), ht, hz]
  exact ⟨h1.1.symm, h1.2.symm⟩
def slLen : Value → Nat
  | .slice _ n _ => n
  | _ => 0
end Go.Proofs.Ytpppffgchgcghaa
