/-
  SHA-256 on plain numbers and lists. How the last block is filled, on plain lists. The walk over digest.schedule. A state of digest as it lies in memory: eight words, a block, how many bytes came in. The walk over digest.mix. The walks over New, waiting, Size and spread. Cutting bytes: pieces of slices and of arrays. Steps of a region that draws its order: a copy into a row. The walk over the state's Write.
-/
import Derived.Test.YtmomdfmilelilaaDoorPka
import Derived.Laws.CopyOwn
import Derived.Laws.Rows
import Derived.Laws.Tables
import Derived.BigQuiet
import Derived.StillTailTactics
import Derived.Deep.MidRow
import Derived.Deep.CutRange
import Derived.Great.BuildSlice
import Derived.Deep.RegionHeld3
namespace Go.Proofs.YtmomdfmilelilaaDoor.Sha
/-- sums of words -/
def add (a b : Nat) : Nat := (a + b) % 4294967296
theorem add_lt (a b : Nat) : add a b < 4294967296 := Nat.mod_lt _ (by omega)
/-- word i of a block -/
def wd (bs : List Nat) (i : Nat) : Nat := Numm.num 0 [bs.getD (4 * i) 0, bs.getD (4 * i + 1) 0, bs.getD (4 * i + 2) 0, bs.getD (4 * i + 3) 0]
/-- what is mixed of a word at 15 and at 2 behind -/
def sig0 (x : Nat) : Nat := (Rotm.rot x 7 ^^^ Rotm.rot x 18) ^^^ (x / 8)
def sig1 (x : Nat) : Nat := (Rotm.rot x 17 ^^^ Rotm.rot x 19) ^^^ (x / 1024)
/-- the next word behind ws -/
def nxt (ws : List Nat) (i : Nat) : Nat := add (add (add (ws.getD (i - 16) 0) (sig0 (ws.getD (i - 15) 0))) (ws.getD (i - 7) 0)) (sig1 (ws.getD (i - 2) 0))
/-- the first n words of a block -/
def sch (bs : List Nat) : Nat → List Nat
  | 0 => []
  | n + 1 => sch bs n ++ [if n < 16 then wd bs n else nxt (sch bs n) n]
theorem sch_len (bs : List Nat) (n : Nat) : (sch bs n).length = n := by
  induction n with
  | zero => rfl
  | succ n ih => simp [sch, ih]
theorem wd_lt (bs : List Nat) (hb : ∀ i, bs.getD i 0 < 256) (i : Nat) : wd bs i < 4294967296 := by
  unfold wd
  have h := Numm.num_lt [bs.getD (4 * i) 0, bs.getD (4 * i + 1) 0, bs.getD (4 * i + 2) 0, bs.getD (4 * i + 3) 0] (by
    intro z hz
    simp only [List.mem_cons, List.not_mem_nil, or_false] at hz
    rcases hz with rfl | rfl | rfl | rfl <;> exact hb _)
  simpa using h
theorem sch_lt (bs : List Nat) (hb : ∀ i, bs.getD i 0 < 256) (n : Nat) : ∀ z ∈ sch bs n, z < 4294967296 := by
  induction n with
  | zero => simp [sch]
  | succ n ih =>
    intro z hz
    simp only [sch, List.mem_append, List.mem_singleton] at hz
    rcases hz with h | rfl
    · exact ih z h
    · split
      · exact wd_lt bs hb n
      · exact add_lt _ _
/-- the eight variables -/
structure R8 where
  a : Nat
  b : Nat
  c : Nat
  d : Nat
  e : Nat
  f : Nat
  g : Nat
  h : Nat
def r8 (l : List Nat) : R8 := ⟨l.getD 0 0, l.getD 1 0, l.getD 2 0, l.getD 3 0, l.getD 4 0, l.getD 5 0, l.getD 6 0, l.getD 7 0⟩
def R8.ok (r : R8) : Prop := r.a < 4294967296 ∧ r.b < 4294967296 ∧ r.c < 4294967296 ∧ r.d < 4294967296 ∧ r.e < 4294967296 ∧ r.f < 4294967296 ∧ r.g < 4294967296 ∧ r.h < 4294967296
def S1 (e : Nat) : Nat := (Rotm.rot e 6 ^^^ Rotm.rot e 11) ^^^ Rotm.rot e 25
def S0 (a : Nat) : Nat := (Rotm.rot a 2 ^^^ Rotm.rot a 13) ^^^ Rotm.rot a 22
def ch (e f g : Nat) : Nat := (e &&& f) ^^^ ((4294967295 - e) &&& g)
def mj (a b c : Nat) : Nat := ((a &&& b) ^^^ (a &&& c)) ^^^ (b &&& c)
def tx (r : R8) (k w : Nat) : Nat := add (add (add (add r.h (S1 r.e)) (ch r.e r.f r.g)) k) w
def ty (r : R8) : Nat := add (S0 r.a) (mj r.a r.b r.c)
/-- one round -/
def rnd (r : R8) (k w : Nat) : R8 := ⟨add (tx r k w) (ty r), r.a, r.b, r.c, add r.d (tx r k w), r.e, r.f, r.g⟩
theorem rnd_ok {r : R8} (h : r.ok) (k w : Nat) : (rnd r k w).ok := by
  obtain ⟨h1, h2, h3, h4, h5, h6, h7, _⟩ := h
  exact ⟨add_lt _ _, h1, h2, h3, add_lt _ _, h5, h6, h7⟩
/-- the constants of the rounds -/
def K : List Nat := [0x428a2f98, 0x71374491, 0xb5c0fbcf, 0xe9b5dba5, 0x3956c25b, 0x59f111f1, 0x923f82a4, 0xab1c5ed5,
  0xd807aa98, 0x12835b01, 0x243185be, 0x550c7dc3, 0x72be5d74, 0x80deb1fe, 0x9bdc06a7, 0xc19bf174,
  0xe49b69c1, 0xefbe4786, 0x0fc19dc6, 0x240ca1cc, 0x2de92c6f, 0x4a7484aa, 0x5cb0a9dc, 0x76f988da,
  0x983e5152, 0xa831c66d, 0xb00327c8, 0xbf597fc7, 0xc6e00bf3, 0xd5a79147, 0x06ca6351, 0x14292967,
  0x27b70a85, 0x2e1b2138, 0x4d2c6dfc, 0x53380d13, 0x650a7354, 0x766a0abb, 0x81c2c92e, 0x92722c85,
  0xa2bfe8a1, 0xa81a664b, 0xc24b8b70, 0xc76c51a3, 0xd192e819, 0xd6990624, 0xf40e3585, 0x106aa070,
  0x19a4c116, 0x1e376c08, 0x2748774c, 0x34b0bcb5, 0x391c0cb3, 0x4ed8aa4a, 0x5b9cca4f, 0x682e6ff3,
  0x748f82ee, 0x78a5636f, 0x84c87814, 0x8cc70208, 0x90befffa, 0xa4506ceb, 0xbef9a3f7, 0xc67178f2]
/-- the variables behind n rounds -/
def rnds (r : R8) (ws : List Nat) : Nat → R8
  | 0 => r
  | n + 1 => rnd (rnds r ws n) (K.getD n 0) (ws.getD n 0)
theorem rnds_ok {r : R8} (h : r.ok) (ws : List Nat) (n : Nat) : (rnds r ws n).ok := by
  induction n with
  | zero => exact h
  | succ n ih => exact rnd_ok ih _ _
/-- the words behind a block -/
def mixR (hs : List Nat) (r : R8) : List Nat :=
  [add (hs.getD 0 0) r.a, add (hs.getD 1 0) r.b, add (hs.getD 2 0) r.c, add (hs.getD 3 0) r.d, add (hs.getD 4 0) r.e, add (hs.getD 5 0) r.f, add (hs.getD 6 0) r.g, add (hs.getD 7 0) r.h]
theorem mixR_lt (hs : List Nat) (r : R8) : ∀ z ∈ mixR hs r, z < 4294967296 := by
  intro z hz
  simp only [mixR, List.mem_cons, List.not_mem_nil, or_false] at hz
  rcases hz with rfl | rfl | rfl | rfl | rfl | rfl | rfl | rfl <;> exact add_lt _ _
def mix (hs bs : List Nat) : List Nat := mixR hs (rnds (r8 hs) (sch bs 64) 64)
/-- the words at first -/
def H0 : List Nat := [0x6a09e667, 0xbb67ae85, 0x3c6ef372, 0xa54ff53a, 0x510e527f, 0x9b05688c, 0x1f83d9ab, 0x5be0cd19]
/-- block i of q -/
def blk (q : List Nat) (i : Nat) : List Nat := (q.drop (64 * i)).take 64
/-- the words behind n blocks of q -/
def runN (hs q : List Nat) : Nat → List Nat
  | 0 => hs
  | n + 1 => mix (runN hs q n) (blk q n)
/-- the words behind the whole blocks of q, and what stands behind them -/
def run (hs q : List Nat) : List Nat := runN hs q (q.length / 64)
def rest (q : List Nat) : List Nat := q.drop (64 * (q.length / 64))
theorem rest_len (q : List Nat) : (rest q).length = q.length % 64 := by unfold rest; rw [List.length_drop]; omega
theorem blk_app (q x : List Nat) (i : Nat) (h : 64 * (i + 1) ≤ q.length) : blk (q ++ x) i = blk q i := by
  unfold blk
  rw [List.drop_append_of_le_length (by omega), List.take_append_of_le_length (by rw [List.length_drop]; omega)]
theorem runN_app (hs q x : List Nat) (n : Nat) (h : 64 * n ≤ q.length) : runN hs (q ++ x) n = runN hs q n := by
  induction n with
  | zero => rfl
  | succ n ih => rw [runN, runN, ih (by omega), blk_app q x n (by omega)]
theorem run_short (hs q x : List Nat) (h : q.length % 64 + x.length < 64) : run hs (q ++ x) = run hs q ∧ rest (q ++ x) = rest q ++ x := by
  have e : (q ++ x).length / 64 = q.length / 64 := by rw [List.length_append]; omega
  unfold run rest
  rw [e]
  exact ⟨runN_app _ _ _ _ (by omega), List.drop_append_of_le_length (by omega)⟩
theorem run_full (hs q x : List Nat) (h : q.length % 64 + x.length = 64) : run hs (q ++ x) = mix (run hs q) (rest q ++ x) ∧ rest (q ++ x) = [] := by
  have e : (q ++ x).length / 64 = q.length / 64 + 1 := by rw [List.length_append]; omega
  unfold run rest
  rw [e, runN, runN_app _ _ _ _ (by omega)]
  refine ⟨?_, List.drop_eq_nil_of_le (by rw [List.length_append]; omega)⟩
  congr 1
  unfold blk
  rw [List.drop_append_of_le_length (by omega), List.take_of_length_le (by rw [List.length_append, List.length_drop]; omega)]
theorem run_less (hs q : List Nat) (h : q.length < 64) : run hs q = hs ∧ rest q = q := by
  have e : q.length / 64 = 0 := by omega
  unfold run rest
  rw [e]
  exact ⟨rfl, rfl⟩
theorem runN_two (hs a b : List Nat) (m n : Nat) (ha : a.length = 64 * m) : runN hs (a ++ b) (m + n) = runN (runN hs a m) b n := by
  induction n with
  | zero => rw [Nat.add_zero, runN_app _ _ _ _ (by omega)]; rfl
  | succ n ih =>
    rw [← Nat.add_assoc, runN, ih, runN]
    congr 1
    unfold blk
    rw [List.drop_append, List.drop_eq_nil_of_le (by omega), List.nil_append, ha]
    congr 2
    omega
theorem run_two (hs a b : List Nat) (m : Nat) (ha : a.length = 64 * m) : run hs (a ++ b) = run (runN hs a m) b ∧ rest (a ++ b) = rest b := by
  have e : (a ++ b).length / 64 = m + b.length / 64 := by rw [List.length_append]; omega
  unfold run rest
  rw [e]
  refine ⟨runN_two _ _ _ _ _ ha, ?_⟩
  rw [List.drop_append, List.drop_eq_nil_of_le (by omega), List.nil_append]
  congr 1
  omega
/-- by pieces -/
theorem run_run (hs q x : List Nat) : run (run hs q) (rest q ++ x) = run hs (q ++ x) ∧ rest (rest q ++ x) = rest (q ++ x) := by
  have hq : q.take (64 * (q.length / 64)) ++ rest q = q := List.take_append_drop _ _
  have hl : (q.take (64 * (q.length / 64))).length = 64 * (q.length / 64) := by rw [List.length_take]; omega
  have h := run_two hs _ (rest q ++ x) _ hl
  rw [← List.append_assoc, hq] at h
  have hr : run hs q = runN hs (q.take (64 * (q.length / 64))) (q.length / 64) := by
    have := runN_app hs (q.take (64 * (q.length / 64))) (rest q) (q.length / 64) (by omega)
    rw [hq] at this
    exact this
  rw [h.1, h.2, hr]
  exact ⟨rfl, rfl⟩
theorem mix_len (hs bs : List Nat) : (mix hs bs).length = 8 := by unfold mix; exact rfl
theorem mix_lt (hs bs : List Nat) : ∀ z ∈ mix hs bs, z < 4294967296 := mixR_lt _ _
/-- eight words -/
def W8 (hs : List Nat) : Prop := hs.length = 8 ∧ ∀ z ∈ hs, z < 4294967296
theorem W8.mix (hs bs : List Nat) : W8 (mix hs bs) := ⟨mix_len _ _, mix_lt _ _⟩
theorem W8.runN {hs : List Nat} (h : W8 hs) (q : List Nat) (n : Nat) : W8 (runN hs q n) := by
  cases n with
  | zero => exact h
  | succ n => exact W8.mix _ _
theorem W8.run {hs : List Nat} (h : W8 hs) (q : List Nat) : W8 (run hs q) := h.runN _ _
theorem W8.H0 : W8 H0 := ⟨rfl, by decide⟩
/-- what stands behind n bytes of which the tail waits -/
def padded (tail : List Nat) (n : Nat) : List Nat :=
  if tail.length < 56 then tail ++ [128] ++ List.replicate (55 - tail.length) 0 ++ Numm.put (8 * n) 8
  else tail ++ [128] ++ List.replicate (119 - tail.length) 0 ++ Numm.put (8 * n) 8
def bytesOf (hs : List Nat) : List Nat := hs.flatMap fun h => Numm.put h 4
/-- the sum of a state -/
def close (hs tail : List Nat) (n : Nat) : List Nat := bytesOf (run hs (padded tail n))
/-- the sum of a list of bytes -/
def sum (p : List Nat) : List Nat := close (run H0 p) (rest p) p.length
end Go.Proofs.YtmomdfmilelilaaDoor.Sha
namespace Go.Proofs.YtmomdfmilelilaaDoor
open Go.RowKit
set_option linter.unusedVariables false
def zs64 : List Nat := List.replicate 64 0
def zs32 : List Nat := List.replicate 32 0
def zs8 : List Nat := List.replicate 8 0
theorem zs64_len : zs64.length = 64 := by simp [zs64]
theorem zs32_len : zs32.length = 32 := by simp [zs32]
/-- a block with the bytes T ahead, and 128 behind them -/
theorem set_block (T : List Nat) (h : T.length < 64) : (splice zs64 0 T).set T.length 128 = T ++ 128 :: List.replicate (63 - T.length) 0 := by
  unfold splice zs64
  rw [List.take_zero, List.nil_append, Nat.zero_add, List.drop_replicate, List.set_append_right _ _ (Nat.le_refl _), Nat.sub_self, show 64 - T.length = (63 - T.length) + 1 by omega, List.replicate_succ, List.set_cons_zero]
theorem pad_less (T : List Nat) (n : Nat) (h : T.length < 56) : splice ((splice zs64 0 T).set T.length 128) 56 (Numm.put (8 * n) 8) = Sha.padded T n := by
  rw [set_block T (by omega)]
  have hp := Numm.put_len (8 * n) 8
  unfold splice Sha.padded
  rw [if_pos h, hp, List.drop_eq_nil_of_le (by simp; omega), List.append_nil]
  congr 1
  rw [List.take_append, List.take_of_length_le (by omega)]
  obtain ⟨k, hk⟩ : ∃ k, 56 - T.length = k + 1 := ⟨55 - T.length, by omega⟩
  rw [hk, List.take_succ_cons, List.take_replicate, List.append_assoc]
  simp only [List.singleton_append]
  congr 3
  omega
theorem close_less (hs T : List Nat) (n : Nat) (h : T.length < 56) : Sha.bytesOf (Sha.mix hs (splice ((splice zs64 0 T).set T.length 128) 56 (Numm.put (8 * n) 8))) = Sha.close hs T n := by
  rw [pad_less T n h]
  unfold Sha.close
  have hl : (Sha.padded T n).length = 64 := by
    unfold Sha.padded
    rw [if_pos h]
    simp [Numm.put_len]
    omega
  have h1 := (Sha.run_full hs [] (Sha.padded T n) (by simp [hl])).1
  rw [List.nil_append, (Sha.run_less hs [] (by simp)).1, (Sha.run_less hs [] (by simp)).2, List.nil_append] at h1
  rw [h1]
theorem close_more (hs T : List Nat) (n : Nat) (h : 56 ≤ T.length) (h2 : T.length < 64) : Sha.bytesOf (Sha.mix (Sha.mix hs ((splice zs64 0 T).set T.length 128)) (splice zs64 56 (Numm.put (8 * n) 8))) = Sha.close hs T n := by
  rw [set_block T h2]
  have hp := Numm.put_len (8 * n) 8
  have e : Sha.padded T n = (T ++ 128 :: List.replicate (63 - T.length) 0) ++ splice zs64 56 (Numm.put (8 * n) 8) := by
    unfold splice Sha.padded zs64
    rw [if_neg (by omega), hp, List.drop_eq_nil_of_le (by simp), List.append_nil, show 119 - T.length = (63 - T.length) + 56 by omega, ← List.replicate_append_replicate]
    simp
  have hl1 : (T ++ 128 :: List.replicate (63 - T.length) 0).length = 64 := by simp; omega
  have hl2 : (splice zs64 56 (Numm.put (8 * n) 8)).length = 64 := by rw [length_splice _ _ _ (by rw [hp, zs64_len]; omega), zs64_len]
  unfold Sha.close
  rw [e]
  have h1 := Sha.run_full hs [] (T ++ 128 :: List.replicate (63 - T.length) 0) (by rw [hl1]; rfl)
  rw [List.nil_append, (Sha.run_less hs [] (by simp)).1, (Sha.run_less hs [] (by simp)).2, List.nil_append] at h1
  have h3 := (Sha.run_full hs (T ++ 128 :: List.replicate (63 - T.length) 0) (splice zs64 56 (Numm.put (8 * n) 8)) (by rw [hl1, hl2])).1
  rw [h1.1, h1.2, List.nil_append] at h3
  rw [h3]
end Go.Proofs.YtmomdfmilelilaaDoor
namespace Go.Proofs.YtmomdfmilelilaaDoor
open Go.RowKit
set_option linter.unusedVariables false

/-- the cells of a list of words -/
def wordsOf (ws : List Nat) : List Value := ws.map fun z : Nat => Value.int .u32 (z : Int)
theorem wordsOf_get (ws : List Nat) (i : Nat) (h : i < ws.length) : (wordsOf ws).toArray[i]? = some (.int .u32 ((ws.getD i 0 : Nat) : Int)) := by simp [wordsOf, h]
theorem wordsOf_set (ws : List Nat) (i z : Nat) : (wordsOf ws).toArray.setIfInBounds i (.int .u32 (z : Int)) = (wordsOf (ws.set i z)).toArray := by simp [wordsOf, List.map_set]
theorem wordsOf_size (ws : List Nat) : (wordsOf ws).toArray.size = ws.length := by simp [wordsOf]
/-- a row of words -/
def Wrow (w : World) (g : Nat) (t : TypeId) (ws : List Nat) : Prop := w.heap[g]? = some (.cells (wordsOf ws).toArray t (0, 0))
theorem Wrow.cell {w : World} {g : Nat} {t : TypeId} {ws : List Nat} (h : Wrow w g t ws) (j : Nat) (hj : j < ws.length) : w.cell? ⟨g, j, none⟩ = some (.int .u32 ((ws.getD j 0 : Nat) : Int)) := by
  rw [cell_of_row w g j _ t _ h, wordsOf_get _ _ hj]
theorem Wrow.frozen {w : World} {g : Nat} {t : TypeId} {ws : List Nat} (h : Wrow w g t ws) (j : Nat) : w.frozen? ⟨g, j, none⟩ = false := frozen_of_row w g j _ t h
theorem Wrow.set {w : World} {g : Nat} {t : TypeId} {ws : List Nat} (h : Wrow w g t ws) (j z : Nat) : Wrow (w.setCell ⟨g, j, none⟩ (.int .u32 (z : Int))) g t (ws.set j z) := by
  unfold Wrow
  rw [heap_setCell_same w g j _ t _ h, wordsOf_set]
def Brow (w : World) (g : Nat) (t : TypeId) (zs : List Nat) : Prop := w.heap[g]? = some (.cells (cellsOf zs).toArray t (0, 0))
theorem Brow.cell {w : World} {g : Nat} {t : TypeId} {zs : List Nat} (h : Brow w g t zs) (j : Nat) (hj : j < zs.length) : w.cell? ⟨g, j, none⟩ = some (.int .u8 ((zs.getD j 0 : Nat) : Int)) := by
  rw [cell_of_row w g j _ t _ h]
  simpa using cellsOf_get zs j hj
theorem Brow.rd {w : World} {g : Nat} {t : TypeId} {zs : List Nat} (h : Brow w g t zs) (hz : ∀ z ∈ zs, z < 256) : Rd w (some ⟨g, 0, none⟩) zs.length zs := by
  refine ⟨rfl, hz, .inr ⟨g, 0, rfl, ?_, fun i hi => ?_⟩⟩
  · exact (Array.getElem?_eq_some_iff.1 h).1
  · rw [Nat.zero_add]; exact h.cell i hi
theorem Brow.frozen {w : World} {g : Nat} {t : TypeId} {zs : List Nat} (h : Brow w g t zs) (j : Nat) : w.frozen? ⟨g, j, none⟩ = false := frozen_of_row w g j _ t h

theorem rotn (x n : Nat) (hn : n < 32) (w : World) (hx : x < 4294967296) :
    Calls Tryd.prog 59 #[.int .u32 (x : Int), .int .i64 (n : Int)] w fun e w' => e = .returned (.int .u32 ((Rotm.rot x n : Nat) : Int)) ∧ w = w' := by
  have h := rot_c x (n : Int) w hx
  rw [show ((n : Int) % 32).toNat = n by omega] at h
  exact h
theorem xor_lt32 {a b : Nat} (ha : a < 4294967296) (hb : b < 4294967296) : a ^^^ b < 4294967296 := Nat.xor_lt_two_pow (n := 32) ha hb
theorem sig_nat (p q r : Nat) (hp : p < 4294967296) (hq : q < 4294967296) (hr : r < 4294967296) : bits .xor .u32 (bits .xor .u32 (p : Int) (q : Int)) (r : Int) = (((p ^^^ q) ^^^ r : Nat) : Int) := by
  rw [u32_xor_nat _ _ hp hq, u32_xor_nat _ _ (xor_lt32 hp hq) hr]
theorem sig0_int (x : Nat) (hx : x < 4294967296) : bits .xor .u32 (bits .xor .u32 ((Rotm.rot x 7 : Nat) : Int) ((Rotm.rot x 18 : Nat) : Int)) ((x : Int) / 8) = ((Sha.sig0 x : Nat) : Int) := by
  rw [show (x : Int) / 8 = ((x / 8 : Nat) : Int) by omega]
  exact sig_nat _ _ _ (Rotm.rot_lt _ _) (Rotm.rot_lt _ _) (by omega)
theorem sig1_int (x : Nat) (hx : x < 4294967296) : bits .xor .u32 (bits .xor .u32 ((Rotm.rot x 17 : Nat) : Int) ((Rotm.rot x 19 : Nat) : Int)) ((x : Int) / 1024) = ((Sha.sig1 x : Nat) : Int) := by
  rw [show (x : Int) / 1024 = ((x / 1024 : Nat) : Int) by omega]
  exact sig_nat _ _ _ (Rotm.rot_lt _ _) (Rotm.rot_lt _ _) (by omega)
theorem heap_new (w : World) (o : Obj) : (w.alloc o).heap[w.heap.size]? = some o := by
  show (w.heap.push o)[w.heap.size]? = _
  simp
theorem heap_new3 (w : World) (o1 o2 o3 : Obj) : ((((w.alloc o1).alloc o2).alloc o3).heap[w.heap.size]? = some o1) ∧ ((((w.alloc o1).alloc o2).alloc o3).heap[w.heap.size + 1]? = some o2) ∧ ((((w.alloc o1).alloc o2).alloc o3).heap[w.heap.size + 1 + 1]? = some o3) := by
  refine ⟨?_, ?_, ?_⟩
  · rw [Below.heap_alloc _ _ _ (by simp; omega), Below.heap_alloc _ _ _ (by simp)]; exact heap_new w o1
  · rw [Below.heap_alloc _ _ _ (by simp)]
    have := heap_new (w.alloc o1) o2
    simpa using this
  · have := heap_new ((w.alloc o1).alloc o2) o3
    simpa using this
def SAt (H : Nat) (w : World) (bs : List Nat) (k : Nat) (wr : World) : Prop :=
  Brow wr H 88 bs ∧ Wrow wr (H + 1) 110 (List.replicate 64 0) ∧ Wrow wr (H + 1 + 1) 110 (Sha.sch bs k ++ List.replicate (64 - k) 0) ∧ Below H w wr
theorem SAt.next {H : Nat} {w wr : World} {bs : List Nat} {k z : Nat} (h : SAt H w bs k wr) (hk : k < 64) (hz : z = if k < 16 then Sha.wd bs k else Sha.nxt (Sha.sch bs k) k) :
    SAt H w bs (k + 1) (wr.setCell ⟨H + 1 + 1, k, none⟩ (.int .u32 (z : Int))) := by
  obtain ⟨h1, h2, h3, h4⟩ := h
  refine ⟨?_, ?_, ?_, h4.setCell (by simp; omega) _⟩
  · unfold Brow; rw [heap_setCell_other _ _ _ _ (by simp; omega)]; exact h1
  · unfold Wrow; rw [heap_setCell_other _ _ _ _ (by simp)]; exact h2
  · have h := h3.set k z
    have hl := Sha.sch_len bs k
    rw [List.set_append_right _ _ (by omega), hl, Nat.sub_self, show 64 - k = (64 - (k + 1)) + 1 by omega, List.replicate_succ, List.set_cons_zero] at h
    rw [Sha.sch, ← hz, List.append_assoc]
    exact h
theorem SAt.get {H : Nat} {w wr : World} {bs : List Nat} {k : Nat} (h : SAt H w bs k wr) (j : Nat) (hj : j < k) (hk : k ≤ 64) : wr.cell? ⟨H + 1 + 1, j, none⟩ = some (.int .u32 (((Sha.sch bs k).getD j 0 : Nat) : Int)) := by
  have hl := Sha.sch_len bs k
  rw [h.2.2.1.cell j (by simp; omega)]
  congr 3
  simp only [List.getD_eq_getElem?_getD]
  rw [List.getElem?_append_left (by omega)]
theorem SAt.old {H : Nat} {w wr : World} {bs : List Nat} {k : Nat} (h : SAt H w bs k wr) (j : Nat) (hj : j < 64) : ∃ o : Nat, wr.cell? ⟨H + 1 + 1, j, none⟩ = some (.int .u32 (o : Int)) ∧ wr.frozen? ⟨H + 1 + 1, j, none⟩ = false := by
  have hl := Sha.sch_len bs k
  exact ⟨_, h.2.2.1.cell j (by simp; omega), h.2.2.1.frozen j⟩
theorem SAt.drewN {H : Nat} {w wr : World} {bs : List Nat} {k : Nat} (h : SAt H w bs k wr) (n : Nat) : SAt H w bs k (wr.drewN n) := ⟨h.1, h.2.1, h.2.2.1, h.2.2.2.trans (below_drewN' _ _ _)⟩
theorem SAt.drew {H : Nat} {w wr : World} {bs : List Nat} {k : Nat} (h : SAt H w bs k wr) : SAt H w bs k wr.drew := ⟨h.1, h.2.1, h.2.2.1, h.2.2.2.drew⟩
theorem _root_.Go.RowKit.Below.setRow {B g : Nat} {w wr : World} (h : Below B w wr) (hg : B ≤ g) (cs : Array Value) : Below B w (wr.setRow g cs) :=
  h.trans ⟨rfl, rfl, rfl, by simp, fun k hk => setRow_other wr g k cs (by omega)⟩
theorem wordsOf_one (ws : List Nat) : (wordsOf ws).toArray.all (·.oneCell') = true := by
  refine Array.all_eq_true_iff_forall_mem.2 fun v hv => ?_
  simp only [wordsOf, List.mem_toArray, List.mem_map] at hv
  obtain ⟨z, _, rfl⟩ := hv
  rfl

set_option maxRecDepth 100000 in
set_option maxHeartbeats 1600000 in
theorem schedule_c (bs : List Nat) (w : World) (hl : bs.length = 64) (hb : ∀ z ∈ bs, z < 256) :
    Calls Tryd.prog 58 #[.agg (cellsOf bs).toArray] w fun e w' => e = .returned (.agg (wordsOf (Sha.sch bs 64)).toArray) ∧ Below w.heap.size w w' := by
  go_enter Tryd.func58, Tryd.ntmps58
  go_wp2_with fail
  go_loopw [10] (fun i wr => ∃ k : Nat, k ≤ 16 ∧ i = .int .i64 k ∧ SAt w.heap.size w bs k wr) (fun i _ => 16 - (intOf i).toNat)
  case atStart =>
    refine ⟨0, by omega, rfl, (heap_new3 _ _ _ _).1, (heap_new3 _ _ _ _).2.1, (heap_new3 _ _ _ _).2.2, ?_⟩
    exact ((((Below.refl _ _).alloc (by omega) _).alloc (by simp) _).alloc (by simp; omega) _)
  case round =>
    obtain ⟨k, hk, rfl, hs⟩ := hrel
    by_cases hk16 : k < 16
    · have hrd := hs.1.rd hb
      rw [hl] at hrd
      have hW := Lib.hid (word_c (some ⟨w.heap.size, 0, none⟩) 64 64 (4 * k) bs wr hrd (by omega) (by omega))
      have hwd : Numm.num 0 [bs.getD (4 * k) 0, bs.getD (4 * k + 1) 0, bs.getD (4 * k + 2) 0, bs.getD (4 * k + 3) 0] = Sha.wd bs k := rfl
      rw [hwd] at hW
      have hnext := fun q => (hs.drewN q).next (z := Sha.wd bs k) (by omega) (by rw [if_pos hk16])
      have HN := Lib.hid hnext
      obtain ⟨o, ho, hf⟩ := hs.old k (by omega)
      have ho' : ∀ q, (wr.drewN q).cell? ⟨w.heap.size + 1 + 1, k, none⟩ = some (.int .u32 (o : Int)) := fun q => ho
      have hf' : ∀ q, (wr.drewN q).frozen? ⟨w.heap.size + 1 + 1, k, none⟩ = false := fun q => hf
      clear hs hrd hwd hnext ho hf hb hl
      go_wp2_with fail
      refine (hW.out).mono ?_
      rintro en wx ⟨rfl, q, rfl⟩
      have ho := ho' q
      have hf := hf' q
      clear ho' hf'
      go_wp2_with fail
      go_roundw
      case rel => exact ⟨k + 1, by omega, by go_num, HN.out q⟩
      case measure => simp [intOf]; omega
    · obtain rfl : k = 16 := by omega
      go_wp2_with fail
      go_loopw [5] (fun i wr => ∃ k : Nat, 16 ≤ k ∧ k ≤ 64 ∧ i = .int .i64 k ∧ SAt w.heap.size w bs k wr) (fun i _ => 64 - (intOf i).toNat)
      case atStart => exact ⟨16, by omega, by omega, rfl, hs⟩
      case round =>
        clear hs
        obtain ⟨k, hk0, hk, rfl, hs⟩ := hrel
        by_cases hk64 : k < 64
        · obtain ⟨j15, hj15⟩ : ∃ j, k - 15 = j := ⟨_, rfl⟩
          obtain ⟨j2, hj2⟩ : ∃ j, k - 2 = j := ⟨_, rfl⟩
          have hi15 : (k : Int) - 15 = (j15 : Int) := by omega
          have hi2 : (k : Int) - 2 = (j2 : Int) := by omega
          have c15 := hs.get j15 (by omega) hk
          have c2 := hs.get j2 (by omega) hk
          have b15 : j15 < 64 := by omega
          have b2 : j2 < 64 := by omega
          have hnx := Sha.sch_lt bs (fun i => by rw [List.getD_eq_getElem?_getD]; cases h : bs[i]? with | none => simp | some z => simpa using hb z (List.mem_of_getElem? h)) k
          obtain ⟨x, hx⟩ : ∃ x, x = (Sha.sch bs k).getD j15 0 := ⟨_, rfl⟩
          obtain ⟨y, hy⟩ : ∃ y, y = (Sha.sch bs k).getD j2 0 := ⟨_, rfl⟩
          have hx32 : x < 4294967296 := by rw [hx, getD_at _ _ (by rw [Sha.sch_len]; omega)]; exact hnx _ (List.getElem_mem _)
          have hy32 : y < 4294967296 := by rw [hy, getD_at _ _ (by rw [Sha.sch_len]; omega)]; exact hnx _ (List.getElem_mem _)
          rw [← hx] at c15
          rw [← hy] at c2
          have HS := Lib.hid hs
          have HX := Lib.hid hx
          have HY := Lib.hid hy
          have c15' : ∀ q, (wr.drewN q).cell? ⟨w.heap.size + 1 + 1, j15, none⟩ = some (.int .u32 (x : Int)) := fun q => c15
          have c2' : ∀ q, (wr.drewN q).cell? ⟨w.heap.size + 1 + 1, j2, none⟩ = some (.int .u32 (y : Int)) := fun q => c2
          clear hs hx hy hnx hb hl
          go_wp2
          go_quiet (fail)
          clear c15 c2 c15' c2' 
          go_wp2_with fail
          refine (rotn x 7 (by omega) _ hx32).mono ?_
          rintro en wx ⟨rfl, rfl⟩
          go_wp2_with fail
          refine (rotn x 18 (by omega) _ hx32).mono ?_
          rintro en wx ⟨rfl, rfl⟩
          go_wp2_with fail
          refine (rotn y 17 (by omega) _ hy32).mono ?_
          rintro en wx ⟨rfl, rfl⟩
          go_wp2_with fail
          refine (rotn y 19 (by omega) _ hy32).mono ?_
          rintro en wx ⟨rfl, rfl⟩
          go_wp2_with fail
          rw [sig0_int x hx32, sig1_int y hy32]
          obtain ⟨s0, hs0⟩ : ∃ z, z = Sha.sig0 x := ⟨_, rfl⟩
          obtain ⟨s1, hs1⟩ : ∃ z, z = Sha.sig1 y := ⟨_, rfl⟩
          rw [← hs0, ← hs1]
          have hs := HS.out.drewN nq
          obtain ⟨o, ho, hf⟩ := hs.old k (by omega)
          obtain ⟨j16, hj16⟩ : ∃ j, k - 16 = j := ⟨_, rfl⟩
          obtain ⟨j7, hj7⟩ : ∃ j, k - 7 = j := ⟨_, rfl⟩
          have hi16 : (k : Int) - 16 = (j16 : Int) := by omega
          have hi7 : (k : Int) - 7 = (j7 : Int) := by omega
          have c16 := hs.get j16 (by omega) hk
          have c7 := hs.get j7 (by omega) hk
          have b16 : j16 < 64 := by omega
          have b7 : j7 < 64 := by omega
          obtain ⟨v16, hv16⟩ : ∃ z, z = (Sha.sch bs k).getD j16 0 := ⟨_, rfl⟩
          obtain ⟨v7, hv7⟩ : ∃ z, z = (Sha.sch bs k).getD j7 0 := ⟨_, rfl⟩
          rw [← hv16] at c16
          rw [← hv7] at c7
          obtain ⟨wr', hwr'⟩ : ∃ z, z = wr.drewN nq := ⟨_, rfl⟩
          rw [← hwr'] at c16 c7 ho hf hs ⊢
          have HS1 := Lib.hid hs
          have HV := Lib.hid hv16
          have HV7 := Lib.hid hv7
          have H0 := Lib.hid hs0
          have H1 := Lib.hid hs1
          clear hwr' hs hv16 hv7 hs0 hs1 HS
          have q1 : (0 : Int) ≤ (j16 : Int) := by omega
          have q2 : (j16 : Int) < 64 := by omega
          have q3 : (0 : Int) ≤ (j7 : Int) := by omega
          have q4 : (j7 : Int) < 64 := by omega
          have q5 : (0 : Int) ≤ (k : Int) := by omega
          have q6 : (k : Int) < 64 := by omega
          have r16 : IntKind.i64.wrap (j16 : Int) = (j16 : Int) := IntWalk.i64_in _ (by omega)
          have r7 : IntKind.i64.wrap (j7 : Int) = (j7 : Int) := IntWalk.i64_in _ (by omega)
          go_wp2
          go_still_tail 14, (by kernel_rfl)
          go_wp2
          clear ho hf c16 c7 r16 r7 hi16 hi7 hi15 hi2 q1 q2 q3 q4 q5 q6
          refine ⟨?_, ?measure⟩
          repeat apply Exists.intro
          refine ⟨?rel, rfl⟩
          case rel =>
            refine ⟨k + 1, by omega, by omega, by go_num, ?_⟩
            have hz := HS1.out.next hk64 (z := Sha.nxt (Sha.sch bs k) k) (by rw [if_neg (by omega)])
            have e : Sha.nxt (Sha.sch bs k) k = Sha.add (Sha.add (Sha.add v16 s0) v7) s1 := by
              unfold Sha.nxt
              rw [hj16, hj7, hj15, hj2, ← HV.out, ← HV7.out, ← HX.out, ← HY.out, ← H0.out, ← H1.out]
            rw [e] at hz
            have hv : (((v16 : Int) + (s0 : Int) + (v7 : Int) + (s1 : Int)) % 4294967296) = ((Sha.add (Sha.add (Sha.add v16 s0) v7) s1 : Nat) : Int) := by unfold Sha.add; omega
            rw [hv]
            exact hz.drew
          case measure => simp [intOf]; omega
        · obtain rfl : k = 64 := by omega
          have hrow := hs.2.2.1
          have hrow2 := hs.2.1
          have hbel := hs.2.2.2
          have hl64 := Sha.sch_len bs 64
          clear hs
          rw [Nat.sub_self, List.replicate_zero, List.append_nil] at hrow
          unfold Wrow at hrow hrow2
          have hi : (Tryd.prog.info? 110).map (·.size) = some (wordsOf (Sha.sch bs 64)).toArray.size := by
            rw [wordsOf_size, hl64]; kernel_rfl
          have ho : (wordsOf (List.replicate 64 0)).toArray.size = (wordsOf (Sha.sch bs 64)).toArray.size := by rw [wordsOf_size, wordsOf_size, hl64]; rfl
          obtain ⟨A, hA⟩ : ∃ A, A = (wordsOf (Sha.sch bs 64)).toArray := ⟨_, rfl⟩
          have hone : A.all (·.oneCell') = true := by rw [hA]; exact wordsOf_one _
          have hin : (wr.setRow (w.heap.size + 1) A).heap[w.heap.size + 1]? = some (.cells A 110 (0, 0)) := setRow_heap wr _ _ _ _ _ hrow2
          have hb' : Below w.heap.size w (wr.setRow (w.heap.size + 1) A) := hbel.setRow (by omega) _
          rw [← hA] at hrow hi ho
          go_wp2_with (first | (refine wpList_load_row (by rfl) 110 _ (by rfl) (w.heap.size + 1 + 1) (by rfl) _ _ (0, 0) _ hrow Tryd.underlying110 (by rfl) hi ?_) | (refine wpList_store_row (by rfl) 110 _ _ (by rfl) (w.heap.size + 1) A (by rfl) (by rfl) _ _ hrow2 hi ho hone ?_))
          refine bodyPost_ret (results_cell_row (by rfl) _ _ (w.heap.size + 1) _ A (0, 0) _ (by rfl) hin Tryd.underlying110 (by rfl) hi) ?_ ?_
          · rfl
          · exact ⟨by rw [hA], hb'⟩
end Go.Proofs.YtmomdfmilelilaaDoor
namespace Go.Proofs.YtmomdfmilelilaaDoor
open Go.RowKit
set_option linter.unusedVariables false

/-- all blocks but g are as they were -/
structure Only (g : Nat) (w w' : World) : Prop where
  os : w'.os = w.os
  tape : w'.tape = w.tape
  output : w'.output = w.output
  size : w.heap.size ≤ w'.heap.size
  block : ∀ k, k < w.heap.size → k ≠ g → w'.heap[k]? = w.heap[k]?
theorem Only.refl (g : Nat) (w : World) : Only g w w := ⟨rfl, rfl, rfl, Nat.le_refl _, fun _ _ _ => rfl⟩
theorem Only.trans {g : Nat} {a b c : World} (h : Only g a b) (k : Only g b c) : Only g a c :=
  ⟨k.os.trans h.os, k.tape.trans h.tape, k.output.trans h.output, Nat.le_trans h.size k.size, fun i hi hg => (k.block i (Nat.lt_of_lt_of_le hi h.size) hg).trans (h.block i hi hg)⟩
theorem Only.below {g B : Nat} {w w' : World} (h : Only g w w') (hB : B ≤ g) (hB2 : B ≤ w.heap.size) : Below B w w' :=
  ⟨h.os, h.tape, h.output, h.size, fun k hk => h.block k (by omega) (by omega)⟩
theorem Only.of {g : Nat} {w w' : World} (h : Below w.heap.size w w') : Only g w w' :=
  ⟨h.os, h.tape, h.output, h.size, fun k hk _ => h.block k hk⟩
theorem Only.setCell {g : Nat} {a w : World} (h : Only g a w) (o : Nat) (u : Value) : Only g a (w.setCell ⟨g, o, none⟩ u) :=
  ⟨h.os, h.tape, h.output, by simp [h.size], fun k hk hg => (Below.heap_setCell _ _ _ _ hg).trans (h.block k hk hg)⟩
theorem Only.drewN {g : Nat} {a w : World} (h : Only g a w) (n : Nat) : Only g a (w.drewN n) := ⟨h.os, h.tape, h.output, h.size, h.block⟩
theorem Only.drew {g : Nat} {a w : World} (h : Only g a w) : Only g a w.drew := ⟨h.os, h.tape, h.output, h.size, h.block⟩
theorem Only.setCells {g : Nat} : ∀ (vs : List Value) (o : Nat) {a w : World} (_ : Only g a w), Only g a (w.setCells g o vs)
  | [], _, _, _, h => h
  | v :: r, o, a, w, h => by rw [World.setCells]; exact Only.setCells r (o + 1) (h.setCell o v)
theorem Only.rd {g : Nat} {w w' : World} (h : Only g w w') {a : Option Addr} {len : Nat} {zs : List Nat} (hr : Rd w a len zs) (hg : ∀ b off, a = some ⟨b, off, none⟩ → b ≠ g) : Rd w' a len zs := by
  obtain ⟨h1, h2, h3⟩ := hr
  refine ⟨h1, h2, ?_⟩
  rcases h3 with h0 | ⟨b, off, ha, hlt, hc⟩
  · exact .inl h0
  · exact .inr ⟨b, off, ha, Nat.lt_of_lt_of_le hlt h.size, fun i hi => (World.cell?_of_block (w := w) (a := ⟨b, off + i, none⟩) (h.block b hlt (hg b off ha))).trans (hc i hi)⟩

/-- the cells of a state -/
def stCells (hs bs : List Nat) (n : Nat) : List Value := wordsOf hs ++ (cellsOf bs ++ [Value.int .i64 (n : Int)])
theorem wordsOf_length (ws : List Nat) : (wordsOf ws).length = ws.length := by simp [wordsOf]
/-- a state lies at g -/
structure St (w : World) (g : Nat) (hs bs : List Nat) (n : Nat) : Prop where
  row : w.heap[g]? = some (.cells (stCells hs bs n).toArray 90 (0, 0))
  w8 : Sha.W8 hs
  bl : bs.length = 64
  bb : ∀ z ∈ bs, z < 256
  nn : n ≤ 2305843009213693951
theorem stCells_len {hs bs : List Nat} {n : Nat} (h : hs.length = 8) (hb : bs.length = 64) : (stCells hs bs n).length = 73 := by
  simp [stCells, wordsOf_length, cellsOf_length, h, hb]
theorem St.len {w : World} {g : Nat} {hs bs : List Nat} {n : Nat} (h : St w g hs bs n) : (stCells hs bs n).length = 73 := stCells_len h.w8.1 h.bl
theorem St.lt {w : World} {g : Nat} {hs bs : List Nat} {n : Nat} (h : St w g hs bs n) : g < w.heap.size := (Array.getElem?_eq_some_iff.1 h.row).1
theorem St.cellq {w : World} {g : Nat} {hs bs : List Nat} {n : Nat} (h : St w g hs bs n) (j : Nat) : w.cell? ⟨g, j, none⟩ = (stCells hs bs n)[j]? := by
  rw [cell_of_row w g j _ _ _ h.row]; simp
theorem St.froz {w : World} {g : Nat} {hs bs : List Nat} {n : Nat} (h : St w g hs bs n) (j : Nat) : w.frozen? ⟨g, j, none⟩ = false := frozen_of_row w g j _ _ h.row
theorem St.words {w : World} {g : Nat} {hs bs : List Nat} {n : Nat} (h : St w g hs bs n) : w.rangeAt g 0 (wordsOf hs) := fun j v hv => by
  rw [Nat.zero_add, h.cellq]
  unfold stCells
  rw [List.getElem?_append_left (List.getElem?_eq_some_iff.1 hv).1, hv]
theorem St.block {w : World} {g : Nat} {hs bs : List Nat} {n : Nat} (h : St w g hs bs n) : w.rangeAt g 8 (cellsOf bs) := fun j v hv => by
  rw [h.cellq]
  unfold stCells
  rw [List.getElem?_append_right (by rw [wordsOf_length, h.w8.1]; omega), wordsOf_length, h.w8.1, Nat.add_sub_cancel_left, List.getElem?_append_left (List.getElem?_eq_some_iff.1 hv).1, hv]
theorem St.size {w : World} {g : Nat} {hs bs : List Nat} {n : Nat} (h : St w g hs bs n) : w.cell? ⟨g, 72, none⟩ = some (.int .i64 (n : Int)) := by
  rw [h.cellq]
  unfold stCells
  rw [List.getElem?_append_right (by rw [wordsOf_length, h.w8.1]; omega), wordsOf_length, h.w8.1, List.getElem?_append_right (by rw [cellsOf_length, h.bl]; omega), cellsOf_length, h.bl]
  rfl
theorem St.there {w : World} {g : Nat} {hs bs : List Nat} {n : Nat} (h : St w g hs bs n) (o m : Nat) (hm : o + m ≤ 73) : w.there g o m := fun j hj => by
  refine ⟨?_, h.froz _⟩
  have := h.len
  rw [h.cellq, List.getElem?_eq_getElem (by omega)]
  rfl
/-- the bytes of the block can be read -/
theorem St.rd {w : World} {g : Nat} {hs bs : List Nat} {n : Nat} (h : St w g hs bs n) (k m : Nat) (hk : k + m ≤ 64) : Rd w (some ⟨g, 8 + k, none⟩) m ((bs.drop k).take m) := by
  have hl := h.bl
  refine ⟨by rw [List.length_take, List.length_drop]; omega, fun z hz => h.bb z (List.mem_of_mem_drop (List.mem_of_mem_take hz)), .inr ⟨g, 8 + k, rfl, h.lt, fun i hi => ?_⟩⟩
  have e := h.block (k + i) (.int .u8 ((bs.getD (k + i) 0 : Nat) : Int)) (cellsOf_get _ _ (by omega))
  rw [Nat.add_assoc, e]
  simp [hi]
theorem St.drewN {w : World} {g : Nat} {hs bs : List Nat} {n : Nat} (h : St w g hs bs n) (q : Nat) : St (w.drewN q) g hs bs n := ⟨h.row, h.w8, h.bl, h.bb, h.nn⟩
theorem St.drew {w : World} {g : Nat} {hs bs : List Nat} {n : Nat} (h : St w g hs bs n) : St w.drew g hs bs n := ⟨h.row, h.w8, h.bl, h.bb, h.nn⟩
theorem St.below {B : Nat} {w w' : World} {g : Nat} {hs bs : List Nat} {n : Nat} (h : St w g hs bs n) (hb : Below B w w') (hg : g < B) : St w' g hs bs n := ⟨(hb.block g hg).trans h.row, h.w8, h.bl, h.bb, h.nn⟩
theorem St.only {g' : Nat} {w w' : World} {g : Nat} {hs bs : List Nat} {n : Nat} (h : St w g hs bs n) (hb : Only g' w w') (hg : g ≠ g') : St w' g hs bs n := ⟨(hb.block g h.lt hg).trans h.row, h.w8, h.bl, h.bb, h.nn⟩
/-- the number is stored -/
theorem St.setSize {w : World} {g : Nat} {hs bs : List Nat} {n : Nat} (h : St w g hs bs n) (m : Nat) (hm : m ≤ 2305843009213693951) : St (w.setCell ⟨g, 72, none⟩ (.int .i64 (m : Int))) g hs bs m := by
  refine ⟨?_, h.w8, h.bl, h.bb, hm⟩
  rw [heap_setCell_same w g 72 _ _ _ h.row]
  congr 2
  unfold stCells
  rw [List.setIfInBounds_toArray, List.set_append_right _ _ (by rw [wordsOf_length, h.w8.1]; omega), wordsOf_length, h.w8.1, List.set_append_right _ _ (by rw [cellsOf_length, h.bl]; omega), cellsOf_length, h.bl]
  rfl
theorem setCells_row (g : Nat) (t : TypeId) : ∀ (vs : List Value) (o : Nat) (cur : List Value) (w : World), w.heap[g]? = some (.cells cur.toArray t (0, 0)) → o + vs.length ≤ cur.length →
    (w.setCells g o vs).heap[g]? = some (.cells (splice cur o vs).toArray t (0, 0))
  | [], o, cur, w, hg, hl => by simpa [World.setCells, splice] using hg
  | v :: r, o, cur, w, hg, hl => by
    rw [World.setCells]
    have h1 := heap_setCell_same w g o _ _ v hg
    rw [List.setIfInBounds_toArray] at h1
    rw [setCells_row g t r (o + 1) (cur.set o v) _ h1 (by simp at hl ⊢; omega)]
    congr 2
    have := list_seg_step cur o v r (by simp at hl; omega)
    unfold splice
    simp only [List.append_assoc] at this
    rw [this]
    simp only [List.cons_append, List.length_cons]
/-- the words are stored -/
theorem St.setWords {w : World} {g : Nat} {hs bs : List Nat} {n : Nat} (h : St w g hs bs n) (hs' : List Nat) (h8 : Sha.W8 hs') : St (w.setCells g 0 (wordsOf hs')) g hs' bs n := by
  refine ⟨?_, h8, h.bl, h.bb, h.nn⟩
  rw [setCells_row g _ _ _ _ _ h.row (by rw [h.len, wordsOf_length, h8.1]; omega)]
  congr 2
  unfold splice stCells
  rw [List.take_zero, List.nil_append, Nat.zero_add, wordsOf_length, h8.1, List.drop_append, List.drop_eq_nil_of_le (by rw [wordsOf_length, h.w8.1]; omega), wordsOf_length, h.w8.1]
  rfl
theorem cellsOf_splice (bs xs : List Nat) (k : Nat) : cellsOf (splice bs k xs) = splice (cellsOf bs) k (cellsOf xs) := by
  simp [splice, cellsOf, List.map_take, List.map_drop]
theorem splice_mem {bs xs : List Nat} {k : Nat} (hb : ∀ z ∈ bs, z < 256) (hx : ∀ z ∈ xs, z < 256) : ∀ z ∈ splice bs k xs, z < 256 := by
  intro z hz
  simp only [splice, List.mem_append] at hz
  rcases hz with h | h | h
  · exact hb z (List.mem_of_mem_take h)
  · exact hx z h
  · exact hb z (List.mem_of_mem_drop h)
/-- bytes are copied into the block -/
theorem St.copied {w w' : World} {g : Nat} {hs bs : List Nat} {n : Nat} (h : St w g hs bs n) (k : Nat) (xs : List Nat) (hx : ∀ z ∈ xs, z < 256) (hk : k + xs.length ≤ 64)
    (hr : w'.heap[g]? = some (.cells (splice (stCells hs bs n) (8 + k) (cellsOf xs)).toArray 90 (0, 0))) : St w' g hs (splice bs k xs) n := by
  refine ⟨?_, h.w8, by rw [length_splice _ _ _ (by rw [h.bl]; omega), h.bl], splice_mem h.bb hx, h.nn⟩
  rw [hr]
  congr 2
  unfold stCells
  rw [cellsOf_splice]
  have h8 : (wordsOf hs).length = 8 := by rw [wordsOf_length, h.w8.1]
  have hb : (cellsOf bs).length = 64 := by rw [cellsOf_length, h.bl]
  have hxl : (cellsOf xs).length = xs.length := cellsOf_length xs
  generalize wordsOf hs = W at *
  generalize cellsOf bs = C at *
  generalize cellsOf xs = X at *
  unfold splice
  rw [List.take_append, h8, List.take_of_length_le (by omega), show 8 + k - 8 = k by omega, List.take_append_of_le_length (by omega), List.drop_append, List.drop_eq_nil_of_le (by omega), h8, List.nil_append,
    show 8 + k + X.length - 8 = k + X.length by omega, List.drop_append_of_le_length (by omega)]
  simp
end Go.Proofs.YtmomdfmilelilaaDoor
namespace Go.Proofs.YtmomdfmilelilaaDoor
open Go.RowKit

/-- the table of the rounds' constants, as the program's text lays it -/
def Tab (w : World) : Prop := ∀ i, i < 64 → w.cell? ⟨0, i, none⟩ = some (.int .u32 ((Sha.K.getD i 0 : Nat) : Int))
theorem Tab.pos {w : World} (h : Tab w) : 0 < w.heap.size := by
  have := h 0 (by omega)
  cases hs : w.heap[0]? with
  | none => simp [World.cell?, hs] at this
  | some o => exact (Array.getElem?_eq_some_iff.1 hs).1
theorem Tab.below {B : Nat} {w w' : World} (h : Tab w) (hb : Below B w w') (hB : 0 < B) : Tab w' := fun i hi => (hb.cell (p := ⟨0, i, none⟩) hB).trans (h i hi)
theorem Tab.drewN {w : World} (h : Tab w) (n : Nat) : Tab (w.drewN n) := h
theorem rotq (x n : Nat) (hn : n < 32) (w : World) (hx : x < 4294967296) :
    Calls Tryd.prog 59 #[.int .u32 (x : Int), .int .i64 (n : Int)] w fun e w' => e = .returned (.int .u32 ((Rotm.rot x n : Nat) : Int)) ∧ w' = w :=
  (rotn x n hn w hx).mono fun _ _ ⟨h1, h2⟩ => ⟨h1, h2.symm⟩
theorem Wrow.below {B g : Nat} {w w' : World} {t : TypeId} {ws : List Nat} (h : Wrow w g t ws) (hb : Below B w w') (hg : g < B) : Wrow w' g t ws := (hb.block g hg).trans h
theorem Brow.below {B g : Nat} {w w' : World} {t : TypeId} {ws : List Nat} (h : Brow w g t ws) (hb : Below B w w') (hg : g < B) : Brow w' g t ws := (hb.block g hg).trans h
theorem cellsOf_size (zs : List Nat) : (cellsOf zs).toArray.size = zs.length := by simp [cellsOf]
theorem gen_world {P : Program} {ops : Array Oper} {Q : Exit → Act → World → Prop} {rest : List Oper} {a : Act} {W : World} {F : World → Prop} (h : F W) (k : ∀ w, F w → wpList P ops Q rest a w) : wpList P ops Q rest a W := k W h
theorem and_lt32 {a b : Nat} (hb : b < 4294967296) : a &&& b < 4294967296 := Nat.and_lt_two_pow (n := 32) a hb
theorem s1_int (e : Nat) : bits .xor .u32 (bits .xor .u32 ((Rotm.rot e 6 : Nat) : Int) ((Rotm.rot e 11 : Nat) : Int)) ((Rotm.rot e 25 : Nat) : Int) = ((Sha.S1 e : Nat) : Int) := sig_nat _ _ _ (Rotm.rot_lt _ _) (Rotm.rot_lt _ _) (Rotm.rot_lt _ _)
theorem s0_int (a : Nat) : bits .xor .u32 (bits .xor .u32 ((Rotm.rot a 2 : Nat) : Int) ((Rotm.rot a 13 : Nat) : Int)) ((Rotm.rot a 22 : Nat) : Int) = ((Sha.S0 a : Nat) : Int) := sig_nat _ _ _ (Rotm.rot_lt _ _) (Rotm.rot_lt _ _) (Rotm.rot_lt _ _)
theorem not_nat (e : Nat) (he : e < 4294967296) : bits .xor .u32 (if IntKind.u32.signed = true then -1 else IntKind.u32.max) (e : Int) = ((4294967295 - e : Nat) : Int) := by
  rw [show (if IntKind.u32.signed = true then (-1 : Int) else IntKind.u32.max) = ((4294967295 : Nat) : Int) by decide, u32_xor_nat _ _ (by omega) he]
  congr 1
  apply Nat.eq_of_testBit_eq
  intro i
  rw [Nat.testBit_xor, show 4294967295 - e = 2 ^ 32 - (e + 1) by omega, Nat.testBit_two_pow_sub_succ (n := 32) (x := e) (by omega), show (4294967295 : Nat) = 2 ^ 32 - 1 by rfl, Nat.testBit_two_pow_sub_one]
  by_cases hi : i < 32
  · simp [hi]
  · have h32 : 2 ^ 32 ≤ 2 ^ i := Nat.pow_le_pow_right (by omega) (by omega)
    have : e.testBit i = false := Nat.testBit_lt_two_pow (Nat.lt_of_lt_of_le he h32)
    simp [hi, this]
theorem ch_int (e f g : Nat) (he : e < 4294967296) (hf : f < 4294967296) (hg : g < 4294967296) :
    bits .xor .u32 (bits .and .u32 (e : Int) (f : Int)) (bits .and .u32 (bits .xor .u32 (if IntKind.u32.signed = true then -1 else IntKind.u32.max) (e : Int)) (g : Int)) = ((Sha.ch e f g : Nat) : Int) := by
  rw [not_nat e he, u32_and_nat _ _ he hf, u32_and_nat _ _ (by omega) hg, u32_xor_nat _ _ (and_lt32 hf) (and_lt32 hg)]
  rfl
theorem mj_int (a b c : Nat) (ha : a < 4294967296) (hb : b < 4294967296) (hc : c < 4294967296) :
    bits .xor .u32 (bits .xor .u32 (bits .and .u32 (a : Int) (b : Int)) (bits .and .u32 (a : Int) (c : Int))) (bits .and .u32 (b : Int) (c : Int)) = ((Sha.mj a b c : Nat) : Int) := by
  rw [u32_and_nat _ _ ha hb, u32_and_nat _ _ ha hc, u32_and_nat _ _ hb hc, u32_xor_nat _ _ (and_lt32 hb) (and_lt32 hc), u32_xor_nat _ _ (xor_lt32 (and_lt32 hb) (and_lt32 hc)) (and_lt32 hc)]
  rfl
theorem u32_eq {x y : Int} (h : x = y) : Value.int .u32 x = .int .u32 y := by rw [h]
theorem tx_val (a b c d e f g h kk wk : Nat) :
    Value.int .u32 ((((h : Int) + ((Sha.S1 e : Nat) : Int) + ((Sha.ch e f g : Nat) : Int) + (kk : Int)) % 4294967296 + (wk : Int)) % 4294967296) = .int .u32 ((Sha.tx ⟨a, b, c, d, e, f, g, h⟩ kk wk : Nat) : Int) := by
  refine u32_eq ?_
  unfold Sha.tx Sha.add
  generalize Sha.S1 e = s
  generalize Sha.ch e f g = t
  dsimp only
  omega
theorem ty_val (a b c d e f g h : Nat) :
    Value.int .u32 ((((Sha.S0 a : Nat) : Int) + ((Sha.mj a b c : Nat) : Int)) % 4294967296) = .int .u32 ((Sha.ty ⟨a, b, c, d, e, f, g, h⟩ : Nat) : Int) := by
  refine u32_eq ?_
  unfold Sha.ty Sha.add
  dsimp only
  omega
theorem add_val (a b : Nat) : Value.int .u32 (((a : Int) + (b : Int)) % 4294967296) = .int .u32 ((Sha.add a b : Nat) : Int) := by
  refine u32_eq ?_
  unfold Sha.add
  omega
theorem ty_facts (a b c d e f g h : Nat) (ha : a < 4294967296) (hb : b < 4294967296) (hc : c < 4294967296) : ∃ y1 y3 y4 y5 y6 s0 m t : Nat,
    bits .xor .u32 ((Rotm.rot a 2 : Nat) : Int) ((Rotm.rot a 13 : Nat) : Int) = (y1 : Int) ∧ bits .xor .u32 (y1 : Int) ((Rotm.rot a 22 : Nat) : Int) = (s0 : Int) ∧
    bits .and .u32 (a : Int) (b : Int) = (y3 : Int) ∧ bits .and .u32 (a : Int) (c : Int) = (y4 : Int) ∧ bits .xor .u32 (y3 : Int) (y4 : Int) = (y5 : Int) ∧
    bits .and .u32 (b : Int) (c : Int) = (y6 : Int) ∧ bits .xor .u32 (y5 : Int) (y6 : Int) = (m : Int) ∧ ((s0 : Int) + (m : Int)) % 4294967296 = (t : Int) ∧ t = Sha.ty ⟨a, b, c, d, e, f, g, h⟩ := by
  refine ⟨_, _, _, _, _, _, _, _, u32_xor_nat _ _ (Rotm.rot_lt _ _) (Rotm.rot_lt _ _), u32_xor_nat _ _ (xor_lt32 (Rotm.rot_lt _ _) (Rotm.rot_lt _ _)) (Rotm.rot_lt _ _), u32_and_nat _ _ ha hb, u32_and_nat _ _ ha hc,
    u32_xor_nat _ _ (and_lt32 hb) (and_lt32 hc), u32_and_nat _ _ hb hc, u32_xor_nat _ _ (xor_lt32 (and_lt32 hb) (and_lt32 hc)) (and_lt32 hc), ?_, rfl⟩
  unfold Sha.ty Sha.add
  dsimp only [Sha.S0, Sha.mj]
  omega
theorem mix_cells (x0 x1 x2 x3 x4 x5 x6 x7 : Nat) (bs ws : List Nat) (r : Sha.R8) (hws : ws = Sha.sch bs 64) (hr : r = Sha.rnds (Sha.r8 [x0, x1, x2, x3, x4, x5, x6, x7]) ws 64) :
    wordsOf (Sha.mix [x0, x1, x2, x3, x4, x5, x6, x7] bs) = [.int .u32 ((Sha.add x0 r.a : Nat) : Int), .int .u32 ((Sha.add x1 r.b : Nat) : Int), .int .u32 ((Sha.add x2 r.c : Nat) : Int), .int .u32 ((Sha.add x3 r.d : Nat) : Int),
      .int .u32 ((Sha.add x4 r.e : Nat) : Int), .int .u32 ((Sha.add x5 r.f : Nat) : Int), .int .u32 ((Sha.add x6 r.g : Nat) : Int), .int .u32 ((Sha.add x7 r.h : Nat) : Int)] := by
  unfold Sha.mix
  rw [← hws, ← hr]
  rfl
theorem info_words : (Tryd.prog.info? 86).map (·.size) = some 8 := by kernel_rfl
theorem info_block : (Tryd.prog.info? 88).map (·.size) = some 64 := by kernel_rfl
theorem info_w64 : (Tryd.prog.info? 110).map (·.size) = some 64 := by kernel_rfl

set_option maxRecDepth 100000 in
set_option maxHeartbeats 3200000 in
theorem mix_c (hs bs : List Nat) (w : World) (hh : hs.length = 8) (hhs : ∀ z ∈ hs, z < 4294967296) (hl : bs.length = 64) (hb : ∀ z ∈ bs, z < 256) (ht : Tab w) :
    Calls Tryd.prog 37 #[.agg (wordsOf hs).toArray, .agg (cellsOf bs).toArray] w fun e w' => e = .returned (.agg (wordsOf (Sha.mix hs bs)).toArray) ∧ Below w.heap.size w w' := by
  go_enter Tryd.func37, Tryd.ntmps37
  have hpos := ht.pos
  have hib : (Tryd.prog.info? 88).map (·.size) = some (cellsOf bs).toArray.size := by rw [cellsOf_size, hl]; exact info_block
  go_wp2_with (first | (refine wpList_load_row (by rfl) 88 _ (by rfl) (w.heap.size + 1) (by rfl) _ (cellsOf bs).toArray (0, 0) _ (by exact (heap_new3 _ _ _ _).2.1) Tryd.underlying88 (by rfl) hib ?_))
  refine (schedule_c bs _ hl hb).mono ?_
  rintro en w1 ⟨rfl, hb1⟩
  have hv1 : Wrow w1 w.heap.size 86 hs := (hb1.block _ (by simp <;> omega)).trans (heap_new3 _ _ _ _).1
  have hr1 : Wrow w1 (w.heap.size + 1 + 1) 86 (List.replicate 8 0) := (hb1.block _ (by simp <;> omega)).trans (heap_new3 _ _ _ _).2.2
  have hB1 : Below w.heap.size w w1 := Below.trans ((((Below.refl _ _).alloc (by omega) _).alloc (by simp) _).alloc (by simp; omega) _) (hb1.mono (by simp; omega))
  have hs1 : w.heap.size + 3 ≤ w1.heap.size := by have := hb1.size; simp at this; omega
  have ht1 : Tab w1 := ht.below hB1 hpos
  clear hb1 hib
  have hl64 := Sha.sch_len bs 64
  have hi64 : (Tryd.prog.info? 110).map (·.size) = some (wordsOf (Sha.sch bs 64)).toArray.size := by rw [wordsOf_size, hl64]; exact info_w64
  obtain ⟨A, hA⟩ : ∃ A, A = (wordsOf (Sha.sch bs 64)).toArray := ⟨_, rfl⟩
  have hone : A.all (·.oneCell') = true := by rw [hA]; exact wordsOf_one _
  rw [← hA] at hi64
  rw [← hA]
  have ho : (wordsOf (List.replicate 64 0)).toArray.size = A.size := by rw [hA, wordsOf_size, wordsOf_size, hl64]; rfl
  obtain ⟨x0, x1, x2, x3, x4, x5, x6, x7, rfl⟩ : ∃ x0 x1 x2 x3 x4 x5 x6 x7, hs = [x0, x1, x2, x3, x4, x5, x6, x7] := by
    match hs, hh with
    | [x0, x1, x2, x3, x4, x5, x6, x7], _ => exact ⟨_, _, _, _, _, _, _, _, rfl⟩
  have K1 := Lib.hid (fun (X : Obj) (hX : X = .cells (wordsOf (List.replicate 64 0)).toArray 110 (0, 0)) => show
      (Wrow ((w1.alloc X).setRow w1.heap.size A) w.heap.size 86 [x0, x1, x2, x3, x4, x5, x6, x7] ∧ Wrow ((w1.alloc X).setRow w1.heap.size A) (w.heap.size + 1 + 1) 86 (List.replicate 8 0) ∧
       ((w1.alloc X).setRow w1.heap.size A).heap[w1.heap.size]? = some (.cells A 110 (0, 0)) ∧ Below w.heap.size w ((w1.alloc X).setRow w1.heap.size A) ∧ Tab ((w1.alloc X).setRow w1.heap.size A)) from by
    have hb2 : Below w1.heap.size w1 ((w1.alloc X).setRow w1.heap.size A) := ((Below.refl _ _).alloc (Nat.le_refl _) _).setRow (Nat.le_refl _) _
    refine ⟨hv1.below hb2 (by omega), hr1.below hb2 (by omega), setRow_heap _ _ _ _ _ _ (by rw [hX]; exact heap_new _ _), hB1.trans (hb2.mono (by omega)), ht1.below hb2 (by omega)⟩)
  have hg1 : w.heap.size + 3 ≤ w1.heap.size := hs1
  have h32 : ∀ z ∈ [x0, x1, x2, x3, x4, x5, x6, x7], z < 4294967296 := hhs
  have H32 := Lib.hid h32
  clear hv1 hr1 hB1 ht1 hs1 hhs hh hl hb h32
  have hhid := Lib.hid hi64
  have hohid := Lib.hid ho
  have honeh := Lib.hid hone
  have HA := Lib.hid hA
  have HL64 := Lib.hid hl64
  clear hi64 ho hone hA hl64
  go_wp2_with (first | (refine wpList_store_row (by rfl) 110 _ _ (by rfl) w1.heap.size A (by rfl) (by rfl) 110 (wordsOf (List.replicate 64 0)).toArray (by exact heap_new _ _) hhid.out hohid.out honeh.out ?_; refine gen_world (F := fun W => Wrow W w.heap.size 86 [x0, x1, x2, x3, x4, x5, x6, x7] ∧ Wrow W (w.heap.size + 1 + 1) 86 (List.replicate 8 0) ∧ W.heap[w1.heap.size]? = some (.cells A 110 (0, 0)) ∧ Below w.heap.size w W ∧ Tab W) (K1.out _ rfl) ?_; rintro w2 ⟨hv2, hr2, ha2, hB2, ht2⟩; clear K1 hhid hohid honeh; have hV := Lib.hid hv2; have hR := Lib.hid hr2; have hAA := Lib.hid ha2; have hBB := Lib.hid hB2; have hTT := Lib.hid ht2; clear hv2 hr2 ha2 hB2 ht2))
  have e0 : w2.cell? ⟨w.heap.size, 0, none⟩ = some (.int .u32 (x0 : Int)) := hV.out.cell 0 (by simp)
  have e0' : ∀ q, (w2.drewN q).cell? ⟨w.heap.size, 0, none⟩ = some (.int .u32 (x0 : Int)) := fun q => e0
  have e1 : w2.cell? ⟨w.heap.size, 1, none⟩ = some (.int .u32 (x1 : Int)) := hV.out.cell 1 (by simp)
  have e1' : ∀ q, (w2.drewN q).cell? ⟨w.heap.size, 1, none⟩ = some (.int .u32 (x1 : Int)) := fun q => e1
  have e2 : w2.cell? ⟨w.heap.size, 2, none⟩ = some (.int .u32 (x2 : Int)) := hV.out.cell 2 (by simp)
  have e2' : ∀ q, (w2.drewN q).cell? ⟨w.heap.size, 2, none⟩ = some (.int .u32 (x2 : Int)) := fun q => e2
  have e3 : w2.cell? ⟨w.heap.size, 3, none⟩ = some (.int .u32 (x3 : Int)) := hV.out.cell 3 (by simp)
  have e3' : ∀ q, (w2.drewN q).cell? ⟨w.heap.size, 3, none⟩ = some (.int .u32 (x3 : Int)) := fun q => e3
  have e4 : w2.cell? ⟨w.heap.size, 4, none⟩ = some (.int .u32 (x4 : Int)) := hV.out.cell 4 (by simp)
  have e4' : ∀ q, (w2.drewN q).cell? ⟨w.heap.size, 4, none⟩ = some (.int .u32 (x4 : Int)) := fun q => e4
  have e5 : w2.cell? ⟨w.heap.size, 5, none⟩ = some (.int .u32 (x5 : Int)) := hV.out.cell 5 (by simp)
  have e5' : ∀ q, (w2.drewN q).cell? ⟨w.heap.size, 5, none⟩ = some (.int .u32 (x5 : Int)) := fun q => e5
  have e6 : w2.cell? ⟨w.heap.size, 6, none⟩ = some (.int .u32 (x6 : Int)) := hV.out.cell 6 (by simp)
  have e6' : ∀ q, (w2.drewN q).cell? ⟨w.heap.size, 6, none⟩ = some (.int .u32 (x6 : Int)) := fun q => e6
  have e7 : w2.cell? ⟨w.heap.size, 7, none⟩ = some (.int .u32 (x7 : Int)) := hV.out.cell 7 (by simp)
  have e7' : ∀ q, (w2.drewN q).cell? ⟨w.heap.size, 7, none⟩ = some (.int .u32 (x7 : Int)) := fun q => e7
  go_wp2
  go_quiet (fail)
  clear e0 e0' e1 e1' e2 e2' e3 e3' e4 e4' e5 e5' e6 e6' e7 e7'
  go_wp2_with fail
  obtain ⟨ws, hws⟩ : ∃ ws, ws = Sha.sch bs 64 := ⟨_, rfl⟩
  have HWS := Lib.hid hws
  have hwl : ws.length = 64 := by rw [hws]; exact HL64.out
  have hrow : w2.heap[w1.heap.size]? = some (.cells (wordsOf ws).toArray 110 (0, 0)) := by rw [hws, ← HA.out]; exact hAA.out
  have HROW := Lib.hid hrow
  have HWL := Lib.hid hwl
  clear hws hrow hwl
  have h32 := H32.out
  have hok0 : (Sha.r8 [x0, x1, x2, x3, x4, x5, x6, x7]).ok := ⟨h32 x0 (by simp), h32 x1 (by simp), h32 x2 (by simp), h32 x3 (by simp), h32 x4 (by simp), h32 x5 (by simp), h32 x6 (by simp), h32 x7 (by simp)⟩
  have HOK := Lib.hid hok0
  clear hok0 h32
  go_loopw [6, 7, 8, 9, 10, 11, 12, 13, 35] (fun va vb vc vd ve vf vg vh i wr => ∃ (k : Nat) (r : Sha.R8), k ≤ 64 ∧ i = .int .i64 k ∧ va = .int .u32 (r.a : Int) ∧ vb = .int .u32 (r.b : Int) ∧ vc = .int .u32 (r.c : Int) ∧ vd = .int .u32 (r.d : Int) ∧ ve = .int .u32 (r.e : Int) ∧ vf = .int .u32 (r.f : Int) ∧ vg = .int .u32 (r.g : Int) ∧ vh = .int .u32 (r.h : Int) ∧ r = Sha.rnds (Sha.r8 [x0, x1, x2, x3, x4, x5, x6, x7]) ws k ∧ Hid (∃ q, wr = w2.drewN q)) (fun _ _ _ _ _ _ _ _ i _ => 64 - (intOf i).toNat)
  case atStart => exact ⟨0, _, by omega, rfl, rfl, rfl, rfl, rfl, rfl, rfl, rfl, rfl, rfl, Lib.hid ⟨nq, rfl⟩⟩
  case round =>
    obtain ⟨k, r, hk, rfl, rfl, rfl, rfl, rfl, rfl, rfl, rfl, rfl, hr, HQ⟩ := hrel
    have hok := Sha.rnds_ok HOK.out ws k
    rw [← hr] at hok
    obtain ⟨a, b, c, d, e, f, g, h⟩ := r
    obtain ⟨oa, ob, oc, od, oe, of, og, oh⟩ := hok
    dsimp only at oa ob oc od oe of og oh
    have HR := Lib.hid hr
    have R6 := Lib.hid (show ∀ W : World, Calls Tryd.prog 59 #[.int .u32 (e : Int), .int .i64 6] W (fun e' w' => e' = .returned (.int .u32 ((Rotm.rot e 6 : Nat) : Int)) ∧ w' = W) from fun W => rotq e 6 (by decide) W oe)
    have R11 := Lib.hid (show ∀ W : World, Calls Tryd.prog 59 #[.int .u32 (e : Int), .int .i64 11] W (fun e' w' => e' = .returned (.int .u32 ((Rotm.rot e 11 : Nat) : Int)) ∧ w' = W) from fun W => rotq e 11 (by decide) W oe)
    have R25 := Lib.hid (show ∀ W : World, Calls Tryd.prog 59 #[.int .u32 (e : Int), .int .i64 25] W (fun e' w' => e' = .returned (.int .u32 ((Rotm.rot e 25 : Nat) : Int)) ∧ w' = W) from fun W => rotq e 25 (by decide) W oe)
    have T2 := Lib.hid (show ∀ W : World, Calls Tryd.prog 59 #[.int .u32 (a : Int), .int .i64 2] W (fun e' w' => e' = .returned (.int .u32 ((Rotm.rot a 2 : Nat) : Int)) ∧ W = w') from fun W => rotn a 2 (by decide) W oa)
    have T13 := Lib.hid (show ∀ W : World, Calls Tryd.prog 59 #[.int .u32 (a : Int), .int .i64 13] W (fun e' w' => e' = .returned (.int .u32 ((Rotm.rot a 13 : Nat) : Int)) ∧ W = w') from fun W => rotn a 13 (by decide) W oa)
    have T22 := Lib.hid (show ∀ W : World, Calls Tryd.prog 59 #[.int .u32 (a : Int), .int .i64 22] W (fun e' w' => e' = .returned (.int .u32 ((Rotm.rot a 22 : Nat) : Int)) ∧ W = w') from fun W => rotn a 22 (by decide) W oa)
    have OA := Lib.hid oa
    have OB := Lib.hid ob
    have OC := Lib.hid oc
    have OD := Lib.hid od
    have OE := Lib.hid oe
    have OF := Lib.hid of
    have OG := Lib.hid og
    have OH := Lib.hid oh
    clear hr oa ob oc od oe of og oh
    by_cases hk64 : k < 64
    · have ck0 : wr.cell? ⟨0, k, none⟩ = some (.int .u32 ((Sha.K.getD k 0 : Nat) : Int)) := by obtain ⟨q, rfl⟩ := HQ.out; exact hTT.out k hk64
      have cw0 : wr.cell? ⟨w1.heap.size, k, none⟩ = some (.int .u32 ((ws.getD k 0 : Nat) : Int)) := by obtain ⟨q, rfl⟩ := HQ.out; exact Wrow.cell (t := 110) HROW.out k (by rw [HWL.out]; exact hk64)
      obtain ⟨kk, hkk⟩ : ∃ z, z = Sha.K.getD k 0 := ⟨_, rfl⟩
      obtain ⟨wk, hwk⟩ : ∃ z, z = ws.getD k 0 := ⟨_, rfl⟩
      rw [← hkk] at ck0
      rw [← hwk] at cw0
      have ck : ∀ q, (wr.drewN q).cell? ⟨0, k, none⟩ = some (.int .u32 (kk : Int)) := fun q => ck0
      have cw : ∀ q, (wr.drewN q).cell? ⟨w1.heap.size, k, none⟩ = some (.int .u32 (wk : Int)) := fun q => cw0
      have HKK := Lib.hid hkk
      have HWK := Lib.hid hwk
      clear hkk hwk
      have q1 : (0 : Int) ≤ (k : Int) := by omega
      have q2 : (k : Int) < 64 := by omega
      go_upto_region 6 with fail
      go_cut [15, 35] from 35 to 97 (fun s15 s35 wx => s15 = .int .u32 ((Sha.tx ⟨a, b, c, d, e, f, g, h⟩ kk wk : Nat) : Int) ∧ s35 = .int .i64 (k : Int) ∧ ∃ n, wx = wr.drewN n)
      case first =>
        go_quiet ((go_at_call 59; first | with_reducible exact Calls.quiet_of_same (R6.out _) | with_reducible exact Calls.quiet_of_same (R11.out _) | with_reducible exact Calls.quiet_of_same (R25.out _)))
        clear ck cw ck0 cw0
        with_reducible rw [s1_int e, ch_int e f g OE.out OF.out OG.out]
        with_reducible generalize hx : Value.int IntKind.u32 ((_ % 4294967296 + (wk : Int)) % 4294967296) = x64
        with_reducible generalize Value.int IntKind.u32 (_ % 4294967296) = zm0
        with_reducible generalize Value.int IntKind.u32 (_ % 4294967296) = zm1
        with_reducible generalize Value.int IntKind.u32 (_ % 4294967296) = zm2
        with_reducible generalize Value.int IntKind.u32 (bits _ _ _ _) = zb0
        with_reducible generalize Value.int IntKind.u32 (bits _ _ _ _) = zb1
        with_reducible generalize Value.int IntKind.u32 (bits _ _ _ _) = zb2
        with_reducible generalize Value.int IntKind.u32 (bits _ _ _ _) = zb3
        have HX := Lib.hid hx
        clear hx
        go_wp2
        go_meet
        refine ⟨?_, rfl, nq, rfl⟩
        exact HX.out.symm.trans (tx_val a b c d e f g h kk wk)
      case rest =>
        obtain ⟨rfl, rfl, hq2⟩ := hcut
        have HQ1 : Hid (∃ q, wc = w2.drewN q) := by
          obtain ⟨q, rfl⟩ := HQ.out
          obtain ⟨n, rfl⟩ := hq2
          exact Lib.hid ⟨q + n, drewN_add _ _ _⟩
        clear hq2 HQ ck cw ck0 cw0
        go_upto_region 7 with fail
        go_cut [16, 35] from 35 to 97 (fun s16 s35 wx => s16 = .int .u32 ((Sha.ty ⟨a, b, c, d, e, f, g, h⟩ : Nat) : Int) ∧ s35 = .int .i64 (k : Int) ∧ wx = wc)
        case first =>
          obtain ⟨y1, y3, y4, y5, y6, s0, m, t, f1, f2, f3, f4, f5, f6, f7, f8, f9⟩ := ty_facts a b c d e f g h OA.out OB.out OC.out
          obtain ⟨r2, hr2⟩ : ∃ z, z = Rotm.rot a 2 := ⟨_, rfl⟩
          obtain ⟨r13, hr13⟩ : ∃ z, z = Rotm.rot a 13 := ⟨_, rfl⟩
          obtain ⟨r22, hr22⟩ : ∃ z, z = Rotm.rot a 22 := ⟨_, rfl⟩
          rw [← hr2] at T2 f1
          rw [← hr13] at T13 f1
          rw [← hr22] at T22 f2
          have F9 := Lib.hid f9
          have F8 := Lib.hid f8
          clear f8 f9 hr2 hr13 hr22
          go_wp2_with fail
          with_reducible refine (T2.out _).mono ?_
          rintro en wx ⟨rfl, rfl⟩
          go_wp2_with fail
          with_reducible refine (T13.out _).mono ?_
          rintro en wx ⟨rfl, rfl⟩
          go_wp2_with fail
          with_reducible refine (T22.out _).mono ?_
          rintro en wx ⟨rfl, rfl⟩
          go_wp2_with fail
          go_meet
          exact ⟨u32_eq (F8.out.trans (by rw [F9.out])), rfl, rfl⟩
        case rest =>
          obtain ⟨rfl, rfl, rfl⟩ := hcut
          obtain ⟨tx, htx⟩ : ∃ z, z = Sha.tx ⟨a, b, c, d, e, f, g, h⟩ kk wk := ⟨_, rfl⟩
          obtain ⟨ty, hty⟩ : ∃ z, z = Sha.ty ⟨a, b, c, d, e, f, g, h⟩ := ⟨_, rfl⟩
          rw [← htx, ← hty]
          obtain ⟨t1, ht1, hT1⟩ : ∃ z : Nat, ((tx : Int) + (ty : Int)) % 4294967296 = (z : Int) ∧ z = Sha.add tx ty := ⟨_, by unfold Sha.add; omega, rfl⟩
          obtain ⟨t2, ht2, hT2⟩ : ∃ z : Nat, ((d : Int) + (tx : Int)) % 4294967296 = (z : Int) ∧ z = Sha.add d tx := ⟨_, by unfold Sha.add; omega, rfl⟩
          have HTX := Lib.hid htx
          have HTY := Lib.hid hty
          have HT1 := Lib.hid hT1
          have HT2 := Lib.hid hT2
          clear htx hty hT1 hT2
          have HE1 := Lib.hid ht1
          have HE2 := Lib.hid ht2
          clear ht1 ht2
          go_wp2_with fail
          clear q1 q2
          refine ⟨?rel, ?measure⟩
          case rel =>
            refine ⟨k + 1, ⟨t1, a, b, c, t2, e, f, g⟩, by omega, by go_num, u32_eq HE1.out, rfl, rfl, rfl, u32_eq HE2.out, rfl, rfl, rfl, ?_, HQ1⟩
            rw [HT1.out, HT2.out, HTX.out, HTY.out, HKK.out, HWK.out, Sha.rnds, ← HR.out]
            rfl
          case measure => simp [intOf]; omega
    · obtain rfl : k = 64 := by omega
      have hres : wr.heap[w.heap.size + 1 + 1]? = some (.cells (wordsOf (List.replicate 8 0)).toArray 86 (0, 0)) := by obtain ⟨q, rfl⟩ := HQ.out; exact hR.out
      have hbel : Below w.heap.size w wr := by obtain ⟨q, rfl⟩ := HQ.out; exact hBB.out.trans (below_drewN' _ _ _)
      have e0 : wr.cell? ⟨w.heap.size, 0, none⟩ = some (.int .u32 (x0 : Int)) := by obtain ⟨q, rfl⟩ := HQ.out; exact hV.out.cell 0 (by simp)
      have e1 : wr.cell? ⟨w.heap.size, 1, none⟩ = some (.int .u32 (x1 : Int)) := by obtain ⟨q, rfl⟩ := HQ.out; exact hV.out.cell 1 (by simp)
      have e2 : wr.cell? ⟨w.heap.size, 2, none⟩ = some (.int .u32 (x2 : Int)) := by obtain ⟨q, rfl⟩ := HQ.out; exact hV.out.cell 2 (by simp)
      have e3 : wr.cell? ⟨w.heap.size, 3, none⟩ = some (.int .u32 (x3 : Int)) := by obtain ⟨q, rfl⟩ := HQ.out; exact hV.out.cell 3 (by simp)
      have e4 : wr.cell? ⟨w.heap.size, 4, none⟩ = some (.int .u32 (x4 : Int)) := by obtain ⟨q, rfl⟩ := HQ.out; exact hV.out.cell 4 (by simp)
      have e5 : wr.cell? ⟨w.heap.size, 5, none⟩ = some (.int .u32 (x5 : Int)) := by obtain ⟨q, rfl⟩ := HQ.out; exact hV.out.cell 5 (by simp)
      have e6 : wr.cell? ⟨w.heap.size, 6, none⟩ = some (.int .u32 (x6 : Int)) := by obtain ⟨q, rfl⟩ := HQ.out; exact hV.out.cell 6 (by simp)
      have e7 : wr.cell? ⟨w.heap.size, 7, none⟩ = some (.int .u32 (x7 : Int)) := by obtain ⟨q, rfl⟩ := HQ.out; exact hV.out.cell 7 (by simp)
      have HRES := Lib.hid hres
      have HBEL := Lib.hid hbel
      have HMIX := Lib.hid (mix_cells x0 x1 x2 x3 x4 x5 x6 x7 bs ws _ HWS.out HR.out)
      obtain ⟨C, hC⟩ : ∃ C : Array Value, C = #[.int .u32 (((x0 : Int) + (a : Int)) % 4294967296), .int .u32 (((x1 : Int) + (b : Int)) % 4294967296), .int .u32 (((x2 : Int) + (c : Int)) % 4294967296), .int .u32 (((x3 : Int) + (d : Int)) % 4294967296), .int .u32 (((x4 : Int) + (e : Int)) % 4294967296), .int .u32 (((x5 : Int) + (f : Int)) % 4294967296), .int .u32 (((x6 : Int) + (g : Int)) % 4294967296), .int .u32 (((x7 : Int) + (h : Int)) % 4294967296)] := ⟨_, rfl⟩
      have hwi : (Tryd.prog.info? 86).map (·.size) = some C.size := by rw [hC]; exact info_words
      have hCs : (wordsOf (List.replicate 8 0)).toArray.size = C.size := by rw [hC]; rfl
      have hC1 : C.all (·.oneCell') = true := by
        rw [hC]
        refine Array.all_eq_true_iff_forall_mem.2 fun v hv => ?_
        simp only [List.mem_toArray, List.mem_cons, List.not_mem_nil, or_false] at hv
        rcases hv with rfl | rfl | rfl | rfl | rfl | rfl | rfl | rfl <;> rfl
      have hin := Lib.hid (setRow_heap wr (w.heap.size + 1 + 1) _ C _ _ HRES.out)
      have HC := Lib.hid hC
      have HWI := Lib.hid hwi
      have HCS := Lib.hid hCs
      have HC1 := Lib.hid hC1
      clear hres hbel hwi hk hk64 hC hCs hC1
      go_wp2_with (first | (refine wpList_store_row (by rfl) 86 _ _ (by rfl) (w.heap.size + 1 + 1) C (by rfl) (by rw [HC.out]; rfl) 86 (wordsOf (List.replicate 8 0)).toArray HRES.out HWI.out HCS.out HC1.out ?_))
      refine bodyPost_ret (results_cell_row (by rfl) _ _ (w.heap.size + 1 + 1) _ C (0, 0) _ (by rfl) hin.out Tryd.underlying86 (by rfl) HWI.out) ?_ ?_
      · rfl
      · refine ⟨?_, HBEL.out.setRow (by omega) _⟩
        rw [HMIX.out, HC.out]
        rw [add_val, add_val, add_val, add_val, add_val, add_val, add_val, add_val]
end Go.Proofs.YtmomdfmilelilaaDoor
namespace Go.Proofs.YtmomdfmilelilaaDoor
open Go.RowKit
set_option linter.unusedVariables false

theorem Own.keep {w w' : World} {B : Nat} {v : Value} {zs : List Nat} (h : Own w B v zs) (hb : Below w.heap.size w w') : Own w' B v zs := by
  refine ⟨h.1, ?_⟩
  rcases h.2 with h0 | ⟨g, cap, cur, h1, h2, h3, h4⟩
  · exact .inl h0
  · exact .inr ⟨g, cap, cur, h1, h2, (hb.block g (Array.getElem?_eq_some_iff.1 h3).1).trans h3, h4⟩
/-- a new state -/
def RetP (B : Nat) (w : World) (hs : List Nat) (bs : List Nat) (n : Nat) (e : Ending) (w' : World) : Prop :=
  ∃ g, e = .returned (.pointer (some ⟨g, 0, none⟩)) ∧ B ≤ g ∧ St w' g hs bs n ∧ Below B w w'
set_option maxRecDepth 100000 in
theorem new_c (w : World) : Calls Tryd.prog 21 #[] w (RetP w.heap.size w Sha.H0 (List.replicate 64 0) 0) := by
  go_enter Tryd.func21, Tryd.ntmps21
  go_wp2_with (first | (refine wpList_buildTo (by rfl) 90 _ (by rfl) (some 2) (by rfl) (stCells Sha.H0 (List.replicate 64 0) 0).toArray (by kernel_rfl) ?_))
  go_ret
  exact ⟨w.heap.size, rfl, Nat.le_refl _, ⟨heap_new _ _, Sha.W8.H0, rfl, by decide, by omega⟩, (Below.refl _ _).alloc (Nat.le_refl _) _⟩

theorem and63 (n : Nat) (hn : n ≤ 2305843009213693951) : bits .and .i64 (n : Int) 63 = ((n % 64 : Nat) : Int) := by
  show IntKind.i64.wrap ((BitVec.ofInt 64 n &&& BitVec.ofInt 64 63).toNat : Int) = _
  have h : (BitVec.ofInt 64 n &&& BitVec.ofInt 64 63).toNat = (BitVec.ofInt 64 n).toNat % 64 := by
    rw [BitVec.toNat_and, show (BitVec.ofInt 64 63).toNat = 2 ^ 6 - 1 by rfl, Nat.and_two_pow_sub_one_eq_mod]
  have h2 : ((BitVec.ofInt 64 (n : Int)).toNat : Int) = n := by
    rw [BitVec.toNat_ofInt]
    omega
  rw [h]
  have : IntKind.i64.wrap (((BitVec.ofInt 64 (n : Int)).toNat % 64 : Nat) : Int) = (((BitVec.ofInt 64 (n : Int)).toNat % 64 : Nat) : Int) := by
    simp [IntKind.wrap, IntKind.bits, IntKind.signed]
    omega
  rw [this]
  omega
theorem waiting_c (w : World) (g : Nat) (hs bs : List Nat) (n : Nat) (h : St w g hs bs n) :
    Calls Tryd.prog 36 #[.pointer (some ⟨g, 0, none⟩)] w fun e w' => e = .returned (.int .i64 ((n % 64 : Nat) : Int)) ∧ w = w' := by
  have hc := h.size
  have ha := and63 n h.nn
  clear h
  go_enter Tryd.func36, Tryd.ntmps36
  go_wp2
  go_ret
  exact ⟨rfl, rfl⟩
theorem run_index_words (ws : List Nat) (k : Nat) (hk : k < ws.length) (ty n : Nat) (hu : Tryd.prog.underlying ty = some (.array n 84)) (hn : ws.length = n) (W : World) :
    (Instr.index ty (.agg (wordsOf ws).toArray) (.int .i64 (k : Int))).run Tryd.prog W = .ok (.int .u32 ((ws.getD k 0 : Nat) : Int)) W := by
  have h1 := wordsOf_get ws k hk
  simp [Instr.index, run_underlying hu, asIntOf, go_sem]
  rw [List.getElem?_toArray] at h1
  rw [if_pos (by omega), h1]
  simp
theorem bytesOf_snoc (hs : List Nat) (k : Nat) (h : k < hs.length) : Sha.bytesOf (hs.take (k + 1)) = Sha.bytesOf (hs.take k) ++ Numm.put hs[k] 4 := by
  unfold Sha.bytesOf
  rw [take_snoc _ _ h, List.flatMap_append]
  simp
theorem bytesOf_len (hs : List Nat) : (Sha.bytesOf hs).length = 4 * hs.length := by
  induction hs with
  | nil => rfl
  | cons h hs ih => simp only [Sha.bytesOf, List.flatMap_cons, List.length_append, Numm.put_len, List.length_cons] at *; omega
set_option maxRecDepth 100000 in
set_option maxHeartbeats 800000 in
theorem spread_c (hs : List Nat) (w : World) (h8 : Sha.W8 hs) :
    Calls Tryd.prog 39 #[.agg (wordsOf hs).toArray] w (RetB w.heap.size w (Sha.bytesOf hs)) := by
  obtain ⟨i0, hi, hz0, hz1, hz2⟩ := info_parts byteInfo
  go_enter Tryd.func39, Tryd.ntmps39
  have hw8 : (Tryd.prog.info? 86).map (·.size) = some (wordsOf hs).toArray.size := by rw [wordsOf_size, h8.1]; exact info_words
  go_wp2_with (at_make; refine wpList_make_own _ rfl _ _ 33 rfl w.heap.size 5 i0 (.int .u8 0) 1 Tryd.underlying33 hi hz0 hz1 .i64 .i64 _ 32 rfl rfl rfl (by rw [hz2]; omega) (by unfold maxLen; omega) (by simp) ?_)
  intro w0 hown0 hg0
  have hb1 := (Below.refl (w.heap.size + 1) (w.alloc (.cells (wordsOf hs).toArray 86))).grown hg0 (by simp) (by simp)
  have hb0 : Below w.heap.size w w0 := ((Below.refl _ _).alloc (Nat.le_refl _) _).trans (hb1.mono (by omega))
  have hrow : w0.heap[w.heap.size]? = some (.cells (wordsOf hs).toArray 86 (0, 0)) := (hb1.block _ (by omega)).trans (heap_new _ _)
  have hown : Own w0 w.heap.size (.slice (some ⟨w.heap.size + 1, 0, none⟩) 0 32) [] := hown0
  clear hown0 hg0 hb1
  go_wp2_with (first | (refine wpList_load_row (by rfl) 86 _ (by rfl) w.heap.size (by rfl) _ (wordsOf hs).toArray (0, 0) _ hrow Tryd.underlying86 (by rfl) hw8 ?_))
  clear hrow
  go_loopw [3, 8] (fun v i wr => ∃ k : Nat, k ≤ 8 ∧ i = .int .i64 k ∧ Own wr w.heap.size v (Sha.bytesOf (hs.take k)) ∧ Below w.heap.size w wr) (fun _ i _ => 8 - (intOf i).toNat)
  case atStart => exact ⟨0, by omega, rfl, hown, hb0⟩
  case round =>
    clear hown hb0
    obtain ⟨k, hk, rfl, hown, hnx⟩ := hrel
    by_cases hk8 : k < 8
    · have hix : ∀ W : World, (Instr.index 86 (.agg (wordsOf hs).toArray) (.int .i64 (k : Int))).run Tryd.prog W = .ok (.int .u32 ((hs.getD k 0 : Nat) : Int)) W := by
        exact run_index_words hs k (by rw [h8.1]; exact hk8) 86 8 Tryd.underlying86 (by rw [h8.1])
      obtain ⟨x, hx⟩ : ∃ x, x = hs.getD k 0 := ⟨_, rfl⟩
      have hx32 : x < 4294967296 := by rw [hx, getD_at _ _ (by rw [h8.1]; exact hk8)]; exact h8.2 _ (List.getElem_mem _)
      rw [← hx] at hix
      have HX := Lib.hid hx
      clear hx
      go_wp2_with fail
      refine ((put_in x 4 _ (by omega) (by omega)).mono (RetB.form (Numm.put_byte _ _))).mono ?_
      rintro e1 w1 ⟨a1, L1, c1, rfl, hl1, hlc1, hc1, hn1, hr1, ho1, hb1⟩
      have hB1 := hnx.trans (hb1.mono hnx.size)
      have hown1 : Own w1 w.heap.size u3 (Sha.bytesOf (hs.take k)) := hown.keep hb1
      have hln := bytesOf_len (hs.take k)
      have hlen : (Sha.bytesOf (hs.take k)).length + (Numm.put x 4).length ≤ 140737488355328 := by rw [hln, List.length_take, hl1]; have := Numm.put_len x 4; omega
      clear hln hix hown hl1 hlc1 hc1 ho1 hb1
      go_wp2_with (at_builtin; (refine wpList_cat rfl _ _ rfl w.heap.size u3 (Sha.bytesOf (hs.take k)) (Numm.put x 4) rfl hown1 hB1.size a1 L1 c1 rfl hr1 hn1 hlen ?_))
      intro v2 w2 hown2 hb2
      have hB2 := hB1.trans hb2
      clear hown1 hr1 hn1 hlen hB1 hb2
      go_wp2
      go_roundw
      case rel => exact ⟨k + 1, by omega, by go_num, by rw [bytesOf_snoc hs k (by rw [h8.1]; exact hk8), ← getD_at hs k, ← HX.out]; exact hown2, hB2⟩
      case measure => simp [intOf]; omega
    · obtain rfl : k = 8 := by omega
      rw [List.take_of_length_le (by rw [h8.1]; omega)] at hown
      go_wp2
      go_ret
      exact ⟨_, rfl, hown, hnx⟩
end Go.Proofs.YtmomdfmilelilaaDoor
namespace Go.Proofs.YtmomdfmilelilaaDoor
open Go.RowKit
set_option linter.unusedVariables false

theorem Only.setRow {g : Nat} {a w : World} (h : Only g a w) (cs : Array Value) : Only g a (w.setRow g cs) :=
  ⟨h.os, h.tape, h.output, by simp [h.size], fun k hk hg => (setRow_other w g k cs hg).trans (h.block k hk hg)⟩
/-- the block that an address lies in -/
def blkOf (a : Option Addr) : Option Nat := a.map (·.block)
theorem Only.rd' {g : Nat} {w w' : World} (h : Only g w w') {a : Option Addr} {len : Nat} {zs : List Nat} (hr : Rd w a len zs) (hg : 0 < len → blkOf a ≠ some g) : Rd w' a len zs := by
  by_cases h0 : 0 < len
  · exact h.rd hr fun b off hb => by
      have := hg h0
      rw [hb] at this
      simpa [blkOf] using this
  · exact ⟨hr.1, hr.2.1, .inl (by omega)⟩
theorem Rd.blk {w : World} {a : Option Addr} {len : Nat} {zs : List Nat} (hr : Rd w a len zs) (g : Nat) (hg : w.heap.size ≤ g) : 0 < len → blkOf a ≠ some g := by
  intro h0
  rcases hr.2.2 with h | ⟨b, off, rfl, hb, _⟩
  · omega
  · simp [blkOf]; omega
/-- copy(d, s) into a row -/
theorem wpList_copy_only {P : Program} {w : World} {ops : Array Oper} {rest : List Oper} {o : Oper} {a : Act} {Q : Exit → Act → World → Prop} (hgd : o.guard = none) (d s : Operand) (dT sT : TypeId)
    (ho : o.op = .call { callee := .builtin .copy, args := #[d, s], argTypes := #[dT, sT] }) (elem : TypeId) (hu : P.underlying dT = some (.slice elem)) (hsz : (P.info? elem).map (·.size) = some 1)
    (dp sp : Option Addr) (dLen dCap sLen sCap : Nat) (hd : a.eval d = .slice dp dLen dCap) (hs : a.eval s = .slice sp sLen sCap)
    (g off : Nat) (cur : List Value) (t : TypeId) (hg : w.heap[g]? = some (.cells cur.toArray t (0, 0))) (cs : List Value) (hn : cs.length = Nat.min sLen dLen)
    (hpos : 0 < cs.length → dp = some ⟨g, off, none⟩ ∧ ∃ ad, sp = some ad ∧ ∀ j v, cs[j]? = some v → w.cell? (ad.add j) = some v)
    (hfit : off + cs.length ≤ cur.length) (h1 : ∀ v ∈ cs, v.oneCell' = true)
    (h : ∀ w', Hid (w'.heap[g]? = some (.cells (splice cur off cs).toArray t (0, 0))) → Only g w w' → wpList P ops Q rest (a.put o.dst (.int .i64 (cs.length : Int))) w') :
    wpList P ops Q (o :: rest) a w := by
  by_cases h0 : cs.length = 0
  · obtain rfl : cs = [] := List.eq_nil_of_length_eq_zero h0
    refine wpList_copy_nothing hgd d s dT sT ho elem hu hsz dp sp dLen dCap sLen sCap hd hs (by simpa using hn.symm) ?_
    exact h w (show _ = _ by simpa [splice] using hg) (Only.refl _ _)
  · obtain ⟨rfl, ad, rfl, hsrc⟩ := hpos (by omega)
    refine wpList_copy_own hgd d s dT sT ho elem hu hsz g off dLen dCap ad sLen sCap hd hs cur.toArray t hg cs hn hsrc (by simpa using hfit) h1 ?_
    exact h _ (show _ = _ by simpa [splice] using setRow_heap w g _ _ t _ hg) ((Only.refl _ _).setRow _)
/-- what is read, cell by cell -/
theorem Rd.src {w : World} {a : Option Addr} {len : Nat} {zs : List Nat} (h : Rd w a len zs) (m : Nat) (hm : m ≤ len) (h0 : 0 < (cellsOf (zs.take m)).length) :
    ∃ ad, a = some ad ∧ ∀ j v, (cellsOf (zs.take m))[j]? = some v → w.cell? (ad.add j) = some v := by
  obtain ⟨h1, h2, h3⟩ := h
  rw [cellsOf_length, List.length_take] at h0
  rcases h3 with h3 | ⟨b, off, rfl, hb, hcell⟩
  · omega
  · refine ⟨_, rfl, fun j v hv => ?_⟩
    have hj : j < m := by
      have := (List.getElem?_eq_some_iff.1 hv).1
      rw [cellsOf_length, List.length_take] at this
      omega
    rw [cellsOf_get _ _ (by rw [List.length_take]; omega)] at hv
    cases hv
    rw [Addr.add_mid, hcell j (by omega)]
    simp [hj]
/-- a load as a still step -/
theorem wpStill_load {P : Program} {ops : Array Oper} {w : World} {Q : Act → Prop} {rest : List Oper} {o : Oper} {a : Act} (hgd : o.guard = none) (ty : TypeId) (x : Operand) (ho : o.op = .load ty x)
    (p : Value) (hx : a.eval x = p) (v : Value) (hrun : (Instr.loadAt ty p).run P w = .ok v w) (h : wpStill P ops w Q rest (a.put o.dst v)) : wpStill P ops w Q (o :: rest) a := by
  have hw : Region.wanted o (yielded ops a.tmps) = true := by simp [Region.wanted, hgd]
  subst hx
  unfold wpStill
  rw [if_pos hw]
  unfold Oper.still execOp
  simp only [ho, hrun, Sem.run_bind, Result.andThen_ok, Sem.run_pure]
  exact ⟨rfl, h⟩
theorem u8size : (Tryd.prog.info? 5).map (·.size) = some 1 := by kernel_rfl
/-- where the bytes from m on lie -/
def sla (a : Option Addr) (cap m : Nat) : Option Addr := if cap = m then a else a.map (·.add m)
theorem sizeOf_u8 (W : World) : (Go.sizeOf 5).run Tryd.prog W = .ok 1 W := by
  obtain ⟨i0, hi, hz0, hz1, hz2⟩ := info_parts byteInfo
  simp [Go.sizeOf, typeInfo, hi, hz1]
theorem elem_bytes : Tryd.prog.elem 33 = 5 := by kernel_rfl
theorem und_bytes : Tryd.prog.underlying 33 = some (.slice (Tryd.prog.elem 33)) := by rw [elem_bytes]; exact Tryd.underlying33
/-- p[m:] -/
theorem run_cut (W : World) (a : Option Addr) (len cap m : Nat) (h : m ≤ len) :
    (Instr.slice 33 (.slice a len cap) (some (.int .i64 (m : Int))) none none).run Tryd.prog W = .ok (.slice (sla a cap m) (len - m) (cap - m)) W := by
  rw [run_slice_l W _ a len cap und_bytes .i64 (m : Int) (by omega) (by omega), elem_bytes, sizeOf_u8]
  simp [Result.andThen, sliced, sla]
theorem run_cutAt (W : World) (a : Option Addr) (len cap m : Nat) (h : m ≤ len) :
    (Instr.sliceAt 33 (.slice a len cap) (some (.int .i64 (m : Int))) none none).run Tryd.prog W = .ok (.slice (sla a cap m) (len - m) (cap - m)) W := by
  rw [run_sliceAt_slice W _ _ _ _ _ und_bytes]
  exact run_cut W a len cap m h
theorem add_zero' (a : Option Addr) : a.map (·.add 0) = a := by
  cases a with
  | none => rfl
  | some a => obtain ⟨b, o, s⟩ := a; cases s <;> simp [Addr.add]
/-- p[:m] -/
theorem run_head (W : World) (a : Option Addr) (len cap m : Nat) (h : m ≤ cap) :
    (Instr.slice 33 (.slice a len cap) none (some (.int .i64 (m : Int))) none).run Tryd.prog W = .ok (.slice a m cap) W := by
  rw [run_slice_h W _ a len cap und_bytes .i64 (m : Int) (by omega) (by omega), elem_bytes, sizeOf_u8]
  simp [Result.andThen, sliced, add_zero']
theorem run_headAt (W : World) (a : Option Addr) (len cap m : Nat) (h : m ≤ cap) :
    (Instr.sliceAt 33 (.slice a len cap) none (some (.int .i64 (m : Int))) none).run Tryd.prog W = .ok (.slice a m cap) W := by
  rw [run_sliceAt_slice W _ _ _ _ _ und_bytes]
  exact run_head W a len cap m h
/-- p[l:m] -/
theorem run_midAt (W : World) (a : Option Addr) (len cap l m : Nat) (h0 : l ≤ m) (h : m ≤ cap) :
    (Instr.sliceAt 33 (.slice a len cap) (some (.int .i64 (l : Int))) (some (.int .i64 (m : Int))) none).run Tryd.prog W = .ok (.slice (sla a cap l) (m - l) (cap - l)) W := by
  rw [run_sliceAt_slice W _ _ _ _ _ und_bytes, run_slice_lh W _ a len cap und_bytes .i64 .i64 (l : Int) (m : Int) (by omega) (by omega) (by omega), elem_bytes, sizeOf_u8]
  simp [Result.andThen, sliced, sla]
theorem sla_none (a : Option Addr) (cap m : Nat) (h : sla a cap m = none) : a = none := by
  unfold sla at h
  split at h
  · exact h
  · cases a <;> simp_all
theorem Rd.cut {w : World} {a : Option Addr} {len : Nat} {zs : List Nat} (h : Rd w a len zs) (cap m : Nat) (hm : m ≤ len) (hc : len ≤ cap) : Rd w (sla a cap m) (len - m) (zs.drop m) := by
  by_cases h0 : len - m = 0
  · exact ⟨by rw [List.length_drop, h.1], fun z hz => h.2.1 z (List.mem_of_mem_drop hz), .inl h0⟩
  · obtain ⟨h1, h2, h3⟩ := h
    rcases h3 with h3 | ⟨b, off, rfl, hb, hcell⟩
    · omega
    · have e : sla (some ⟨b, off, none⟩) cap m = some ⟨b, off + m, none⟩ := by
        unfold sla
        rw [if_neg (by omega)]
        simp [Addr.add]
      rw [e]
      exact Rd.drop ⟨h1, h2, .inr ⟨b, off, rfl, hb, hcell⟩⟩ m
theorem sla_blk (a : Option Addr) (cap m : Nat) : blkOf (sla a cap m) = blkOf a := by
  unfold sla
  split
  · rfl
  · cases a with
    | none => rfl
    | some a => obtain ⟨b, o, s⟩ := a; cases s <;> simp [blkOf, Addr.add] <;> split <;> rfl
theorem len_block : Tryd.prog.arrayLen 88 = 64 := by kernel_rfl
theorem elem_block : Tryd.prog.elem 88 = 5 := by kernel_rfl
theorem und_block : Tryd.prog.underlying 88 = some (.array (Tryd.prog.arrayLen 88) (Tryd.prog.elem 88)) := by rw [elem_block, len_block]; exact Tryd.underlying88
theorem len_dig : Tryd.prog.arrayLen 37 = 32 := by kernel_rfl
theorem elem_dig : Tryd.prog.elem 37 = 5 := by kernel_rfl
theorem und_dig : Tryd.prog.underlying 37 = some (.array (Tryd.prog.arrayLen 37) (Tryd.prog.elem 37)) := by rw [elem_dig, len_dig]; exact Tryd.underlying37
/-- block[k:] -/
theorem run_blockFrom (W : World) (g o k : Nat) (h : k < 64) :
    (Instr.sliceAt 88 (.pointer (some ⟨g, o, none⟩)) (some (.int .i64 (k : Int))) none none).run Tryd.prog W = .ok (.slice (some ⟨g, o + k, none⟩) (64 - k) (64 - k)) W := by
  rw [run_sliceAt_array_l W _ _ und_block .i64 (k : Int) (by omega) (by rw [len_block]; omega), elem_block, sizeOf_u8, len_block]
  have h64 : ¬ 64 = k := by omega
  by_cases h0 : k = 0
  · subst h0
    simp [Result.andThen, slicedAt, Addr.add]
  · simp [Result.andThen, slicedAt, Addr.add, h64, h0]
/-- block[:k] -/
theorem run_blockTo (W : World) (g o k : Nat) (h : k ≤ 64) :
    (Instr.sliceAt 88 (.pointer (some ⟨g, o, none⟩)) none (some (.int .i64 (k : Int))) none).run Tryd.prog W = .ok (.slice (some ⟨g, o, none⟩) k 64) W := by
  rw [run_sliceAt_array_h W _ _ und_block .i64 (k : Int) (by omega) (by rw [len_block]; omega), elem_block, sizeOf_u8, len_block]
  simp [Result.andThen, slicedAt, Addr.add]
theorem run_blockAll (W : World) (g o : Nat) :
    (Instr.sliceAt 88 (.pointer (some ⟨g, o, none⟩)) none none none).run Tryd.prog W = .ok (.slice (some ⟨g, o, none⟩) 64 64) W := by
  rw [run_sliceAt_array_all W _ _ und_block, elem_block, sizeOf_u8, len_block]
  simp [Result.andThen, slicedAt, Addr.add]
theorem run_digAll (W : World) (g o : Nat) :
    (Instr.sliceAt 37 (.pointer (some ⟨g, o, none⟩)) none none none).run Tryd.prog W = .ok (.slice (some ⟨g, o, none⟩) 32 32) W := by
  rw [run_sliceAt_array_all W _ _ und_dig, elem_dig, sizeOf_u8, len_dig]
  simp [Result.andThen, slicedAt, Addr.add]
end Go.Proofs.YtmomdfmilelilaaDoor
namespace Go.Proofs.YtmomdfmilelilaaDoor
open Go.RowKit
set_option linter.unusedVariables false
section
variable {P : Program} {ops : Array Oper} {Q : Exit → Act → World → Prop} {md : Region.Mode}
/-- a copy alone may come up -/
theorem any_copy (i : Nat) {dst : Option Tmp} {d s : Operand} {dT sT : TypeId} {fuel : Nat} {listed : Array Bool} {a : Act} {w : World}
    (h0 : Region.ready md ops listed = [i]) (hi : (ops[i]?.map fun o => (o.dst, o.op, o.guard)) = some (dst, Op.call { callee := .builtin .copy, args := #[d, s], argTypes := #[dT, sT] }, none))
    (elem : TypeId) (hu : P.underlying dT = some (.slice elem)) (hsz : (P.info? elem).map (·.size) = some 1)
    (dp sp : Option Addr) (dLen dCap sLen sCap : Nat) (hd : a.eval d = .slice dp dLen dCap) (hs : a.eval s = .slice sp sLen sCap)
    (g off : Nat) (cur : List Value) (t : TypeId) (hg : w.heap[g]? = some (.cells cur.toArray t (0, 0))) (cs : List Value) (hn : cs.length = Nat.min sLen dLen)
    (hpos : 0 < cs.length → dp = some ⟨g, off, none⟩ ∧ ∃ ad, sp = some ad ∧ ∀ j v, cs[j]? = some v → w.cell? (ad.add j) = some v)
    (hfit : off + cs.length ≤ cur.length) (h1 : ∀ v ∈ cs, v.oneCell' = true)
    (h : ∀ w', Hid (w'.heap[g]? = some (.cells (splice cur off cs).toArray t (0, 0))) → Only g w w' → wpAny P md ops Q fuel (listed.setIfInBounds i true) (a.put dst (.int .i64 (cs.length : Int))) w') :
    wpAny P md ops Q (fuel + 1) listed a w := by
  refine wpAny_all h0 (by simp) ?_
  intro k hk
  simp only [List.mem_cons, List.not_mem_nil, or_false] at hk
  subst hk
  cases ho : ops[k]? with
  | none => simp [ho] at hi
  | some o =>
    simp only [ho, Option.map_some, Option.some.injEq, Prod.mk.injEq] at hi
    obtain ⟨g1, g2, g3⟩ := hi
    unfold wpOp
    simp only [ho, wanted_plain g3, if_true]
    refine .inl ?_
    by_cases h0 : cs.length = 0
    · obtain rfl : cs = [] := List.eq_nil_of_length_eq_zero h0
      have hrun := run_copy_none (P := P) w dT sT o.type elem dp sp dLen dCap sLen sCap hu hsz (by simpa using hn.symm)
      have := h w (show _ = _ by simpa [splice] using hg) (Only.refl _ _)
      unfold Oper.wp
      simp [execOp, g2, resolve, invoke, builtin, hd, hs, hrun, Result.andThen]
      show wpAny P md ops Q fuel _ (a.put o.dst (goInt 0)) w
      rw [g1]
      exact this
    · obtain ⟨rfl, ad, rfl, hsrc⟩ := hpos (by omega)
      have hrun := run_copy_row (P := P) w dT sT o.type elem g off dLen dCap ad sLen sCap cur.toArray t cs hu hsz hg hn hsrc (by simpa using hfit) h1
      have := h _ (show _ = _ by simpa [splice] using setRow_heap w g _ _ t _ hg) ((Only.refl g w).setRow _)
      unfold Oper.wp
      simp [execOp, g2, resolve, invoke, builtin, hd, hs, hrun, Result.andThen]
      show wpAny P md ops Q fuel _ (a.put o.dst (goInt cs.length)) _
      rw [g1]
      simpa [splice, goInt] using this
/-- one operation alone may come up, that yields here -/
theorem any_one (i : Nat) {d : Nat} {op : Op} (v : Value) {fuel : Nat} {listed : Array Bool} {a : Act} {w : World}
    (h0 : Region.ready md ops listed = [i]) (hi : (ops[i]?.map fun o => (o.dst, o.op, o.guard)) = some (some d, op, none)) (hy : ∀ o : Oper, o.op = op → (execOp a.eval o).run P w = .ok (.value v) w)
    (h : wpAny P md ops Q fuel (listed.setIfInBounds i true) (a.put (some d) v) w) : wpAny P md ops Q (fuel + 1) listed a w := by
  refine wpAny_all h0 (by simp) ?_
  intro k hk
  simp only [List.mem_cons, List.not_mem_nil, or_false] at hk
  subst hk
  cases ho : ops[k]? with
  | none => simp [ho] at hi
  | some o =>
    simp only [ho, Option.map_some, Option.some.injEq, Prod.mk.injEq] at hi
    obtain ⟨g1, g2, g3⟩ := hi
    unfold wpOp
    simp only [ho, wanted_plain g3, if_true]
    refine .inl ?_
    unfold Oper.wp
    rw [hy o g2, Oper.upon_value, g1]
    exact h
end
/-- a row of bytes, written -/
theorem Brow.set {w : World} {g : Nat} {t : TypeId} {zs : List Nat} (h : Brow w g t zs) (j z : Nat) : Brow (w.setCell ⟨g, j, none⟩ (.int .u8 (z : Int))) g t (zs.set j z) := by
  unfold Brow
  rw [heap_setCell_same w g j _ t _ h]
  congr 2
  simp [cellsOf, List.map_set]
theorem Brow.only {g' g : Nat} {w w' : World} {t : TypeId} {zs : List Nat} (h : Brow w g t zs) (hb : Only g' w w') (hg : g ≠ g') : Brow w' g t zs := (hb.block g (Array.getElem?_eq_some_iff.1 h).1 hg).trans h
theorem Wrow.only {g' g : Nat} {w w' : World} {t : TypeId} {zs : List Nat} (h : Wrow w g t zs) (hb : Only g' w w') (hg : g ≠ g') : Wrow w' g t zs := (hb.block g (Array.getElem?_eq_some_iff.1 h).1 hg).trans h
theorem Brow.drew {w : World} {g : Nat} {t : TypeId} {zs : List Nat} (h : Brow w g t zs) : Brow w.drew g t zs := h
theorem Wrow.drew {w : World} {g : Nat} {t : TypeId} {zs : List Nat} (h : Wrow w g t zs) : Wrow w.drew g t zs := h
theorem Brow.lt {w : World} {g : Nat} {t : TypeId} {zs : List Nat} (h : Brow w g t zs) : g < w.heap.size := (Array.getElem?_eq_some_iff.1 h).1
theorem Wrow.lt {w : World} {g : Nat} {t : TypeId} {zs : List Nat} (h : Wrow w g t zs) : g < w.heap.size := (Array.getElem?_eq_some_iff.1 h).1
theorem Brow.copied {w' : World} {g : Nat} {t : TypeId} {zs xs : List Nat} {k : Nat} (h : Hid (w'.heap[g]? = some (.cells (splice (cellsOf zs) k (cellsOf xs)).toArray t (0, 0)))) : Brow w' g t (splice zs k xs) := by
  have h1 := h.out
  rw [← cellsOf_splice] at h1
  exact h1
theorem Brow.new (w : World) (t : TypeId) (zs : List Nat) : Brow (w.alloc (.cells (cellsOf zs).toArray t)) w.heap.size t zs := heap_new _ _
theorem Wrow.new (w : World) (t : TypeId) (zs : List Nat) : Wrow (w.alloc (.cells (wordsOf zs).toArray t)) w.heap.size t zs := heap_new _ _
theorem Brow.setRow {w : World} {g : Nat} {t : TypeId} {zs ys : List Nat} (h : Brow w g t zs) : Brow (w.setRow g (cellsOf ys).toArray) g t ys := setRow_heap _ _ _ _ _ _ h
theorem Wrow.setRow {w : World} {g : Nat} {t : TypeId} {zs ys : List Nat} (h : Wrow w g t zs) : Wrow (w.setRow g (wordsOf ys).toArray) g t ys := setRow_heap _ _ _ _ _ _ h
theorem Only.belowAlloc {B : Nat} {w : World} (o : Obj) : Below w.heap.size w (w.alloc o) := (Below.refl _ _).alloc (Nat.le_refl _) o
theorem cellsOf_all (zs : List Nat) : (cellsOf zs).toArray.all (·.oneCell') = true := all_oneCell_toArray (cellsOf_one zs)
theorem info_dig : (Tryd.prog.info? 37).map (·.size) = some 32 := by kernel_rfl
end Go.Proofs.YtmomdfmilelilaaDoor
namespace Go.Proofs.YtmomdfmilelilaaDoor
open Go.RowKit
set_option linter.unusedVariables false

theorem splice_take (bs X : List Nat) (r : Nat) (h : r ≤ bs.length) : (splice bs r X).take (r + X.length) = bs.take r ++ X := by
  unfold splice
  rw [← List.append_assoc, List.take_append_of_le_length (by rw [List.length_append, List.length_take]; omega), List.take_of_length_le (by rw [List.length_append, List.length_take]; omega)]
/-- a block that is full -/
theorem round_full {hs q bs X zs1 : List Nat} {r : Nat} (hq : q.length % 64 = r) (hb : bs.length = 64) (ht : bs.take r = Sha.rest q) (hr : r + X.length = 64) (hz : zs1 = q ++ X) :
    Sha.mix (Sha.run hs q) (splice bs r X) = Sha.run hs zs1 ∧ Sha.rest zs1 = [] := by
  have h1 := Sha.run_full hs q X (by omega)
  have h2 := splice_take bs X r (by omega)
  rw [hr, List.take_of_length_le (by rw [length_splice _ _ _ (by omega)]; omega), ht] at h2
  rw [hz, h2]
  exact ⟨h1.1.symm, h1.2⟩
theorem round_part {hs q bs X zs1 : List Nat} {r : Nat} (hq : q.length % 64 = r) (hb : bs.length = 64) (ht : bs.take r = Sha.rest q) (hr : r + X.length < 64) (hz : zs1 = q ++ X) :
    Sha.run hs q = Sha.run hs zs1 ∧ (splice bs r X).take (r + X.length) = Sha.rest zs1 := by
  have h1 := Sha.run_short hs q X (by omega)
  rw [splice_take bs X r (by omega), ht, hz]
  exact ⟨h1.1.symm, h1.2.symm⟩
/-- a state lies at g: the words, what waits, how many bytes came in -/
def StM (w : World) (g : Nat) (hs tail : List Nat) (n : Nat) : Prop := ∃ bs, St w g hs bs n ∧ bs.take (n % 64) = tail
def slLen : Value → Nat
  | .slice _ n _ => n
  | _ => 0
def WrtRet (g : Nat) (w : World) (hs tail : List Nat) (n : Nat) (e : Ending) (w' : World) : Prop :=
  e = .returned (.int .i64 0) ∧ StM w' g hs tail n ∧ Only g w w'
set_option maxRecDepth 100000 in
theorem write_lim (w : World) (g : Nat) (hs bs : List Nat) (n : Nat) (h : St w g hs bs n) (a : Option Addr) (len cap : Nat) (hl : 2305843009213693951 - n < len) (hm : len ≤ 9223372036854775807) :
    Calls Tryd.prog 22 #[.pointer (some ⟨g, 0, none⟩), .slice a len cap] w fun e w' => e = .returned (.int .i64 8) ∧ w = w' := by
  have hc := h.size
  have hn := h.nn
  have hl' : (2305843009213693951 : Int) - (n : Int) < (len : Int) := by omega
  clear h
  go_enter Tryd.func22, Tryd.ntmps22
  go_wp2
  go_ret
  exact ⟨rfl, rfl⟩
set_option maxRecDepth 100000 in
set_option maxHeartbeats 1000000 in
theorem write_c (w : World) (g : Nat) (hs tail : List Nat) (n : Nat) (h : StM w g hs tail n) (a : Option Addr) (len cap : Nat) (zs : List Nat) (hr : Rd w a len zs) (hlc : len ≤ cap) (hcm : cap ≤ 9223372036854775807)
    (hl : len ≤ 2305843009213693951 - n) (hap : 0 < len → blkOf a ≠ some g) (ht : Tab w) (hg : 0 < g) :
    Calls Tryd.prog 22 #[.pointer (some ⟨g, 0, none⟩), .slice a len cap] w (WrtRet g w (Sha.run hs (tail ++ zs)) (Sha.rest (tail ++ zs)) (n + len)) := by
  obtain ⟨bs, hst, htail⟩ := h
  have hc := hst.size
  have hn := hst.nn
  have hl' : ¬ (2305843009213693951 : Int) - (n : Int) < (len : Int) := by omega
  have HST := Lib.hid hst
  have HR := Lib.hid hr
  have HT := Lib.hid ht
  have HTAIL := Lib.hid htail
  have HAP := Lib.hid hap
  clear hst hr ht htail hap
  go_enter Tryd.func22, Tryd.ntmps22
  go_wp2
  go_loopw [1] (fun p wr => ∃ (k : Nat) (a' : Option Addr) (c' : Nat), k ≤ len ∧ p = .slice a' (len - k) c' ∧ len - k ≤ c' ∧ c' ≤ 9223372036854775807 ∧
      Hid (Rd wr a' (len - k) (zs.drop k)) ∧ Hid (0 < len - k → blkOf a' ≠ some g) ∧ Hid (StM wr g (Sha.run hs (tail ++ zs.take k)) (Sha.rest (tail ++ zs.take k)) (n + k)) ∧ Hid (Only g w wr)) (fun p _ => slLen p)
  case atStart =>
    have hl := HR.out.1
    refine ⟨0, a, cap, Nat.zero_le _, by rw [Nat.sub_zero], by omega, hcm, HR, Lib.hid (fun h => HAP.out (by omega)), Lib.hid ⟨bs, ?_, ?_⟩, Lib.hid (Only.refl _ _)⟩
    · rw [List.take_zero, List.append_nil, (Sha.run_less hs tail (by rw [← HTAIL.out, List.length_take]; omega)).1]; exact HST.out
    · rw [List.take_zero, List.append_nil, (Sha.run_less hs tail (by rw [← HTAIL.out, List.length_take]; omega)).2]; exact HTAIL.out
  case round =>
    obtain ⟨k, a', c', hk, rfl, hlc', hcm', HR', HAP', HST', HO⟩ := hrel
    by_cases hkl : k < len
    · obtain ⟨bs1, hst1, htl1⟩ := HST'.out
      obtain ⟨H1, hH1⟩ : ∃ z, z = Sha.run hs (tail ++ zs.take k) := ⟨_, rfl⟩
      obtain ⟨R1, hR1⟩ : ∃ z, z = Sha.rest (tail ++ zs.take k) := ⟨_, rfl⟩
      obtain ⟨N, hN⟩ : ∃ z, z = n + k := ⟨_, rfl⟩
      rw [← hH1, ← hN] at hst1
      rw [← hR1, ← hN] at htl1
      obtain ⟨L, hL⟩ : ∃ z, z = len - k := ⟨_, rfl⟩
      rw [← hL] at HR' hlc' HAP'
      rw [← hL]
      obtain ⟨r, hr⟩ : ∃ z, z = N % 64 := ⟨_, rfl⟩
      have hr64 : r < 64 := by omega
      have hLpos : 0 < L := by omega
      have hLi : (0 : Int) < (L : Int) := by omega
      obtain ⟨m, hm⟩ : ∃ z, z = Nat.min L (64 - r) := ⟨_, rfl⟩
      have hm1 : m ≤ L := by rw [hm]; exact Nat.min_le_left _ _
      have hm2 : m ≤ 64 - r := by rw [hm]; exact Nat.min_le_right _ _
      have hm0 : 0 < m := by rw [hm]; exact Nat.lt_min.2 ⟨hLpos, by omega⟩
      have hNb : N + m ≤ 2305843009213693951 := by omega
      have HW := Lib.hid (show ∀ W, St W g H1 bs1 N → Calls Tryd.prog 36 #[.pointer (some ⟨g, 0, none⟩)] W (fun e w' => e = .returned (.int .i64 (r : Int)) ∧ w' = W) from fun W hW => (waiting_c W g H1 bs1 N hW).mono fun e w' ⟨h1, h2⟩ => ⟨by rw [h1, hr], h2.symm⟩)
      have HBF := fun W => run_blockFrom W g 8 r hr64
      have HCUT := fun W => run_cut W a' L c' m hm1
      have HCUTA := fun W => run_cutAt W a' L c' m hm1
      have HST1 := Lib.hid hst1
      have HTL1 := Lib.hid htl1
      have HH1 := Lib.hid hH1
      have HR1 := Lib.hid hR1
      have HN := Lib.hid hN
      have HL := Lib.hid hL
      have Hr := Lib.hid hr
      have HM := Lib.hid hm
      clear hst1 htl1 hH1 hR1 hN hL hr hm HST'
      clear hl' hc hk
      go_wp2_with fail
      refine wp_region_still_tail 7 (by kernel_rfl) (by kernel_rfl) ?_
      simp only [List.take_succ_cons, List.take_zero, List.drop_succ_cons, List.drop_zero]
      still_step
      still_step
      still_step
      still_step
      still_call (HW.out _ HST1.out.drew)
      still_step
      still_step
      refine wpStill_nil ?_
      change wpList _ _ _ _ _ wr.drew
      have hXl : ((zs.drop k).take m).length = m := by rw [List.length_take, HR'.out.1]; omega
      have hcn : (cellsOf ((zs.drop k).take m)).length = Nat.min L (64 - r) := by rw [cellsOf_length, hXl, HM.out]
      have hcp : 0 < (cellsOf ((zs.drop k).take m)).length → (some ⟨g, 8 + r, none⟩ : Option Addr) = some ⟨g, 8 + r, none⟩ ∧ ∃ ad, a' = some ad ∧ ∀ j v, (cellsOf ((zs.drop k).take m))[j]? = some v → wr.drew.cell? (ad.add j) = some v :=
        fun h0 => ⟨rfl, HR'.out.drew.src m hm1 h0⟩
      have hcf : 8 + r + (cellsOf ((zs.drop k).take m)).length ≤ (stCells H1 bs1 N).length := by rw [cellsOf_length, hXl, HST1.out.len]; omega
      have hXb : ∀ z ∈ (zs.drop k).take m, z < 256 := fun z hz => HR'.out.2.1 z (List.mem_of_mem_take hz)
      obtain ⟨X, hX⟩ : ∃ X, X = (zs.drop k).take m := ⟨_, rfl⟩
      rw [← hX] at hcn hcp hcf hXb hXl
      have HX := Lib.hid hX
      have HCN := Lib.hid hcn
      have HCP := Lib.hid hcp
      have HCF := Lib.hid hcf
      have HXL := Lib.hid hXl
      have HXB := Lib.hid hXb
      clear hX hcn hcp hcf hXl hXb
      go_wp2_with (refine wpList_copy_only rfl (.tmp 24) (.tmp 25) 33 33 rfl 5 Tryd.underlying33 u8size _ _ _ _ _ _ rfl rfl g (8 + r) (stCells H1 bs1 N) 90 HST1.out.drew.row (cellsOf X) HCN.out HCP.out HCF.out (cellsOf_one _) ?_)
      intro w2 hrow2 ho2
      have hst2 := HST1.out.drew.copied r X HXB.out (by rw [HXL.out]; omega) hrow2.out
      have hO2 : Only g w w2 := HO.out.drew.trans ho2
      have HR2 := Lib.hid (show Rd w2 (sla a' c' m) (L - m) (zs.drop (k + m)) from by
        have h1 := HR'.out.drew.cut c' m hm1 hlc'
        rw [List.drop_drop] at h1
        exact ho2.rd' h1 (fun h => by rw [sla_blk]; exact HAP'.out (by omega)))
      have HAP2 := Lib.hid (show 0 < L - m → blkOf (sla a' c' m) ≠ some g from fun h => by rw [sla_blk]; exact HAP'.out (by omega))
      have HST2 := Lib.hid hst2
      have HO2 := Lib.hid hO2
      rw [cellsOf_length, HXL.out]
      clear hst2 hO2 hrow2 ho2 HCN HCP HCF
      have hc2 := HST2.out.size
      have hf2 := HST2.out.froz 72
      go_wp2_with fail
      rw [show ((N : Int) + (m : Int)) = ((N + m : Nat) : Int) by omega]
      obtain ⟨w3, hw3⟩ : ∃ z, z = w2.setCell ⟨g, 72, none⟩ (.int .i64 ((N + m : Nat) : Int)) := ⟨_, rfl⟩
      have HST3 := Lib.hid (show St w3 g H1 (splice bs1 r X) (N + m) from by rw [hw3]; exact HST2.out.setSize (N + m) hNb)
      have HO3 := Lib.hid (show Only g w w3 from by rw [hw3]; exact HO2.out.setCell _ _)
      have HR3 := Lib.hid (show Rd w3 (sla a' c' m) (L - m) (zs.drop (k + m)) from by
        rw [hw3]
        exact ((Only.refl g w2).setCell _ _).rd' HR2.out HAP2.out)
      rw [← hw3]
      clear hc2 hf2 hw3 HST2 HO2 HR2
      obtain ⟨r', hr'⟩ : ∃ z, z = (N + m) % 64 := ⟨_, rfl⟩
      have hrr : (r + m = 64 ∧ r' = 0) ∨ (r + m < 64 ∧ r' = r + m) := by have := Hr.out; have := HM.out; omega
      have HW3 := Lib.hid (show Calls Tryd.prog 36 #[.pointer (some ⟨g, 0, none⟩)] w3 (fun e w' => e = .returned (.int .i64 (r' : Int)) ∧ w3 = w') from (waiting_c w3 g H1 _ (N + m) HST3.out).mono fun e w' ⟨h1, h2⟩ => ⟨by rw [h1, hr'], h2⟩)
      have HTK := Lib.hid (show zs.take (k + m) = zs.take k ++ X from by rw [HX.out, List.take_add])
      have HQL := Lib.hid (show (tail ++ zs.take k).length % 64 = r from by
        have h1 := HST.out.bl
        have h2 := HTAIL.out
        have h3 := HR.out.1
        rw [← h2, List.length_append, List.length_take, List.length_take, Hr.out, HN.out]
        omega)
      have HQ := Lib.hid hr'
      clear hr'
      rcases hrr with ⟨hrm, rfl⟩ | ⟨hrm, hr'⟩
      · with_reducible refine HW3.out.mono ?_
        rintro e3 w3' ⟨rfl, rfl⟩
        go_wp2_with fail
        refine wp_region_any (by kernel_rfl) ?_
        change wpAny _ _ _ _ _ _ _ w3.drew
        refine any_pure 0 (d := 41) (op := .move (.tmp 0)) (.pointer (some ⟨g, 0, none⟩)) (by rfl) (by kernel_rfl) (by kernel_rfl) (by kernel_rfl) (fun _ _ _ h => h) (fun o ho W => by unfold execOp; simp only [ho]; go_simp) ?_
        simp only [Act.put, List.setIfInBounds_toArray, List.set_cons_zero, List.set_cons_succ]
        refine any_pure 1 (d := 42) (op := .move (.tmp 0)) (.pointer (some ⟨g, 0, none⟩)) (by rfl) (by kernel_rfl) (by kernel_rfl) (by kernel_rfl) (fun _ _ _ h => h) (fun o ho W => by unfold execOp; simp only [ho]; go_simp) ?_
        simp only [Act.put, List.setIfInBounds_toArray, List.set_cons_zero, List.set_cons_succ]
        refine any_pure 2 (d := 43) (op := .nilCheck (.tmp 42)) (.pointer (some ⟨g, 0, none⟩)) (by rfl) (by kernel_rfl) (by kernel_rfl) (by kernel_rfl) (fun _ _ _ h => h) (fun o ho W => by unfold execOp; simp only [ho]; go_simp) ?_
        simp only [Act.put, List.setIfInBounds_toArray, List.set_cons_zero, List.set_cons_succ]
        refine any_pure 3 (d := 44) (op := .fieldAddr 90 (.tmp 43) 0) (.pointer (some ⟨g, 0, none⟩)) (by rfl) (by kernel_rfl) (by kernel_rfl) (by kernel_rfl) (fun _ _ _ h => h) (fun o ho W => by unfold execOp; simp only [ho]; go_simp) ?_
        simp only [Act.put, List.setIfInBounds_toArray, List.set_cons_zero, List.set_cons_succ]
        refine any_pure 5 (d := 46) (op := .move (.tmp 0)) (.pointer (some ⟨g, 0, none⟩)) (by rfl) (by kernel_rfl) (by kernel_rfl) (by kernel_rfl) (fun _ _ _ h => h) (fun o ho W => by unfold execOp; simp only [ho]; go_simp) ?_
        simp only [Act.put, List.setIfInBounds_toArray, List.set_cons_zero, List.set_cons_succ]
        refine any_pure 6 (d := 47) (op := .nilCheck (.tmp 46)) (.pointer (some ⟨g, 0, none⟩)) (by rfl) (by kernel_rfl) (by kernel_rfl) (by kernel_rfl) (fun _ _ _ h => h) (fun o ho W => by unfold execOp; simp only [ho]; go_simp) ?_
        simp only [Act.put, List.setIfInBounds_toArray, List.set_cons_zero, List.set_cons_succ]
        refine any_pure 7 (d := 48) (op := .fieldAddr 90 (.tmp 47) 1) (.pointer (some ⟨g, 8, none⟩)) (by rfl) (by kernel_rfl) (by kernel_rfl) (by kernel_rfl) (fun _ _ _ h => h) (fun o ho W => by unfold execOp; simp only [ho]; go_simp) ?_
        simp only [Act.put, List.setIfInBounds_toArray, List.set_cons_zero, List.set_cons_succ]
        have HD3 := Lib.hid HST3.out.drew
        have HI77 := Lib.hid (show (Tryd.prog.info? 86).map (·.size) = some (wordsOf H1).length from by rw [wordsOf_length, HST3.out.w8.1]; exact info_words)
        have HI79 := Lib.hid (show (Tryd.prog.info? 88).map (·.size) = some (cellsOf (splice bs1 r X)).length from by rw [cellsOf_length, HST3.out.bl]; exact info_block)
        have HR77 := Lib.hid (run_loadAt_mid w3.drew g 0 86 (wordsOf H1) _ HD3.out.words Tryd.underlying86 rfl HI77.out)
        have HR79 := Lib.hid (run_loadAt_mid w3.drew g 8 88 (cellsOf (splice bs1 r X)) _ HD3.out.block Tryd.underlying88 rfl HI79.out)
        refine any_loads2 4 8 (d1 := 45) (d2 := 49) (t1 := 86) (t2 := 88) (x1 := .tmp 44) (x2 := .tmp 48) (p1 := .pointer (some ⟨g, 0, none⟩)) (p2 := .pointer (some ⟨g, 8, none⟩)) (v1 := .agg (wordsOf H1).toArray) (v2 := .agg (cellsOf (splice bs1 r X)).toArray) (by kernel_rfl) (by kernel_rfl) (by kernel_rfl) (by decide) (by decide) (by rfl) (by rfl) (by rfl) (by rfl) (by rfl) (by rfl) HR77.out HR79.out ?_
        simp only [Act.put, List.setIfInBounds_toArray, List.set_cons_zero, List.set_cons_succ]
        have HTW := Lib.hid (show Tab w3.drew from by
          have h1 := HO3.out.below (B := 1) (by omega) (by have := HST.out.lt; omega)
          exact (HT.out.below h1.drew (by omega)))
        have HMX := Lib.hid (mix_c H1 (splice bs1 r X) w3.drew HST3.out.w8.1 HST3.out.w8.2 HST3.out.bl HST3.out.bb HTW.out)
        refine any_call 9 (d := some 50) (f := 37) (xs := #[.tmp 45, .tmp 49]) (ts := #[86, 88]) (vs := #[.agg (wordsOf H1).toArray, .agg (cellsOf (splice bs1 r X)).toArray]) (by kernel_rfl) (by rfl) (by go_simp) (by go_simp) HMX.out ?_
        rintro e4 w4 ⟨rfl, hb4⟩
        refine ⟨_, rfl, ?_⟩
        simp only [Act.put, List.setIfInBounds_toArray, List.set_cons_zero, List.set_cons_succ]
        have HST4 := Lib.hid (HD3.out.below hb4 (by have := HD3.out.lt; simpa using this))
        have HO4 := Lib.hid (HO3.out.drew.trans (Only.of (g := g) hb4))
        refine any_pure 10 (d := 51) (op := .nilCheck (.tmp 41)) (.pointer (some ⟨g, 0, none⟩)) (by rfl) (by kernel_rfl) (by kernel_rfl) (by kernel_rfl) (fun _ _ _ h => h) (fun o ho W => by unfold execOp; simp only [ho]; go_simp) ?_
        simp only [Act.put, List.setIfInBounds_toArray, List.set_cons_zero, List.set_cons_succ]
        refine any_pure 11 (d := 52) (op := .fieldAddr 90 (.tmp 51) 0) (.pointer (some ⟨g, 0, none⟩)) (by rfl) (by kernel_rfl) (by kernel_rfl) (by kernel_rfl) (fun _ _ _ h => h) (fun o ho W => by unfold execOp; simp only [ho]; go_simp) ?_
        simp only [Act.put, List.setIfInBounds_toArray, List.set_cons_zero, List.set_cons_succ]
        have hmx8 : Sha.W8 (Sha.mix H1 (splice bs1 r X)) := Sha.W8.mix _ _
        refine any_store_mid 12 (ty := 86) (x := .tmp 52) (y := .tmp 50) g 0 (wordsOf (Sha.mix H1 (splice bs1 r X))).toArray (by kernel_rfl) (by rfl) (by rfl) (by rfl) (by rw [wordsOf_size, hmx8.1]; exact HST4.out.there 0 8 (by omega)) (by rw [wordsOf_size, hmx8.1]; exact info_words) (wordsOf_one _) ?_
        refine wpAny_done (by kernel_rfl) ?_ _
        have HST5 := Lib.hid (HST4.out.setWords _ hmx8)
        have HO5 := Lib.hid (HO4.out.setCells (g := g) (wordsOf (Sha.mix H1 (splice bs1 r X))) 0)
        have hm5 : w4.setCells g 0 (wordsOf (Sha.mix H1 (splice bs1 r X))).toArray.toList = w4.setCells g 0 (wordsOf (Sha.mix H1 (splice bs1 r X))) := by simp
        rw [hm5]
        obtain ⟨w5, hw5⟩ : ∃ z, z = w4.setCells g 0 (wordsOf (Sha.mix H1 (splice bs1 r X))) := ⟨_, rfl⟩
        have hr5 : Only g w3 w5 := by rw [hw5]; exact (((Only.refl g w3).drew.trans (Only.of hb4))).setCells _ _
        rw [← hw5] at HST5 HO5 ⊢
        have HR5 := Lib.hid hr5
        have HM := HM.out
        clear hw5 hr5 hm5 hmx8 hb4 HW HBF HCUT HCUTA
        go_wp2_with fail
        refine ⟨⟨k + m, sla a' c' m, c' - m, ?_, ?_, ?_, ?_, ?_, (by have := HL.out; rw [show len - (k + m) = L - m by omega]; exact HAP2), ?_, HO5⟩, ?_⟩
        · have := HL.out; omega
        · have := HL.out; rw [show L - m = len - (k + m) by omega]
        · have := HL.out; omega
        · omega
        · have := HL.out
          rw [show len - (k + m) = L - m by omega]
          exact Lib.hid (HR5.out.rd' HR3.out HAP2.out)
        · have hN := HN.out
          have hQ := HQ.out
          have h1 := round_full (hs := hs) (zs1 := tail ++ zs.take (k + m)) HQL.out HST1.out.bl (by rw [← HR1.out, ← HTL1.out, Hr.out]) (by rw [HXL.out]; exact hrm) (by rw [HTK.out, List.append_assoc])
          rw [← HH1.out] at h1
          refine Lib.hid ⟨splice bs1 r X, ?_, ?_⟩
          · rw [← h1.1, show n + (k + m) = N + m by omega]; exact HST5.out
          · rw [h1.2, show (n + (k + m)) % 64 = 0 by omega]; rfl
        · show L - m < L
          omega
      · have hr0 : ((r' : Int) == 0) = false := by simp; omega
        with_reducible refine HW3.out.mono ?_
        rintro e3 w3' ⟨rfl, rfl⟩
        clear HW HBF HCUT HCUTA
        go_wp2_with fail
        refine ⟨⟨k + m, sla a' c' m, c' - m, ?_, ?_, ?_, ?_, ?_, (by have := HL.out; rw [show len - (k + m) = L - m by omega]; exact HAP2), ?_, HO3⟩, ?_⟩
        · have := HL.out; omega
        · have := HL.out; rw [show L - m = len - (k + m) by omega]
        · have := HL.out; omega
        · omega
        · have := HL.out
          rw [show len - (k + m) = L - m by omega]
          exact HR3
        · have hN := HN.out
          have hQ := HQ.out
          have h1 := round_part (hs := hs) (zs1 := tail ++ zs.take (k + m)) HQL.out HST1.out.bl (by rw [← HR1.out, ← HTL1.out, Hr.out]) (by rw [HXL.out]; exact hrm) (by rw [HTK.out, List.append_assoc])
          rw [← HH1.out, HXL.out] at h1
          refine Lib.hid ⟨splice bs1 r X, ?_, ?_⟩
          · rw [← h1.1, show n + (k + m) = N + m by omega]; exact HST3.out
          · rw [← h1.2, show (n + (k + m)) % 64 = r + m by omega]
        · show L - m < L
          omega
    · obtain rfl : k = len := by omega
      have h1 := HST'.out
      rw [List.take_of_length_le (by rw [HR.out.1]; omega)] at h1
      have H1 := Lib.hid h1
      clear h1 hl' hc HST'
      go_wp2_with fail
      go_ret
      exact ⟨rfl, H1.out, HO.out⟩
end Go.Proofs.YtmomdfmilelilaaDoor
