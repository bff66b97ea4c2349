/-
  SHA-256 on plain numbers and lists.
-/
import Derived.Test.YthnfbdmkdpokcaaDoorRotm
import Derived.Test.YthnfbdmkdpokcaaDoorNumm
namespace Go.Proofs.YthnfbdmkdpokcaaDoor.Sha
/-- sums of words -/
def add (a b : Nat) : Nat := (a + b) % 4294967296
theorem add_lt (a b : Nat) : add a b < 4294967296 := Nat.mod_lt _ (by omega)
/-- word i of a block -/
def wd (bs : List Nat) (i : Nat) : Nat := Numm.num 0 [bs.getD (4 * i) 0, bs.getD (4 * i + 1) 0, bs.getD (4 * i + 2) 0, bs.getD (4 * i + 3) 0]
/-- what is mixed of a word at 15 and at 2 behind -/
def sig0 (x : Nat) : Nat := (Rotm.rot x 7 ^^^ Rotm.rot x 18) ^^^ (x / 8)
def sig1 (x : Nat) : Nat := (Rotm.rot x 17 ^^^ Rotm.rot x 19) ^^^ (x / 1024)
/-- the next word behind ws -/
def nxt (ws : List Nat) (i : Nat) : Nat := add (add (add (ws.getD (i - 16) 0) (sig0 (ws.getD (i - 15) 0))) (ws.getD (i - 7) 0)) (sig1 (ws.getD (i - 2) 0))
/-- the first n words of a block -/
def sch (bs : List Nat) : Nat → List Nat
  | 0 => []
  | n + 1 => sch bs n ++ [if n < 16 then wd bs n else nxt (sch bs n) n]
theorem sch_len (bs : List Nat) (n : Nat) : (sch bs n).length = n := by
  induction n with
  | zero => rfl
  | succ n ih => simp [sch, ih]
theorem wd_lt (bs : List Nat) (hb : ∀ i, bs.getD i 0 < 256) (i : Nat) : wd bs i < 4294967296 := by
  unfold wd
  have h := Numm.num_lt [bs.getD (4 * i) 0, bs.getD (4 * i + 1) 0, bs.getD (4 * i + 2) 0, bs.getD (4 * i + 3) 0] (by
    intro z hz
    simp only [List.mem_cons, List.not_mem_nil, or_false] at hz
    rcases hz with rfl | rfl | rfl | rfl <;> exact hb _)
  simpa using h
theorem sch_lt (bs : List Nat) (hb : ∀ i, bs.getD i 0 < 256) (n : Nat) : ∀ z ∈ sch bs n, z < 4294967296 := by
  induction n with
  | zero => simp [sch]
  | succ n ih =>
    intro z hz
    simp only [sch, List.mem_append, List.mem_singleton] at hz
    rcases hz with h | rfl
    · exact ih z h
    · split
      · exact wd_lt bs hb n
      · exact add_lt _ _
/-- the eight variables -/
structure R8 where
  a : Nat
  b : Nat
  c : Nat
  d : Nat
  e : Nat
  f : Nat
  g : Nat
  h : Nat
def r8 (l : List Nat) : R8 := ⟨l.getD 0 0, l.getD 1 0, l.getD 2 0, l.getD 3 0, l.getD 4 0, l.getD 5 0, l.getD 6 0, l.getD 7 0⟩
def R8.ok (r : R8) : Prop := r.a < 4294967296 ∧ r.b < 4294967296 ∧ r.c < 4294967296 ∧ r.d < 4294967296 ∧ r.e < 4294967296 ∧ r.f < 4294967296 ∧ r.g < 4294967296 ∧ r.h < 4294967296
def S1 (e : Nat) : Nat := (Rotm.rot e 6 ^^^ Rotm.rot e 11) ^^^ Rotm.rot e 25
def S0 (a : Nat) : Nat := (Rotm.rot a 2 ^^^ Rotm.rot a 13) ^^^ Rotm.rot a 22
def ch (e f g : Nat) : Nat := (e &&& f) ^^^ ((4294967295 - e) &&& g)
def mj (a b c : Nat) : Nat := ((a &&& b) ^^^ (a &&& c)) ^^^ (b &&& c)
def tx (r : R8) (k w : Nat) : Nat := add (add (add (add r.h (S1 r.e)) (ch r.e r.f r.g)) k) w
def ty (r : R8) : Nat := add (S0 r.a) (mj r.a r.b r.c)
/-- one round -/
def rnd (r : R8) (k w : Nat) : R8 := ⟨add (tx r k w) (ty r), r.a, r.b, r.c, add r.d (tx r k w), r.e, r.f, r.g⟩
theorem rnd_ok {r : R8} (h : r.ok) (k w : Nat) : (rnd r k w).ok := by
  obtain ⟨h1, h2, h3, h4, h5, h6, h7, _⟩ := h
  exact ⟨add_lt _ _, h1, h2, h3, add_lt _ _, h5, h6, h7⟩
/-- the constants of the rounds -/
def K : List Nat := [0x428a2f98, 0x71374491, 0xb5c0fbcf, 0xe9b5dba5, 0x3956c25b, 0x59f111f1, 0x923f82a4, 0xab1c5ed5,
  0xd807aa98, 0x12835b01, 0x243185be, 0x550c7dc3, 0x72be5d74, 0x80deb1fe, 0x9bdc06a7, 0xc19bf174,
  0xe49b69c1, 0xefbe4786, 0x0fc19dc6, 0x240ca1cc, 0x2de92c6f, 0x4a7484aa, 0x5cb0a9dc, 0x76f988da,
  0x983e5152, 0xa831c66d, 0xb00327c8, 0xbf597fc7, 0xc6e00bf3, 0xd5a79147, 0x06ca6351, 0x14292967,
  0x27b70a85, 0x2e1b2138, 0x4d2c6dfc, 0x53380d13, 0x650a7354, 0x766a0abb, 0x81c2c92e, 0x92722c85,
  0xa2bfe8a1, 0xa81a664b, 0xc24b8b70, 0xc76c51a3, 0xd192e819, 0xd6990624, 0xf40e3585, 0x106aa070,
  0x19a4c116, 0x1e376c08, 0x2748774c, 0x34b0bcb5, 0x391c0cb3, 0x4ed8aa4a, 0x5b9cca4f, 0x682e6ff3,
  0x748f82ee, 0x78a5636f, 0x84c87814, 0x8cc70208, 0x90befffa, 0xa4506ceb, 0xbef9a3f7, 0xc67178f2]
/-- the variables behind n rounds -/
def rnds (r : R8) (ws : List Nat) : Nat → R8
  | 0 => r
  | n + 1 => rnd (rnds r ws n) (K.getD n 0) (ws.getD n 0)
theorem rnds_ok {r : R8} (h : r.ok) (ws : List Nat) (n : Nat) : (rnds r ws n).ok := by
  induction n with
  | zero => exact h
  | succ n ih => exact rnd_ok ih _ _
/-- the words behind a block -/
def mixR (hs : List Nat) (r : R8) : List Nat :=
  [add (hs.getD 0 0) r.a, add (hs.getD 1 0) r.b, add (hs.getD 2 0) r.c, add (hs.getD 3 0) r.d, add (hs.getD 4 0) r.e, add (hs.getD 5 0) r.f, add (hs.getD 6 0) r.g, add (hs.getD 7 0) r.h]
theorem mixR_lt (hs : List Nat) (r : R8) : ∀ z ∈ mixR hs r, z < 4294967296 := by
  intro z hz
  simp only [mixR, List.mem_cons, List.not_mem_nil, or_false] at hz
  rcases hz with rfl | rfl | rfl | rfl | rfl | rfl | rfl | rfl <;> exact add_lt _ _
def mix (hs bs : List Nat) : List Nat := mixR hs (rnds (r8 hs) (sch bs 64) 64)
/-- the words at first -/
def H0 : List Nat := [0x6a09e667, 0xbb67ae85, 0x3c6ef372, 0xa54ff53a, 0x510e527f, 0x9b05688c, 0x1f83d9ab, 0x5be0cd19]
/-- block i of q -/
def blk (q : List Nat) (i : Nat) : List Nat := (q.drop (64 * i)).take 64
/-- the words behind n blocks of q -/
def runN (hs q : List Nat) : Nat → List Nat
  | 0 => hs
  | n + 1 => mix (runN hs q n) (blk q n)
/-- the words behind the whole blocks of q, and what stands behind them -/
def run (hs q : List Nat) : List Nat := runN hs q (q.length / 64)
def rest (q : List Nat) : List Nat := q.drop (64 * (q.length / 64))
theorem rest_len (q : List Nat) : (rest q).length = q.length % 64 := by unfold rest; rw [List.length_drop]; omega
theorem blk_app (q x : List Nat) (i : Nat) (h : 64 * (i + 1) ≤ q.length) : blk (q ++ x) i = blk q i := by
  unfold blk
  rw [List.drop_append_of_le_length (by omega), List.take_append_of_le_length (by rw [List.length_drop]; omega)]
theorem runN_app (hs q x : List Nat) (n : Nat) (h : 64 * n ≤ q.length) : runN hs (q ++ x) n = runN hs q n := by
  induction n with
  | zero => rfl
  | succ n ih => rw [runN, runN, ih (by omega), blk_app q x n (by omega)]
theorem run_short (hs q x : List Nat) (h : q.length % 64 + x.length < 64) : run hs (q ++ x) = run hs q ∧ rest (q ++ x) = rest q ++ x := by
  have e : (q ++ x).length / 64 = q.length / 64 := by rw [List.length_append]; omega
  unfold run rest
  rw [e]
  exact ⟨runN_app _ _ _ _ (by omega), List.drop_append_of_le_length (by omega)⟩
theorem run_full (hs q x : List Nat) (h : q.length % 64 + x.length = 64) : run hs (q ++ x) = mix (run hs q) (rest q ++ x) ∧ rest (q ++ x) = [] := by
  have e : (q ++ x).length / 64 = q.length / 64 + 1 := by rw [List.length_append]; omega
  unfold run rest
  rw [e, runN, runN_app _ _ _ _ (by omega)]
  refine ⟨?_, List.drop_eq_nil_of_le (by rw [List.length_append]; omega)⟩
  congr 1
  unfold blk
  rw [List.drop_append_of_le_length (by omega), List.take_of_length_le (by rw [List.length_append, List.length_drop]; omega)]
theorem run_less (hs q : List Nat) (h : q.length < 64) : run hs q = hs ∧ rest q = q := by
  have e : q.length / 64 = 0 := by omega
  unfold run rest
  rw [e]
  exact ⟨rfl, rfl⟩
theorem runN_two (hs a b : List Nat) (m n : Nat) (ha : a.length = 64 * m) : runN hs (a ++ b) (m + n) = runN (runN hs a m) b n := by
  induction n with
  | zero => rw [Nat.add_zero, runN_app _ _ _ _ (by omega)]; rfl
  | succ n ih =>
    rw [← Nat.add_assoc, runN, ih, runN]
    congr 1
    unfold blk
    rw [List.drop_append, List.drop_eq_nil_of_le (by omega), List.nil_append, ha]
    congr 2
    omega
theorem run_two (hs a b : List Nat) (m : Nat) (ha : a.length = 64 * m) : run hs (a ++ b) = run (runN hs a m) b ∧ rest (a ++ b) = rest b := by
  have e : (a ++ b).length / 64 = m + b.length / 64 := by rw [List.length_append]; omega
  unfold run rest
  rw [e]
  refine ⟨runN_two _ _ _ _ _ ha, ?_⟩
  rw [List.drop_append, List.drop_eq_nil_of_le (by omega), List.nil_append]
  congr 1
  omega
/-- by pieces -/
theorem run_run (hs q x : List Nat) : run (run hs q) (rest q ++ x) = run hs (q ++ x) ∧ rest (rest q ++ x) = rest (q ++ x) := by
  have hq : q.take (64 * (q.length / 64)) ++ rest q = q := List.take_append_drop _ _
  have hl : (q.take (64 * (q.length / 64))).length = 64 * (q.length / 64) := by rw [List.length_take]; omega
  have h := run_two hs _ (rest q ++ x) _ hl
  rw [← List.append_assoc, hq] at h
  have hr : run hs q = runN hs (q.take (64 * (q.length / 64))) (q.length / 64) := by
    have := runN_app hs (q.take (64 * (q.length / 64))) (rest q) (q.length / 64) (by omega)
    rw [hq] at this
    exact this
  rw [h.1, h.2, hr]
  exact ⟨rfl, rfl⟩
theorem mix_len (hs bs : List Nat) : (mix hs bs).length = 8 := by unfold mix; exact rfl
theorem mix_lt (hs bs : List Nat) : ∀ z ∈ mix hs bs, z < 4294967296 := mixR_lt _ _
/-- eight words -/
def W8 (hs : List Nat) : Prop := hs.length = 8 ∧ ∀ z ∈ hs, z < 4294967296
theorem W8.mix (hs bs : List Nat) : W8 (mix hs bs) := ⟨mix_len _ _, mix_lt _ _⟩
theorem W8.runN {hs : List Nat} (h : W8 hs) (q : List Nat) (n : Nat) : W8 (runN hs q n) := by
  cases n with
  | zero => exact h
  | succ n => exact W8.mix _ _
theorem W8.run {hs : List Nat} (h : W8 hs) (q : List Nat) : W8 (run hs q) := h.runN _ _
theorem W8.H0 : W8 H0 := ⟨rfl, by decide⟩
/-- what stands behind n bytes of which the tail waits -/
def padded (tail : List Nat) (n : Nat) : List Nat :=
  if tail.length < 56 then tail ++ [128] ++ List.replicate (55 - tail.length) 0 ++ Numm.put (8 * n) 8
  else tail ++ [128] ++ List.replicate (119 - tail.length) 0 ++ Numm.put (8 * n) 8
def bytesOf (hs : List Nat) : List Nat := hs.flatMap fun h => Numm.put h 4
/-- the sum of a state -/
def close (hs tail : List Nat) (n : Nat) : List Nat := bytesOf (run hs (padded tail n))
/-- the sum of a list of bytes -/
def sum (p : List Nat) : List Nat := close (run H0 p) (rest p) p.length
end Go.Proofs.YthnfbdmkdpokcaaDoor.Sha
