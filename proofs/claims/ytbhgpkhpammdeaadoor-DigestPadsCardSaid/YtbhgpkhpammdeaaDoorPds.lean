/-
  The walks behind layer 2's words from primes and roots.
-/
import Derived.Test.YtbhgpkhpammdeaaDoorPkd
namespace Go.Proofs.YtbhgpkhpammdeaaDoor
open Go.RowKit
set_option linter.unusedVariables false
namespace Ov
/-- a, b: the halves of a number of 36 bits; its square's and cube's pieces -/
def mid0 (a b : Nat) : Nat := 2 * a * b + b * b / 4294967296
def high (a b : Nat) : Nat := a * a + mid0 a b / 4294967296
def low (b : Nat) : Nat := b * b % 4294967296
def mid (a b : Nat) : Nat := mid0 a b % 4294967296
def carry (a b : Nat) : Nat := low b * b / 4294967296 + low b * a % 4294967296 + mid a b * b % 4294967296
def next (a b : Nat) : Nat := low b * a / 4294967296 + mid a b * b / 4294967296 + mid a b * a % 4294967296 + high a b * b % 4294967296 + carry a b / 4294967296
def top (a b : Nat) : Nat := mid a b * a / 4294967296 + high a b * b / 4294967296 + high a b * a + next a b / 4294967296
/-- the document's over -/
def over (x p : Nat) (three : Bool) : Bool :=
  let a := x / 4294967296
  let b := x % 4294967296
  if three then decide (p ≤ top a b) else decide (p ≤ high a b)
theorem wq {k : Nat} {e : Int} (h : e = (k : Int)) (hk : k < 18446744073709551616) : IntKind.u64.wrap e = (k : Int) := by rw [IntKind.wrap_u64]; omega
theorem mul_le {a b c d : Nat} (h1 : a ≤ c) (h2 : b ≤ d) : a * b ≤ c * d := Nat.mul_le_mul h1 h2
theorem rem_t {n x : Nat} (h : n = x % 4294967296) : (x : Int).tmod 4294967296 = (n : Int) := by rw [Int.tmod_eq_emod_of_nonneg (by omega)]; omega
theorem rem_v {n x : Nat} (h : n = x % 4294967296) : (x : Int) % 4294967296 = (n : Int) := by omega
theorem rem_b {n x : Nat} (h : n = x % 4294967296) : n ≤ 4294967295 := by omega
theorem shr_v {n x : Nat} (h : n = x / 4294967296) : (x : Int) / 4294967296 = (n : Int) := by omega
theorem shr_b {n x : Nat} (h : n = x / 4294967296) (hx : x ≤ 18446744065119617025) : n ≤ 4294967295 := by omega
theorem add_b {n x y c d : Nat} (h : n = x + y) (hx : x ≤ c) (hy : y ≤ d) : n ≤ c + d := by omega
theorem add_v {n x y : Nat} (h : n = x + y) : (x : Int) + (y : Int) = (n : Int) := by omega
theorem add_w {n x y : Nat} (h : n = x + y) (hb : n ≤ 34359738368) : IntKind.u64.wrap ((x : Int) + (y : Int)) = (n : Int) := wq (by omega) (by omega)
theorem mul_w {n x y : Nat} (h : n = x * y) (hb : n ≤ 18446744065119617025) : IntKind.u64.wrap ((x : Int) * (y : Int)) = (n : Int) := wq (by rw [h, Int.natCast_mul]) (by omega)
end Ov
set_option maxRecDepth 100000 in
set_option maxHeartbeats 4000000 in
theorem over_c (x p : Nat) (three : Bool) (w : World) (hx : x < 68719476736) (hp : p < 4294967296) :
    Calls Tryd.prog 39 #[.int .u64 (x : Int), .int .u64 (p : Int), .bool three] w fun e w' => e = .returned (.bool (Ov.over x p three)) ∧ w = w' := by
  obtain ⟨a, ha⟩ : ∃ a, a = x / 4294967296 := ⟨_, rfl⟩
  obtain ⟨b, hb⟩ : ∃ b, b = x % 4294967296 := ⟨_, rfl⟩
  have ha16 : a ≤ 15 := by omega
  have hb32 : b ≤ 4294967295 := by omega
  have ea : (x : Int) / 4294967296 = (a : Int) := by omega
  have eb : (x : Int) % 4294967296 = (b : Int) := by omega
  have HO : Hid (Ov.over x p three = if three then decide (p ≤ Ov.top a b) else decide (p ≤ Ov.high a b)) := Lib.hid (by rw [ha, hb]; rfl)
  obtain ⟨l0, hl0⟩ : ∃ l0, l0 = b * b := ⟨_, rfl⟩
  obtain ⟨ab, hab⟩ : ∃ ab, ab = 2 * a * b := ⟨_, rfl⟩
  obtain ⟨aa, haa⟩ : ∃ aa, aa = a * a := ⟨_, rfl⟩
  have l1 : l0 ≤ 18446744065119617025 := by rw [hl0]; exact Ov.mul_le hb32 hb32
  have l2 : ab ≤ 128849018850 := by rw [hab]; exact Ov.mul_le (show 2 * a ≤ 30 by omega) hb32
  have l3 : aa ≤ 225 := by rw [haa]; exact Ov.mul_le ha16 ha16
  obtain ⟨m0, hm0⟩ : ∃ m0, m0 = ab + l0 / 4294967296 := ⟨_, rfl⟩
  have l4 : m0 ≤ 133143986145 := by omega
  obtain ⟨lo, hlo⟩ : ∃ lo, lo = l0 % 4294967296 := ⟨_, rfl⟩
  have l5 : lo ≤ 4294967295 := by omega
  obtain ⟨hi, hhi⟩ : ∃ hi, hi = aa + m0 / 4294967296 := ⟨_, rfl⟩
  have l6 : hi ≤ 256 := by omega
  obtain ⟨mi, hmi⟩ : ∃ mi, mi = m0 % 4294967296 := ⟨_, rfl⟩
  have l7 : mi ≤ 4294967295 := by omega
  have f1 : IntKind.u64.wrap ((b : Int) * (b : Int)) = (l0 : Int) := Ov.wq (by rw [hl0, Int.natCast_mul]) (by omega)
  have f2 : IntKind.u64.wrap (2 * (a : Int) * (b : Int)) = (ab : Int) := Ov.wq (by rw [hab, Int.natCast_mul, Int.natCast_mul]; rfl) (by omega)
  have f3 : IntKind.u64.wrap ((ab : Int) + (l0 : Int) / 4294967296) = (m0 : Int) := Ov.wq (by omega) (by omega)
  have f4 : (l0 : Int).tmod 4294967296 = (lo : Int) := by rw [Int.tmod_eq_emod_of_nonneg (by omega)]; omega
  have f5 : IntKind.u64.wrap ((a : Int) * (a : Int)) = (aa : Int) := Ov.wq (by rw [haa, Int.natCast_mul]) (by omega)
  have f6 : IntKind.u64.wrap ((aa : Int) + (m0 : Int) / 4294967296) = (hi : Int) := Ov.wq (by omega) (by omega)
  have f7 : (m0 : Int).tmod 4294967296 = (mi : Int) := by rw [Int.tmod_eq_emod_of_nonneg (by omega)]; omega
  have HHI := Lib.hid (show Ov.high a b = hi ∧ Ov.mid a b = mi ∧ Ov.low b = lo from by unfold Ov.high Ov.mid Ov.low Ov.mid0; rw [← hl0, ← hab, ← haa, ← hm0]; exact ⟨hhi.symm, hmi.symm, hlo.symm⟩)
  obtain ⟨ta, hta⟩ : ∃ ta, ta = lo * a := ⟨_, rfl⟩
  have bta : ta ≤ 64424509425 := by rw [hta]; exact Ov.mul_le l5 ha16
  have wta := Ov.mul_w hta (Nat.le_trans bta (by decide))
  obtain ⟨ub, hub⟩ : ∃ ub, ub = mi * b := ⟨_, rfl⟩
  have bub : ub ≤ 18446744065119617025 := by rw [hub]; exact Ov.mul_le l7 hb32
  have wub := Ov.mul_w hub (Nat.le_trans bub (by decide))
  obtain ⟨lb, hlb⟩ : ∃ lb, lb = lo * b := ⟨_, rfl⟩
  have blb : lb ≤ 18446744065119617025 := by rw [hlb]; exact Ov.mul_le l5 hb32
  have wlb := Ov.mul_w hlb (Nat.le_trans blb (by decide))
  obtain ⟨ma, hma⟩ : ∃ ma, ma = mi * a := ⟨_, rfl⟩
  have bma : ma ≤ 64424509425 := by rw [hma]; exact Ov.mul_le l7 ha16
  have wma := Ov.mul_w hma (Nat.le_trans bma (by decide))
  obtain ⟨hb2, hhb2⟩ : ∃ hb2, hb2 = hi * b := ⟨_, rfl⟩
  have bhb2 : hb2 ≤ 1099511627520 := by rw [hhb2]; exact Ov.mul_le l6 hb32
  have whb2 := Ov.mul_w hhb2 (Nat.le_trans bhb2 (by decide))
  obtain ⟨ha2, hha2⟩ : ∃ ha2, ha2 = hi * a := ⟨_, rfl⟩
  have bha2 : ha2 ≤ 3840 := by rw [hha2]; exact Ov.mul_le l6 ha16
  have wha2 := Ov.mul_w hha2 (Nat.le_trans bha2 (by decide))
  obtain ⟨lbq, hlbq⟩ : ∃ lbq, lbq = lb / 4294967296 := ⟨_, rfl⟩
  have blbq : lbq ≤ 4294967295 := Ov.shr_b hlbq (Nat.le_trans blb (by decide))
  have vlbq := Ov.shr_v hlbq
  obtain ⟨tar, htar⟩ : ∃ tar, tar = ta % 4294967296 := ⟨_, rfl⟩
  have btar := Ov.rem_b htar
  have wtar := Ov.rem_t htar
  have vtar := Ov.rem_v htar
  obtain ⟨ubr, hubr⟩ : ∃ ubr, ubr = ub % 4294967296 := ⟨_, rfl⟩
  have bubr := Ov.rem_b hubr
  have wubr := Ov.rem_t hubr
  have vubr := Ov.rem_v hubr
  obtain ⟨c1, hc1⟩ : ∃ c1, c1 = lbq + tar := ⟨_, rfl⟩
  have bc1 : c1 ≤ 8589934590 := Ov.add_b hc1 blbq btar
  have wc1 := Ov.add_w hc1 (Nat.le_trans bc1 (by decide))
  have vc1 := Ov.add_v hc1
  obtain ⟨c2, hc2⟩ : ∃ c2, c2 = c1 + ubr := ⟨_, rfl⟩
  have bc2 : c2 ≤ 12884901885 := Ov.add_b hc2 bc1 bubr
  have wc2 := Ov.add_w hc2 (Nat.le_trans bc2 (by decide))
  have vc2 := Ov.add_v hc2
  obtain ⟨taq, htaq⟩ : ∃ taq, taq = ta / 4294967296 := ⟨_, rfl⟩
  have btaq : taq ≤ 4294967295 := Ov.shr_b htaq (Nat.le_trans bta (by decide))
  have vtaq := Ov.shr_v htaq
  obtain ⟨ubq, hubq⟩ : ∃ ubq, ubq = ub / 4294967296 := ⟨_, rfl⟩
  have bubq : ubq ≤ 4294967295 := Ov.shr_b hubq (Nat.le_trans bub (by decide))
  have vubq := Ov.shr_v hubq
  obtain ⟨n1, hn1⟩ : ∃ n1, n1 = taq + ubq := ⟨_, rfl⟩
  have bn1 : n1 ≤ 8589934590 := Ov.add_b hn1 btaq bubq
  have wn1 := Ov.add_w hn1 (Nat.le_trans bn1 (by decide))
  have vn1 := Ov.add_v hn1
  obtain ⟨mar, hmar⟩ : ∃ mar, mar = ma % 4294967296 := ⟨_, rfl⟩
  have bmar := Ov.rem_b hmar
  have wmar := Ov.rem_t hmar
  have vmar := Ov.rem_v hmar
  obtain ⟨n2, hn2⟩ : ∃ n2, n2 = n1 + mar := ⟨_, rfl⟩
  have bn2 : n2 ≤ 12884901885 := Ov.add_b hn2 bn1 bmar
  have wn2 := Ov.add_w hn2 (Nat.le_trans bn2 (by decide))
  have vn2 := Ov.add_v hn2
  obtain ⟨hbr, hhbr⟩ : ∃ hbr, hbr = hb2 % 4294967296 := ⟨_, rfl⟩
  have bhbr := Ov.rem_b hhbr
  have whbr := Ov.rem_t hhbr
  have vhbr := Ov.rem_v hhbr
  obtain ⟨n3, hn3⟩ : ∃ n3, n3 = n2 + hbr := ⟨_, rfl⟩
  have bn3 : n3 ≤ 17179869180 := Ov.add_b hn3 bn2 bhbr
  have wn3 := Ov.add_w hn3 (Nat.le_trans bn3 (by decide))
  have vn3 := Ov.add_v hn3
  obtain ⟨cq, hcq⟩ : ∃ cq, cq = c2 / 4294967296 := ⟨_, rfl⟩
  have bcq : cq ≤ 4294967295 := Ov.shr_b hcq (Nat.le_trans bc2 (by decide))
  have vcq := Ov.shr_v hcq
  obtain ⟨nx, hnx⟩ : ∃ nx, nx = n3 + cq := ⟨_, rfl⟩
  have bnx : nx ≤ 21474836475 := Ov.add_b hnx bn3 bcq
  have wnx := Ov.add_w hnx (Nat.le_trans bnx (by decide))
  have vnx := Ov.add_v hnx
  obtain ⟨maq, hmaq⟩ : ∃ maq, maq = ma / 4294967296 := ⟨_, rfl⟩
  have bmaq : maq ≤ 4294967295 := Ov.shr_b hmaq (Nat.le_trans bma (by decide))
  have vmaq := Ov.shr_v hmaq
  obtain ⟨hbq, hhbq⟩ : ∃ hbq, hbq = hb2 / 4294967296 := ⟨_, rfl⟩
  have bhbq : hbq ≤ 4294967295 := Ov.shr_b hhbq (Nat.le_trans bhb2 (by decide))
  have vhbq := Ov.shr_v hhbq
  obtain ⟨r1, hr1⟩ : ∃ r1, r1 = maq + hbq := ⟨_, rfl⟩
  have br1 : r1 ≤ 8589934590 := Ov.add_b hr1 bmaq bhbq
  have wr1 := Ov.add_w hr1 (Nat.le_trans br1 (by decide))
  have vr1 := Ov.add_v hr1
  obtain ⟨r2, hr2⟩ : ∃ r2, r2 = r1 + ha2 := ⟨_, rfl⟩
  have br2 : r2 ≤ 8589938430 := Ov.add_b hr2 br1 bha2
  have wr2 := Ov.add_w hr2 (Nat.le_trans br2 (by decide))
  have vr2 := Ov.add_v hr2
  obtain ⟨nxq, hnxq⟩ : ∃ nxq, nxq = nx / 4294967296 := ⟨_, rfl⟩
  have bnxq : nxq ≤ 4294967295 := Ov.shr_b hnxq (Nat.le_trans bnx (by decide))
  have vnxq := Ov.shr_v hnxq
  obtain ⟨rr, hrr⟩ : ∃ rr, rr = r2 + nxq := ⟨_, rfl⟩
  have brr : rr ≤ 12884905725 := Ov.add_b hrr br2 bnxq
  have wrr := Ov.add_w hrr (Nat.le_trans brr (by decide))
  have vrr := Ov.add_v hrr
  have HTOP := Lib.hid (show Ov.top a b = rr from by unfold Ov.top Ov.next Ov.carry; rw [HHI.out.1, HHI.out.2.1, HHI.out.2.2, ← hta, ← hub, ← hlb, ← hma, ← hhb2, ← hha2, ← hlbq, ← htar, ← hubr, ← hc1, ← hc2, ← htaq, ← hubq, ← hn1, ← hmar, ← hn2, ← hhbr, ← hn3, ← hcq, ← hnx, ← hmaq, ← hhbq, ← hr1, ← hr2, ← hnxq, ← hrr])
  clear hl0 hab haa hm0 hlo hhi hmi ha hb l1 hta hub hlb hma hhb2 hha2 hlbq htar hubr hc1 hc2 htaq hubq hn1 hmar hn2 hhbr hn3 hcq hnx hmaq hhbq hr1 hr2 hnxq hrr bub blb
  cases three with
  | false =>
    have HF := Lib.hid (show Ov.over x p false = decide (p ≤ hi) from by rw [HO.out, HHI.out.1]; rfl)
    clear HO HTOP HHI
    go_enter Tryd.func39, Tryd.ntmps39
    go_wp2
    go_ret
    exact ⟨by rw [HF.out]; rfl, rfl⟩
  | true =>
    have HF := Lib.hid (show Ov.over x p true = decide (p ≤ rr) from by rw [HO.out, HTOP.out]; rfl)
    clear HO HTOP HHI
    go_enter Tryd.func39, Tryd.ntmps39
    go_wp2
    go_ret
    exact ⟨by rw [HF.out]; rfl, rfl⟩
end Go.Proofs.YtbhgpkhpammdeaaDoor
