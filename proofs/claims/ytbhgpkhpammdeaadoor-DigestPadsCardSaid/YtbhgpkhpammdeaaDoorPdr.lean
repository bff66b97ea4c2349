/-
  The walks over the document's root, primes and Words.
-/
import Derived.Test.YtbhgpkhpammdeaaDoorPds
namespace Go.Proofs.YtbhgpkhpammdeaaDoor
open Go.RowKit
set_option linter.unusedVariables false
namespace Ov
/-- the bits below the k-th, from above -/
def rt (p : Nat) (three : Bool) : Nat → Nat → Nat
  | 0, x => x
  | k + 1, x => rt p three k (if over (x + 2 ^ k) p three then x else x + 2 ^ k)
def root (p : Nat) (three : Bool) : Nat := rt p three 36 0 % 4294967296
theorem pow_b {k : Nat} (h : k < 36) : 2 ^ k ≤ 34359738368 := by
  have := Nat.pow_le_pow_right (show 0 < 2 by decide) (show k ≤ 35 by omega)
  exact this
theorem shl_w {k : Nat} (h : k < 36) : IntKind.u64.wrap ((2 : Int) ^ k) = ((2 ^ k : Nat) : Int) := by
  have := pow_b h
  rw [show ((2 : Int) ^ k) = ((2 ^ k : Nat) : Int) by simp]
  exact wq rfl (by omega)
end Ov
set_option maxRecDepth 100000 in
set_option maxHeartbeats 1000000 in
theorem oroot_c (p : Nat) (three : Bool) (w : World) (hp : p < 4294967296) :
    Calls Tryd.prog 22 #[.int .u64 (p : Int), .bool three] w fun e w' => e = .returned (.int .u32 ((Ov.root p three : Nat) : Int)) ∧ w = w' := by
  obtain ⟨R, hR⟩ : ∃ R, R = Ov.rt p three 36 0 := ⟨_, rfl⟩
  have HV := Lib.hid (show ((Ov.root p three : Nat) : Int) = ((R % 4294967296 : Nat) : Int) from by rw [hR]; rfl)
  have HOV := Lib.hid (fun x W (hx : x < 68719476736) => over_c x p three W hx hp)
  have HR := Lib.hid hR
  clear hR hp
  go_enter Tryd.func22, Tryd.ntmps22
  go_wp2
  go_loop [5, 6] (fun xv iv => ∃ k x : Nat, k ≤ 36 ∧ x + 2 ^ k ≤ 68719476736 ∧ Hid (Ov.rt p three k x = R) ∧ xv = .int .u64 (x : Int) ∧ iv = .int .i64 ((k : Int) - 1)) (fun _ iv => (intOf iv + 1).toNat)
  case atStart => exact ⟨36, 0, by omega, by decide, Lib.hid HR.out.symm, rfl, rfl⟩
  case round =>
    obtain ⟨k, x, hk, hx, HX, rfl, rfl⟩ := hrel
    cases k with
    | zero =>
      have HX2 := Lib.hid (show R = x from by rw [← HX.out]; rfl)
      have hxb : x < 68719476736 := by omega
      have s1 : (x : Int).tmod 4294967296 = ((x % 4294967296 : Nat) : Int) := by rw [Int.tmod_eq_emod_of_nonneg (by omega)]; omega
      have q1 : ¬ (0 : Int) ≤ ((0 : Nat) : Int) - 1 := by omega
      clear hx HX
      go_wp2
      go_ret
      exact ⟨by rw [HV.out, HX2.out]; rfl, rfl⟩
    | succ k =>
      have q2 : ((k + 1 : Nat) : Int) - 1 = (k : Int) := by omega
      rw [q2]
      have hpb := Ov.pow_b (show k < 36 by omega)
      have HXX := HX.out
      simp only [Ov.rt] at HXX
      obtain ⟨q, hq⟩ : ∃ q, q = 2 ^ k := ⟨_, rfl⟩
      have s1 : ((2 : Int) ^ k) = ((q : Nat) : Int) := by rw [hq]; simp
      rw [Nat.pow_succ, ← hq] at hx
      rw [← hq] at hpb HXX
      have hq0 : 0 < q := by rw [hq]; exact Nat.two_pow_pos _
      have hqx2 : x + q < 68719476736 := by omega
      have s2 : IntKind.u64.wrap ((x : Int) + (q : Int)) = ((x + q : Nat) : Int) := Ov.wq (by omega) (by omega)
      obtain ⟨b, hb⟩ : ∃ b, b = Ov.over (x + q) p three := ⟨_, rfl⟩
      rw [← hb] at HXX
      have HOB := Lib.hid (fun W => HOV.out (x + q) W hqx2)
      rw [← hb] at HOB
      have HX1 := Lib.hid HXX
      have HQ := Lib.hid hq
      clear HX HXX hb hq
      cases b with
      | true =>
        go_wp2_with (first | (go_at_call 39; refine (HOB.out _).mono ?_; rintro e wb ⟨rfl, rfl⟩))
        go_round
        case rel => exact ⟨k, x, by omega, by rw [← HQ.out]; omega, Lib.hid HX1.out, rfl, by go_num⟩
        case measure => simp [intOf]
      | false =>
        go_wp2_with (first | (go_at_call 39; refine (HOB.out _).mono ?_; rintro e wb ⟨rfl, rfl⟩))
        go_round
        case rel => exact ⟨k, x + q, by omega, by rw [← HQ.out]; omega, Lib.hid HX1.out, rfl, by go_num⟩
        case measure => simp [intOf]

/-! ### lists of words that the call owns -/
def cellsK (k : IntKind) (zs : List Nat) : List Value := zs.map fun z : Nat => .int k (z : Int)
theorem cellsK_len (k : IntKind) (zs : List Nat) : (cellsK k zs).length = zs.length := by simp [cellsK]
theorem cellsK_one (k : IntKind) (zs : List Nat) : ∀ u ∈ cellsK k zs, u.oneCell' = true := by
  intro u hu
  obtain ⟨z, _, rfl⟩ := List.mem_map.1 hu
  rfl
theorem cellsK_app (k : IntKind) (a b : List Nat) : cellsK k (a ++ b) = cellsK k a ++ cellsK k b := by simp [cellsK]
abbrev OwnK (w : World) (B : Nat) (E : TypeId) (k : IntKind) (v : Value) (zs : List Nat) : Prop := w.ownsRow B E 1 v zs.length (cellsK k zs)
structure KT (T E : TypeId) (k : IntKind) (b : Nat) : Prop where
  und : Tryd.prog.underlying T = some (.slice E)
  info : (Tryd.prog.info? E).map (fun i => (i.zero, i.size, i.bytes)) = some (some (.int k 0), 1, b)
theorem kt64 : KT 51 54 .u64 8 := ⟨Tryd.underlying51, by kernel_rfl⟩
theorem kt32 : KT 24 26 .u32 4 := ⟨Tryd.underlying24, by kernel_rfl⟩
theorem OwnK.nil (w : World) (B : Nat) (E : TypeId) (k : IntKind) : OwnK w B E k (.slice none 0 0) [] := World.ownsRow_nil _ _ _ _
theorem OwnK.form {w : World} {B : Nat} {E : TypeId} {k : IntKind} {v : Value} {zs : List Nat} (h : OwnK w B E k v zs) : ∃ a L c, v = .slice a L c ∧ zs.length = L ∧ L ≤ c ∧ c ≤ 9223372036854775807 ∧ (0 < L → ∃ g, a = some ⟨g, 0, none⟩ ∧ B ≤ g ∧ g < w.heap.size ∧ ∀ j, j < L → w.cell? ⟨g, j, none⟩ = some (.int k ((zs.getD j 0 : Nat) : Int))) := by
  have h' := h
  rcases h.2 with ⟨rfl, hn⟩ | ⟨g, cap, cur, rfl, hbg, hg, hnc, hcm, hcs, htake⟩
  · exact ⟨none, 0, 0, rfl, hn, Nat.le_refl _, by omega, fun h => absurd h (by omega)⟩
  · refine ⟨_, _, cap, rfl, rfl, hnc, hcm, fun _ => ⟨g, rfl, hbg, (Array.getElem?_eq_some_iff.1 hg).1, fun j hj => ?_⟩⟩
    have := h'.cells (g := g) rfl j (.int k ((zs.getD j 0 : Nat) : Int)) (by
      unfold cellsK
      rw [List.getElem?_map, List.getElem?_eq_getElem hj, Option.map_some, List.getD_eq_getElem?_getD, List.getElem?_eq_getElem hj]
      rfl)
    rw [show (⟨g, 0, none⟩ : Addr).add j = ⟨g, 0 + j, none⟩ by rw [Addr.add_mid], Nat.zero_add] at this
    exact this
theorem OwnK.below {w w' : World} {B B' : Nat} {E : TypeId} {k : IntKind} {v : Value} {zs : List Nat} (h : OwnK w B E k v zs) (hb : Below B' w w') (hB : w.heap.size ≤ B') : OwnK w' B E k v zs := by
  refine ⟨h.1, ?_⟩
  rcases h.2 with hn | ⟨g, cap, cur, rfl, hbg, hg, rest⟩
  · exact .inl hn
  · have hlt := (Array.getElem?_eq_some_iff.1 hg).1
    exact .inr ⟨g, cap, cur, rfl, hbg, (hb.block g (by omega)).trans hg, rest⟩
theorem OwnK.base {w : World} {B B' : Nat} {E : TypeId} {k : IntKind} {v : Value} {zs : List Nat} (h : OwnK w B E k v zs) (hB : B' ≤ B) : OwnK w B' E k v zs := by
  refine ⟨h.1, ?_⟩
  rcases h.2 with hn | ⟨g, cap, cur, rfl, hbg, rest⟩
  · exact .inl hn
  · exact .inr ⟨g, cap, cur, rfl, Nat.le_trans hB hbg, rest⟩
theorem wpList_pushK {T E : TypeId} {k : IntKind} {b : Nat} (hT : KT T E k b) (hb : b ≤ 8) {w : World} {ops : Array Oper} {rest : List Oper} {o : Oper} {a : Act} {Q : Exit → Act → World → Prop} (hgd : o.guard = none) (s x : Operand)
    (ho : o.op = .call { callee := .builtin .append, args := #[s, x], argTypes := #[T, T] })
    (B : Nat) (v : Value) (zs : List Nat) (z : Nat) (y : Int) (hy : y = (z : Int)) (hs : a.eval s = v) (hown : OwnK w B E k v zs) (hB : B ≤ w.heap.size) (hx : a.eval x = .slice (some ⟨w.heap.size, 0, none⟩) 1 1)
    (hlen : zs.length + 1 ≤ 1000000)
    (h : ∀ v' w', OwnK w' B E k v' (zs ++ [z]) → Below B w w' → wpList Tryd.prog ops Q rest (a.put o.dst v') w') :
    wpList Tryd.prog ops Q (o :: rest) a (w.alloc (.cells #[.int k y] E)) := by
  subst hy
  obtain ⟨i0, hi, hz0, hz1, hz2⟩ := info_parts hT.info
  refine wpList_append_own _ hgd s x T ho B E i0 (.int k 0) 1 b hT.und hi hz0 hz1 hz2 rfl (by decide) v zs.length (cellsK k zs) hs (World.ownsRow.alloc hown _) ⟨w.heap.size, 0, none⟩ 1 1 (cellsK k [z]) hx rfl ?_ (cellsK_one _ _) (by unfold maxLen; omega) ?_ (by simp; omega) ?_
  · intro j u hj
    match j, hj with
    | 0, hj => simp [cellsK] at hj; subst hj; simp [Addr.add]
    | j + 1, hj => simp [cellsK] at hj
  · exact Nat.le_trans (Nat.mul_le_mul hlen hb) (by decide)
  · intro v' w' h1 h2 _
    refine h v' w' ?_ ?_
    · have e : (zs ++ [z]).length = zs.length + 1 := by simp
      unfold OwnK
      rw [e, cellsK_app]
      exact h1
    · refine ((Below.refl B w).alloc hB _).grown h2 (by simp; omega) fun k hk => (World.ownsRow.lt hown k hk).1
namespace Ov
def chk (p : Nat) : Nat → Nat → Bool → Bool
  | 0, _, b => b
  | n + 1, d, b => if d * d ≤ p then chk p n (d + 1) (if p % d = 0 then false else b) else b
def isP (p : Nat) : Bool := chk p 20 2 true
/-- the primes below p -/
def pl (p : Nat) : List Nat := (List.range p).filter fun q => decide (2 ≤ q) && isP q
theorem pl_succ {p : Nat} (h : 2 ≤ p) : pl (p + 1) = if isP p = true then pl p ++ [p] else pl p := by
  unfold pl
  rw [List.range_succ, List.filter_append]
  by_cases hp : isP p = true
  · rw [if_pos hp]
    congr 1
    simp [h, hp]
  · rw [if_neg hp]
    simp [hp]
theorem pl_pre (p k : Nat) : pl p <+: pl (p + k) := by
  unfold pl
  rw [List.range_add, List.filter_append]
  exact List.prefix_append _ _
theorem pl_take {p n : Nat} (hp : p ≤ 312) (hn : (pl p).length = n) : pl p = (pl 312).take n := by
  have h := pl_pre p (312 - p)
  rw [show p + (312 - p) = 312 by omega] at h
  rw [← hn]
  exact List.prefix_iff_eq_take.1 h
theorem pl_all : (pl 312).length = 64 := by decide +kernel
theorem pl_lt {p x : Nat} (h : x ∈ pl p) : x < p := by
  unfold pl at h
  exact List.mem_range.1 (List.mem_filter.1 h).1
theorem pl_le {p : Nat} (hp : p ≤ 312) : (pl p).length ≤ 64 := by
  have h := pl_pre p (312 - p)
  rw [show p + (312 - p) = 312 by omega] at h
  have := h.length_le
  rw [pl_all] at this
  exact this
end Ov
def RetK (E : TypeId) (k : IntKind) (zs : List Nat) (w : World) (e : Ending) (w' : World) : Prop := ∃ v, e = .returned v ∧ OwnK w' w.heap.size E k v zs ∧ Below w.heap.size w w'
set_option maxRecDepth 100000 in
set_option maxHeartbeats 2000000 in
theorem primes_c (n : Nat) (hn : n ≤ 64) (w : World) :
    Calls Tryd.prog 21 #[.int .i64 (n : Int)] w (RetK 54 .u64 ((Ov.pl 312).take n) w) := by
  go_enter Tryd.func21, Tryd.ntmps21
  go_wp2
  go_loopw [3, 4] (fun v pv wr => ∃ p : Nat, 2 ≤ p ∧ p ≤ 312 ∧ pv = .int .u64 p ∧ Hid (OwnK wr w.heap.size 54 .u64 v (Ov.pl p)) ∧ Hid (Below w.heap.size w wr) ∧ (Ov.pl p).length ≤ n) (fun _ pv _ => 312 - (intOf pv).toNat)
  case atStart => exact ⟨2, by omega, by omega, rfl, Lib.hid (OwnK.nil _ _ _ _), Lib.hid (Below.refl _ _), by rw [show (Ov.pl 2).length = 0 by decide]; omega⟩
  case round =>
    obtain ⟨p, hp2, hp312, rfl, HO, HB, hpn⟩ := hrel
    obtain ⟨a, L, c, hv, hL, hLc, hcm, _⟩ := HO.out.form
    cases hv
    by_cases hlt : L < n
    · have hp : p < 312 := by
        apply Classical.byContradiction
        intro h
        have : p = 312 := by omega
        rw [this, Ov.pl_all] at hL
        omega
      have HL := Lib.hid hL
      have q0 : ¬ (n : Int) ≤ (L : Int) := by omega
      have q1 : (L : Int) < (n : Int) := by omega
      clear hL hpn
      go_wp2
      go_loop [5, 6] (fun bv dv => ∃ (d : Nat) (b : Bool), 2 ≤ d ∧ d ≤ 18 ∧ Hid (Ov.chk p (22 - d) d b = Ov.isP p) ∧ bv = .bool b ∧ dv = .int .u64 d) (fun _ dv => 18 - (intOf dv).toNat)
      case atStart => exact ⟨2, true, by omega, by omega, Lib.hid rfl, rfl, rfl⟩
      case round =>
        obtain ⟨d, b, hd2, hd18, HC, rfl, rfl⟩ := hrel
        obtain ⟨q, hq⟩ : ∃ q, q = d * d := ⟨_, rfl⟩
        have hqb : q ≤ 324 := by rw [hq]; exact Nat.mul_le_mul hd18 hd18
        have s1 : IntKind.u64.wrap ((d : Int) * (d : Int)) = (q : Int) := Ov.wq (by rw [hq, Int.natCast_mul]) (by omega)
        have HQ := Lib.hid hq
        clear hq
        by_cases hdp : q ≤ p
        · have hd17 : d ≤ 17 := by
            apply Classical.byContradiction
            intro h
            have h18 : d = 18 := by omega
            have := HQ.out
            rw [h18] at this
            omega
          have HC2 := Lib.hid (show Ov.chk p (21 - d) (d + 1) (if p % d = 0 then false else b) = Ov.isP p from by
            have := HC.out
            rw [show 22 - d = (21 - d) + 1 by omega, Ov.chk, if_pos (by rw [← HQ.out]; exact hdp)] at this
            exact this)
          have s2 : (p : Int).tmod (d : Int) = ((p % d : Nat) : Int) := by rw [Int.tmod_eq_emod_of_nonneg (by omega)]; rfl
          have s3 : IntKind.u64.wrap ((d : Int) + 1) = ((d + 1 : Nat) : Int) := Ov.wq (by omega) (by omega)
          have q3 : ¬ d = 0 := by omega
          have q4 : (q : Int) ≤ (p : Int) := by omega
          by_cases hr : p % d = 0
          · rw [if_pos hr] at HC2
            rw [hr] at s2
            clear hr
            go_wp2
            go_round
            case rel => exact ⟨d + 1, false, by omega, by omega, Lib.hid (by rw [show 22 - (d + 1) = 21 - d by omega]; exact HC2.out), rfl, by go_num⟩
            case measure => simp [intOf]; omega
          · rw [if_neg hr] at HC2
            obtain ⟨r, hrr⟩ : ∃ r, r = p % d := ⟨_, rfl⟩
            rw [← hrr] at s2 hr
            clear hrr
            go_wp2
            go_round
            case rel => exact ⟨d + 1, b, by omega, by omega, Lib.hid (by rw [show 22 - (d + 1) = 21 - d by omega]; exact HC2.out), rfl, by go_num⟩
            case measure => simp [intOf]; omega
        · have HI := Lib.hid (show Ov.isP p = b from by
            have := HC.out
            rw [← this, show 22 - d = (21 - d) + 1 by omega, Ov.chk, if_neg (by rw [← HQ.out]; exact hdp)])
          have q4 : ¬ (q : Int) ≤ (p : Int) := by omega
          have s4 : IntKind.u64.wrap ((p : Int) + 1) = ((p + 1 : Nat) : Int) := Ov.wq (by omega) (by omega)
          have hsz := HB.out.size
          clear HC HQ hqb
          cases b with
          | true =>
            go_wp2_with (at_builtin; (refine wpList_pushK kt64 (by omega) (by rfl) _ _ (by rfl) w.heap.size _ (Ov.pl p) p _ rfl (by rfl) HO.out hsz (by rfl) (by rw [HL.out]; omega) ?_); intro v2 w2 hown hb2; have HO2 := Lib.hid hown; have HB2 := Lib.hid (HB.out.trans hb2); clear hown hb2)
            go_roundw
            case rel => exact ⟨p + 1, by omega, by omega, by go_num, Lib.hid (by rw [Ov.pl_succ hp2, if_pos HI.out]; exact HO2.out), HB2, by rw [Ov.pl_succ hp2, if_pos HI.out, List.length_append, HL.out]; simp; omega⟩
            case measure => simp [intOf]; omega
          | false =>
            go_wp2
            go_roundw
            case rel => exact ⟨p + 1, by omega, by omega, by go_num, Lib.hid (by rw [Ov.pl_succ hp2, if_neg (by rw [HI.out]; decide)]; exact HO.out), HB, by rw [Ov.pl_succ hp2, if_neg (by rw [HI.out]; decide), HL.out]; omega⟩
            case measure => simp [intOf]; omega
    · have hLn : L = n := by omega
      have HT := Lib.hid (Ov.pl_take hp312 (show (Ov.pl p).length = n by omega))
      have q1 : ¬ (L : Int) < (n : Int) := by omega
      clear hL hpn
      subst hLn
      go_wp2
      go_ret
      exact ⟨.slice a _ c, rfl, by rw [← HT.out]; exact HO.out, HB.out⟩
end Go.Proofs.YtbhgpkhpammdeaaDoor
