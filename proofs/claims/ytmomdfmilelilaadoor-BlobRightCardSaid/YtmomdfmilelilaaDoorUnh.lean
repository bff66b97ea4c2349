/-
  The walks over Unhex, the program's and the document's.
-/
import Derived.Test.YtmomdfmilelilaaDoorPka
import Derived.Test.YtmomdfmilelilaaDoorUnm
namespace Go.Proofs.YtmomdfmilelilaaDoor
set_option linter.unusedVariables false
open Go.RowKit

/-- a text's bytes, as numbers -/
def chars (s : ByteArray) : List Nat := s.data.toList.map UInt8.toNat
theorem chars_len (s : ByteArray) : (chars s).length = s.size := by simp [chars]
theorem chars_byte (s : ByteArray) (i : Nat) : (chars s).getD i 0 < 256 := by
  by_cases h : i < (chars s).length
  · rw [getD_at _ _ h]
    simp only [chars, List.getElem_map]
    exact UInt8.toNat_lt _
  · simp [List.getElem?_eq_none (Nat.le_of_not_lt h)]
def IdxAt (s : ByteArray) (i : Nat) : Prop := ∀ W : World, (Instr.index 9 (.string s) (.int .i64 (i : Int))).run Tryd.prog W = .ok (.int .u8 (((chars s).getD i 0 : Nat) : Int)) W
theorem idx_at (s : ByteArray) (i : Nat) (h : i < s.size) : IdxAt s i := by
  intro W
  rw [run_index_string (w := W) (t := 9) (s := s) (k := .i64) (i := (i : Int)) (h := Tryd.underlying9)]
  rw [dif_pos (by omega)]
  rw [getD_at _ i (by rw [chars_len]; exact h)]
  simp [chars]
  rfl

theorem tup_u8 {a b : Int} {p q : Bool} (h : a = b) (k : p = q) : Ending.returned (.tuple #[.int .u8 a, .bool p]) = .returned (.tuple #[.int .u8 b, .bool q]) := by rw [h, k]
/-- digit: what a digit stands for -/
def digv (c : Nat) : Nat := (Unm.hv c).getD 0
theorem digit_c (c : Nat) (w : World) (hc : c < 256) :
    Calls Tryd.prog 65 #[.int .u8 (c : Int)] w fun e w' => e = .returned (.tuple #[.int .u8 ((digv c : Nat) : Int), .bool (Unm.hv c).isSome]) ∧ w = w' := by
  by_cases h1 : 48 ≤ c ∧ c ≤ 57
  · have e1 : Unm.hv c = some (c - 48) := by unfold Unm.hv; rw [if_pos h1]
    have e2 : digv c = c - 48 := by unfold digv; rw [e1]; rfl
    rw [e1, e2]
    clear e1 e2
    obtain ⟨h1, h2⟩ := h1
    go_enter Tryd.func65, Tryd.ntmps65
    go_wp2
    go_ret2
    exact ⟨tup_u8 (by omega) (by simp <;> omega), rfl⟩
  · by_cases h2 : 97 ≤ c ∧ c ≤ 102
    · have e1 : Unm.hv c = some (c - 87) := by unfold Unm.hv; rw [if_neg h1, if_pos h2]
      have e2 : digv c = c - 87 := by unfold digv; rw [e1]; rfl
      rw [e1, e2]
      clear e1 e2
      obtain ⟨h2, h3⟩ := h2
      have h4 : ¬ (c : Int) ≤ 57 := by omega
      go_enter Tryd.func65, Tryd.ntmps65
      go_wp2
      go_ret2
      exact ⟨tup_u8 (by omega) rfl, rfl⟩
    · have e1 : Unm.hv c = none := by unfold Unm.hv; rw [if_neg h1, if_neg h2]
      have e2 : digv c = 0 := by unfold digv; rw [e1]; rfl
      rw [e1, e2]
      clear e1 e2
      have hb1 : (decide ((48 : Int) ≤ (c : Int)) && decide ((c : Int) ≤ 57)) = false := by simp; omega
      have hb2 : (decide ((97 : Int) ≤ (c : Int)) && decide ((c : Int) ≤ 102)) = false := by simp; omega
      go_enter Tryd.func65, Tryd.ntmps65
      go_wp2
      all_goals go_ret2
      all_goals exact ⟨rfl, rfl⟩

theorem digv_lt (c : Nat) : digv c < 16 := by
  unfold digv
  cases h : Unm.hv c with
  | none => decide
  | some v => exact Unm.hv_lt h
/-- what is known of the text behind k bytes -/
def UAt (cs : List Nat) (k : Nat) (P : List Nat) : Prop := P.length = k ∧ (∀ z ∈ P, z < 256) ∧ Unm.un cs = (Unm.un (cs.drop (2 * k))).map (P ++ ·)
theorem UAt.none {cs P : List Nat} {k : Nat} (h : UAt cs k P) (hk : 2 * k + 1 < cs.length) (hn : Unm.hv (cs.getD (2 * k) 0) = none ∨ Unm.hv (cs.getD (2 * k + 1) 0) = none) : Unm.un cs = Option.none := by
  rw [h.2.2, List.drop_eq_getElem_cons (by omega), List.drop_eq_getElem_cons (by omega), Unm.un]
  rw [getD_at _ _ (by omega), getD_at _ _ (by omega)] at hn
  split
  · rename_i a b ha hb
    rw [ha, hb] at hn
    simp at hn
  · rfl
theorem UAt.next {cs P : List Nat} {k : Nat} (h : UAt cs k P) (hk : 2 * k + 1 < cs.length) (h1 : Unm.hv (cs.getD (2 * k) 0) ≠ Option.none) (h2 : Unm.hv (cs.getD (2 * k + 1) 0) ≠ Option.none) :
    UAt cs (k + 1) (P ++ [16 * digv (cs.getD (2 * k) 0) + digv (cs.getD (2 * k + 1) 0)]) := by
  have l1 := digv_lt (cs.getD (2 * k) 0)
  have l2 := digv_lt (cs.getD (2 * k + 1) 0)
  refine ⟨by rw [List.length_append, h.1]; rfl, ?_, ?_⟩
  · intro z hz
    rcases List.mem_append.1 hz with hz | hz
    · exact h.2.1 z hz
    · simp only [List.mem_singleton] at hz; omega
  · rw [h.2.2, List.drop_eq_getElem_cons (by omega), List.drop_eq_getElem_cons (by omega), Unm.un]
    rw [getD_at _ _ (by omega)] at h1 ⊢
    rw [getD_at _ _ (by omega)] at h2 ⊢
    unfold digv
    cases e1 : Unm.hv cs[2 * k] with
    | none => exact absurd e1 h1
    | some a =>
      cases e2 : Unm.hv cs[2 * k + 1] with
      | none => exact absurd e2 h2
      | some b =>
        rw [show 2 * (k + 1) = 2 * k + 1 + 1 by omega]
        cases Unm.un (List.drop (2 * k + 1 + 1) cs) <;> simp
theorem UAt.done {cs P : List Nat} {k : Nat} (h : UAt cs k P) (hk : 2 * k = cs.length) : Unm.un cs = some P := by
  rw [h.2.2, hk, List.drop_length, Unm.un]; simp
theorem UAt.odd {cs P : List Nat} {k : Nat} (h : UAt cs k P) (hk : 2 * k + 1 = cs.length) : Unm.un cs = Option.none := Unm.un_odd _ (by omega)
/-- what Unhex hands back -/
def UnRet (B : Nat) (w : World) (r : Option (List Nat)) (e : Ending) (w' : World) : Prop :=
  ∃ v, e = .returned (.tuple #[v, .int .i64 (if r.isSome then 0 else 10)]) ∧ Own w' B v (r.getD []) ∧ Below B w w'
theorem UnRet.no {B : Nat} {w w' : World} {cs : List Nat} (h : Unm.un cs = Option.none) (hb : Below B w w') : UnRet B w (Unm.un cs) (.returned (.tuple #[.slice Option.none 0 0, .int .i64 10])) w' := by
  rw [h]; exact ⟨_, rfl, Own.nil _ _, hb⟩
theorem UnRet.yes {B : Nat} {w w' : World} {cs P : List Nat} {v : Value} (h : Unm.un cs = some P) (ho : Own w' B v P) (hb : Below B w w') : UnRet B w (Unm.un cs) (.returned (.tuple #[v, .int .i64 0])) w' := by
  rw [h]; exact ⟨_, rfl, ho, hb⟩
theorem un_made (n : Nat) : (madeCells #[Value.int IntKind.u8 0] n).toList = cellsOf (List.replicate n 0) := by
  apply List.ext_getElem
  · simp [madeCells, cellsOf]
  · intro i h1 h2
    simp [madeCells, cellsOf, Nat.mod_one]
theorem or_hex (a b : Nat) (ha : a < 16) (hb : b < 16) : bits .or .u8 ((a : Int) * 16) (b : Int) = ((16 * a + b : Nat) : Int) := by
  rw [show ((a : Int) * 16) = ((a * 16 : Nat) : Int) by omega, u8_or_nat _ _ (by omega) (by omega)]
  congr 1
  have := Nat.two_pow_add_eq_or_of_lt (i := 4) hb a
  rw [Nat.mul_comm a 16]
  exact this.symm
def urow (n : Nat) (P : List Nat) : List Nat := P ++ List.replicate (n - P.length) 0
theorem urow_next (n : Nat) (P : List Nat) (z : Nat) (h : P.length < n) : (urow n P).set P.length z = urow n (P ++ [z]) := by
  unfold urow
  rw [List.set_append_right _ _ (Nat.le_refl _), Nat.sub_self, show n - P.length = (n - P.length - 1) + 1 by omega, List.replicate_succ, List.set_cons_zero]
  simp [Nat.sub_sub]
theorem set_cells (zs : List Nat) (j z : Nat) : (cellsOf zs).set j (.int .u8 (z : Int)) = cellsOf (zs.set j z) := by simp [cellsOf, List.map_set]

set_option maxRecDepth 100000 in
set_option maxHeartbeats 1600000 in
theorem unhex_even (s : ByteArray) (n : Nat) (w : World) (hs : s.size = 2 * n) (hn : n ≤ 70000000000000) :
    Calls Tryd.prog 56 #[.string s] w (UnRet w.heap.size w (Unm.un (chars s))) := by
  obtain ⟨i0, hi, hz0, hz1, hz2⟩ := info_parts byteInfo
  have hcl := chars_len s
  go_enter Tryd.func56, Tryd.ntmps56
  go_wp2_with (at_make; refine wpList_make_full _ rfl _ _ 33 rfl w.heap.size 5 i0 (.int .u8 0) 1 Tryd.underlying33 hi hz0 hz1 .i64 .i64 _ _ n rfl rfl ?hx ?hy (by rw [hz2]; omega) (by unfold maxLen; omega) (Nat.le_refl _) ?_)
  case hx => omega
  case hy => omega
  intro w0 hown0 hg0
  have hb0 : Below w.heap.size w w0 := (Below.refl _ _).grown hg0 (Nat.le_refl _) (by simp)
  have hown : w0.ownsRow w.heap.size 5 1 (.slice (some ⟨w.heap.size, 0, none⟩) n n) n (cellsOf (urow n [])) := by
    have e : urow n [] = List.replicate n 0 := by simp [urow]
    rw [e, ← un_made]
    exact hown0
  clear hown0 hg0
  go_wp2_with fail
  go_loopw [20] (fun i wr => ∃ (k : Nat) (P : List Nat), k ≤ n ∧ i = .int .i64 k ∧ UAt (chars s) k P ∧ wr.ownsRow w.heap.size 5 1 (.slice (some ⟨w.heap.size, 0, none⟩) n n) n (cellsOf (urow n P)) ∧ Below w.heap.size w wr) (fun i _ => n - (intOf i).toNat)
  case atStart => exact ⟨0, [], Nat.zero_le _, rfl, ⟨rfl, by simp, by simp⟩, hown, hb0⟩
  case round =>
    clear hown hb0
    obtain ⟨k, P, hk, rfl, hat, hown, hnx⟩ := hrel
    by_cases hkn : k < n
    · have hi1 := idx_at s (2 * k) (by omega)
      have hi2 := idx_at s (2 * k + 1) (by omega)
      unfold IdxAt at hi1 hi2
      rw [show ((2 * k : Nat) : Int) = 2 * (k : Int) by omega] at hi1
      rw [show ((2 * k + 1 : Nat) : Int) = 2 * (k : Int) + 1 by omega] at hi2
      have hnone := Lib.hid (hat.none (by rw [hcl]; omega))
      have hnext := Lib.hid (hat.next (by rw [hcl]; omega))
      have hc1b := chars_byte s (2 * k)
      have hc2b := chars_byte s (2 * k + 1)
      obtain ⟨c1, hc1⟩ : ∃ c, c = (chars s).getD (2 * k) 0 := ⟨_, rfl⟩
      obtain ⟨c2, hc2⟩ : ∃ c, c = (chars s).getD (2 * k + 1) 0 := ⟨_, rfl⟩
      rw [← hc1] at hi1 hc1b hnone hnext
      rw [← hc2] at hi2 hc2b hnone hnext
      have hPl := hat.1
      have d1 := digit_c c1 (w := wr) (hc := hc1b)
      have d2 := digit_c c2 (w := wr) (hc := hc2b)
      clear hc1 hc2 hat
      cases e1 : Unm.hv c1 with
      | none =>
        have hno := Lib.hid (hnone.out (.inl e1))
        rw [e1] at d1
        clear hnone hnext e1 hown hPl
        go_wp2_with fail
        refine d1.mono ?_
        rintro en wx ⟨rfl, rfl⟩
        go_wp2_with fail
        refine d2.mono ?_
        rintro en wx ⟨rfl, rfl⟩
        go_wp2_with fail
        go_ret2
        exact UnRet.no hno.out hnx
      | some a =>
        cases e2 : Unm.hv c2 with
        | none =>
          have hno := Lib.hid (hnone.out (.inr e2))
          rw [e1] at d1
          rw [e2] at d2
          clear hnone hnext e1 e2 hown hPl
          go_wp2_with fail
          refine d1.mono ?_
          rintro en wx ⟨rfl, rfl⟩
          go_wp2_with fail
          refine d2.mono ?_
          rintro en wx ⟨rfl, rfl⟩
          go_wp2_with fail
          go_ret2
          exact UnRet.no hno.out hnx
        | some b =>
          have hat1 := hnext.out (by rw [e1]; simp) (by rw [e2]; simp)
          have HAT := Lib.hid hat1
          have l1 := digv_lt c1
          have l2 := digv_lt c2
          have HV := Lib.hid (or_hex (digv c1) (digv c2) l1 l2)
          rw [e1] at d1
          rw [e2] at d2
          have hcell := hown.cellAt k (by omega)
          have hfz := hown.frozenAt k
          have hul : (urow n P).length = n := by simp [urow]; omega
          rw [cellsOf_get _ _ (by rw [hul]; exact hkn)] at hcell
          have hst := (hown.stored k (.int .u8 ((16 * digv c1 + digv c2 : Nat) : Int))).1
          rw [set_cells] at hst
          have hun := urow_next n P (16 * digv c1 + digv c2) (by omega)
          rw [hPl] at hun
          rw [hun] at hst
          have hst' := Lib.hid hst
          have hbe' := Lib.hid (show Below w.heap.size w (wr.setCell ⟨w.heap.size, k, none⟩ (.int .u8 ((16 * digv c1 + digv c2 : Nat) : Int))) from hnx.setCell (by simp) _)
          have hu0 : (Value.int .u8 (((urow n P).getD k 0 : Nat) : Int)) = .int .u8 (((urow n P).getD k 0 : Nat) : Int) := rfl
          obtain ⟨o, ho⟩ : ∃ o, o = ((urow n P).getD k 0 : Nat) := ⟨_, rfl⟩
          rw [← ho] at hcell
          clear hnone hnext e1 e2 hown hPl hat1 hst hun hul hnx ho hu0
          go_wp2_with fail
          refine d1.mono ?_
          rintro en wx ⟨rfl, rfl⟩
          go_wp2_with fail
          refine d2.mono ?_
          rintro en wx ⟨rfl, rfl⟩
          have hV := HV.out
          clear d1 d2 hi1 hi2
          go_wp2_with fail
          go_roundw
          case rel => exact ⟨k + 1, P ++ [16 * digv c1 + digv c2], by omega, by go_num, HAT.out, hst'.out, hbe'.out⟩
          case measure => simp [intOf]; omega
    · go_wp2_with fail
      go_ret2
      obtain rfl : k = n := by omega
      have hd := hat.done (by rw [hcl]; omega)
      have e : urow k P = P := by simp [urow, hat.1]
      rw [e] at hown
      refine UnRet.yes hd ?_ hnx
      unfold Own
      rw [hat.1]
      exact hown
theorem unhex_odd (s : ByteArray) (n : Nat) (w : World) (hs : s.size = 2 * n + 1) (hn : n ≤ 70000000000000) :
    Calls Tryd.prog 56 #[.string s] w (UnRet w.heap.size w (Unm.un (chars s))) := by
  have hno := Lib.hid (Unm.un_odd (chars s) (by rw [chars_len]; omega))
  have hodd : ((2 * (n : Int) + 1) % 2 != 0) = true := by simp <;> omega
  go_enter Tryd.func56, Tryd.ntmps56
  go_wp2_with fail
  go_ret2
  exact UnRet.no hno.out (Below.refl _ _)
/-- Unhex: the bytes that a text of digits stands for, or none -/
theorem unhex_c (s : ByteArray) (w : World) (hs : s.size ≤ 140000000000000) : Calls Tryd.prog 56 #[.string s] w (UnRet w.heap.size w (Unm.un (chars s))) := by
  by_cases h : s.size % 2 = 0
  · exact unhex_even s (s.size / 2) w (by omega) (by omega)
  · exact unhex_odd s (s.size / 2) w (by omega) (by omega)
end Go.Proofs.YtmomdfmilelilaaDoor
