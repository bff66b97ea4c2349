/-
  The walks over Hex, the program's and the document's: two digits for each byte.
-/
import Derived.Test.YthnfbdmkdpokcabDoorBase
import Derived.Deep.RegionHeld3
import Derived.Deep.DrawnRows
namespace Go.Proofs.YthnfbdmkdpokcabDoor
set_option linter.unusedVariables false
open Go.RowKit

def hexd (d : Nat) : Nat := if d < 10 then 48 + d else 87 + d
def hex (zs : List Nat) : List Nat := zs.flatMap fun z => [hexd (z / 16), hexd (z % 16)]
theorem hex_snoc (zs : List Nat) (z : Nat) : hex (zs ++ [z]) = hex zs ++ [hexd (z / 16), hexd (z % 16)] := by simp [hex]
theorem hex_len (zs : List Nat) : (hex zs).length = 2 * zs.length := by
  induction zs with
  | nil => rfl
  | cons z zs ih => simp only [hex, List.flatMap_cons, List.length_append, List.length_cons, List.length_nil] at *; omega
theorem hexd_byte (d : Nat) (h : d < 16) : hexd d < 256 := by unfold hexd; split <;> omega
theorem hex_byte (zs : List Nat) (hz : ∀ z ∈ zs, z < 256) : ∀ c ∈ hex zs, c < 256 := by
  intro c hc
  simp only [hex, List.mem_flatMap] at hc
  obtain ⟨z, hm, hc⟩ := hc
  have := hz z hm
  have h1 := hexd_byte (z / 16) (by omega)
  have h2 := hexd_byte (z % 16) (by omega)
  simp at hc
  rcases hc with rfl | rfl <;> assumption

def RetS (B : Nat) (s : ByteArray) (w : World) (e : Ending) (w' : World) : Prop := e = .returned (.string s) ∧ Below B w w'

def digits : ByteArray := { data := #[48, 49, 50, 51, 52, 53, 54, 55, 56, 57, 97, 98, 99, 100, 101, 102] }
def DigAt (d : Nat) : Prop := ∀ w : World, (Instr.index 9 (.string { data := #[48, 49, 50, 51, 52, 53, 54, 55, 56, 57, 97, 98, 99, 100, 101, 102] }) (.int .u8 (d : Int))).run Tryd.prog w = .ok (.int .u8 ((hexd d : Nat) : Int)) w
theorem dig_at (d : Nat) (h : d < 16) : DigAt d := by
  have hall : ∀ e : Fin 16, DigAt e.val := by
    intro e w
    rcases e with ⟨e, he⟩
    obtain h0 | h0 | h0 | h0 | h0 | h0 | h0 | h0 | h0 | h0 | h0 | h0 | h0 | h0 | h0 | h0 : e = 0 ∨ e = 1 ∨ e = 2 ∨ e = 3 ∨ e = 4 ∨ e = 5 ∨ e = 6 ∨ e = 7 ∨ e = 8 ∨ e = 9 ∨ e = 10 ∨ e = 11 ∨ e = 12 ∨ e = 13 ∨ e = 14 ∨ e = 15 := by omega
    all_goals (subst h0; kernel_rfl)
  exact hall ⟨d, h⟩
theorem and15 (c : Nat) (h : c < 256) : bits .and .u8 (c : Int) 15 = ((c % 16 : Nat) : Int) := by
  rw [show (15 : Int) = ((15 : Nat) : Int) by rfl, u8_and_nat _ _ h (by omega)]
  congr 1
  exact Nat.and_two_pow_sub_one_eq_mod c 4

set_option maxRecDepth 100000 in
set_option maxHeartbeats 800000 in
theorem hex_some (b off len cap : Nat) (zs : List Nat) (w : World) (hl : zs.length = len) (hm : len ≤ 70000000000000) (hz : ∀ z ∈ zs, z < 256) (hb : b < w.heap.size)
    (hcell : ∀ i, i < len → w.cell? ⟨b, off + i, none⟩ = some (.int .u8 ((zs.getD i 0 : Nat) : Int))) :
    Calls Tryd.prog 40 #[.slice (some ⟨b, off, none⟩) len cap] w (RetS w.heap.size (str (hex zs)) w) := by
  obtain ⟨i0, hi, hz0, hz1, hz2⟩ := info_parts byteInfo
  go_enter Tryd.func40, Tryd.ntmps40
  go_wp2_with (at_make; refine wpList_make_own _ rfl _ _ 22 rfl w.heap.size 5 i0 (.int .u8 0) 1 Tryd.underlying22 hi hz0 hz1 .i64 .i64 _ (2 * len) rfl rfl ?hC (by rw [hz2]; omega) (by unfold maxLen; omega) (Nat.le_refl _) ?_)
  case hC => omega
  intro w0 hown0 hg0
  have hb0 : Below w.heap.size w w0 := (Below.refl _ _).grown hg0 (Nat.le_refl _) (by simp)
  go_wp2
  go_loopw [3, 12] (fun v i wr => ∃ k : Nat, k ≤ len ∧ i = .int .i64 k ∧ Own wr w.heap.size v (hex (zs.take k)) ∧ Below w.heap.size w wr) (fun _ i _ => len - (intOf i).toNat)
  case atStart => exact ⟨0, Nat.zero_le _, rfl, hown0, hb0⟩
  case round =>
    clear hown0 hg0 hb0
    obtain ⟨k, hk, rfl, hown, hnx⟩ := hrel
    have hsz := hnx.size
    by_cases hkl : k < len
    · have hcx := (hnx.cell (p := ⟨b, off + k, none⟩) (by exact hb)).trans (hcell k hkl)
      rw [getD_at zs k (by omega)] at hcx
      have hzk : zs[k] < 256 := hz _ (List.getElem_mem _)
      obtain ⟨c, hc⟩ : ∃ c, c = zs[k] := ⟨_, rfl⟩
      rw [← hc] at hcx hzk
      have HC := Lib.hid hc
      clear hcell hc
      have hd1 := dig_at (c / 16) (by omega)
      have hd2 := dig_at (c % 16) (by omega)
      unfold DigAt at hd1 hd2
      rw [show (((c / 16 : Nat)) : Int) = (c : Int) / 16 by omega] at hd1
      rw [← and15 c hzk] at hd2
      go_wp2
      have hn1 : ∀ u : Value, ∀ v : Value, ((wr.alloc (.cells #[u, v] 5))).cell? ⟨wr.heap.size, 0, none⟩ = some u := fun u v => by simp
      have hn2 : ∀ u : Value, ∀ v : Value, ((wr.alloc (.cells #[u, v] 5))).cell? ⟨wr.heap.size, 1, none⟩ = some v := fun u v => by simp
      have hlen := hex_len (zs.take k)
      have hlk : (hex (zs.take k)).length + 2 ≤ 140737488355328 := by rw [hlen, List.length_take]; omega
      clear hlen
      go_region_held3 (fun _ => True) (trivial)
        ((refine step_push2 (by rfl) _ _ (by rfl) w.heap.size u3 (hex (zs.take k)) (hexd (c / 16)) (hexd (c % 16)) wr.heap.size (by rfl) (hown.alloc _) (by simp; omega) (by rfl) (hn1 _ _) (hn2 _ _) hlk w (hnx.alloc hsz _).drew ?_; intro v1 w1 hown1 hb1))
      all_goals
        clear hown hnx hcx hd1 hd2 hn1 hn2 hlk
        rw [HC.out, ← hex_snoc, ← take_snoc] at hown1
        go_wp2
        go_roundw
        case rel => exact ⟨k + 1, by omega, by go_num, hown1, hb1⟩
        case measure => simp [intOf]; omega
    · obtain rfl : k = len := by omega
      rw [List.take_of_length_le (by omega)] at hown
      obtain ⟨ad, cp, rfl, _, _, hrd⟩ := hown.rd (hex_byte zs hz)
      go_wp2_with (refine wpList_str rfl _ rfl ad _ cp _ rfl hrd ?_)
      go_ret
      exact ⟨rfl, hnx⟩

theorem hex_nil (a : Option Addr) (cap : Nat) (w : World) (hca : a = none → cap = 0) :
    Calls Tryd.prog 40 #[.slice a 0 cap] w (RetS w.heap.size (str []) w) := by
  obtain ⟨i0, hi, hz0, hz1, hz2⟩ := info_parts byteInfo
  go_enter Tryd.func40, Tryd.ntmps40
  go_wp2_with (at_make; refine wpList_make_own _ rfl _ _ 22 rfl w.heap.size 5 i0 (.int .u8 0) 1 Tryd.underlying22 hi hz0 hz1 .i64 .i64 _ 0 rfl rfl rfl (by omega) (by unfold maxLen; omega) (Nat.le_refl _) ?_)
  intro w0 hown0 hg0
  have hb0 : Below w.heap.size w w0 := (Below.refl _ _).grown hg0 (Nat.le_refl _) (by simp)
  go_wp2
  refine wp_loop_rounds 1 ?_
  rw [rounds_succ]
  have hr : Rd w0 (some ⟨w.heap.size, 0, none⟩) 0 [] := ⟨rfl, by simp, .inl rfl⟩
  go_wp2_with (refine wpList_str rfl _ rfl _ 0 0 _ rfl hr ?_)
  go_ret
  exact ⟨rfl, hb0⟩
/-- Hex: two digits for each byte -/
theorem hex_c (a : Option Addr) (len cap : Nat) (zs : List Nat) (w : World) (h : Rd w a len zs) (hca : a = none → cap = 0) (hm : len ≤ 70000000000000) :
    Calls Tryd.prog 40 #[.slice a len cap] w (RetS w.heap.size (str (hex zs)) w) := by
  obtain ⟨hl, hz, h0 | ⟨b, off, rfl, hb, hc⟩⟩ := h
  · subst h0
    obtain rfl : zs = [] := List.eq_nil_of_length_eq_zero hl
    exact hex_nil a cap w hca
  · exact hex_some b off len cap zs w hl hm hz hb hc
end Go.Proofs.YthnfbdmkdpokcabDoor
