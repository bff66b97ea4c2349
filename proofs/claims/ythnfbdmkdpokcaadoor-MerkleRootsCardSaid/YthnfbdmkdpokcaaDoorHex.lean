/-
  The walks over Hex, the program's and the document's: two digits for each byte.
-/
import Derived.Test.YthnfbdmkdpokcaaDoorBase
import Derived.Deep.RegionHeld3
import Derived.Deep.DrawnRows
namespace Go.Proofs.YthnfbdmkdpokcaaDoor
set_option linter.unusedVariables false
open Go.RowKit

def hexd (d : Nat) : Nat := if d < 10 then 48 + d else 87 + d
def hex (zs : List Nat) : List Nat := zs.flatMap fun z => [hexd (z / 16), hexd (z % 16)]
theorem hex_snoc (zs : List Nat) (z : Nat) : hex (zs ++ [z]) = hex zs ++ [hexd (z / 16), hexd (z % 16)] := by simp [hex]
theorem hex_len (zs : List Nat) : (hex zs).length = 2 * zs.length := by
  induction zs with
  | nil => rfl
  | cons z zs ih => simp only [hex, List.flatMap_cons, List.length_append, List.length_cons, List.length_nil] at *; omega
theorem hexd_byte (d : Nat) (h : d < 16) : hexd d < 256 := by unfold hexd; split <;> omega
theorem hex_byte (zs : List Nat) (hz : ∀ z ∈ zs, z < 256) : ∀ c ∈ hex zs, c < 256 := by
  intro c hc
  simp only [hex, List.mem_flatMap] at hc
  obtain ⟨z, hm, hc⟩ := hc
  have := hz z hm
  have h1 := hexd_byte (z / 16) (by omega)
  have h2 := hexd_byte (z % 16) (by omega)
  simp at hc
  rcases hc with rfl | rfl <;> assumption

def RetS (B : Nat) (s : ByteArray) (w : World) (e : Ending) (w' : World) : Prop := e = .returned (.string s) ∧ Below B w w'

def digits : ByteArray := { data := #[48, 49, 50, 51, 52, 53, 54, 55, 56, 57, 97, 98, 99, 100, 101, 102] }
def DigAt (d : Nat) : Prop := ∀ w : World, (Instr.index 9 (.string { data := #[48, 49, 50, 51, 52, 53, 54, 55, 56, 57, 97, 98, 99, 100, 101, 102] }) (.int .u8 (d : Int))).run Tryd.prog w = .ok (.int .u8 ((hexd d : Nat) : Int)) w
theorem dig_at (d : Nat) (h : d < 16) : DigAt d := by
  have hall : ∀ e : Fin 16, DigAt e.val := by
    intro e w
    rcases e with ⟨e, he⟩
    obtain h0 | h0 | h0 | h0 | h0 | h0 | h0 | h0 | h0 | h0 | h0 | h0 | h0 | h0 | h0 | h0 : e = 0 ∨ e = 1 ∨ e = 2 ∨ e = 3 ∨ e = 4 ∨ e = 5 ∨ e = 6 ∨ e = 7 ∨ e = 8 ∨ e = 9 ∨ e = 10 ∨ e = 11 ∨ e = 12 ∨ e = 13 ∨ e = 14 ∨ e = 15 := by omega
    all_goals (subst h0; kernel_rfl)
  exact hall ⟨d, h⟩
theorem and15 (c : Nat) (h : c < 256) : bits .and .u8 (c : Int) 15 = ((c % 16 : Nat) : Int) := by
  rw [show (15 : Int) = ((15 : Nat) : Int) by rfl, u8_and_nat _ _ h (by omega)]
  congr 1
  exact Nat.and_two_pow_sub_one_eq_mod c 4

end Go.Proofs.YthnfbdmkdpokcaaDoor
