/-
  The walk over DigestNil.
-/
import Derived.Test.YthnfbdmkdpokcaaDoorSav
import Derived.Test.YthnfbdmkdpokcaaDoorDaw
import Derived.Test.YthnfbdmkdpokcaaDoorCmp
import Derived.Test.YthnfbdmkdpokcaaDoorTwin
import Derived.Test.YthnfbdmkdpokcaaDoorSame
import Derived.Test.YthnfbdmkdpokcaaDoorFrame
namespace Go.Proofs.YthnfbdmkdpokcaaDoor
open Go.RowKit
set_option linter.unusedVariables false

theorem Only.rdo {g : Nat} {w w0 w' : World} (h : Only g w w') {a : Option Addr} {len : Nat} {zs : List Nat} (h0 : Rd w0 a len zs) (hr : Rd w a len zs) (hg : w0.heap.size ≤ g) : Rd w' a len zs := h.rd' hr (h0.blk g hg)
theorem StM.bytes {w : World} {g : Nat} {hs tail : List Nat} {n : Nat} (h : StM w g hs tail n) : ∀ x ∈ tail, x < 256 := by
  obtain ⟨bs, hst, rfl⟩ := h
  exact fun x hx => hst.bb x (List.mem_of_mem_take hx)
theorem saved_byte (hs tail : List Nat) (n : Nat) (ht : ∀ x ∈ tail, x < 256) : ∀ x ∈ saved hs tail n, x < 256 := by
  intro x hx
  simp only [saved, List.mem_append] at hx
  rcases hx with (h | h) | h
  · exact bytesOf_byte _ x h
  · exact Numm.put_byte _ _ x h
  · exact ht x h
theorem Own.row {w : World} {B gb L cap : Nat} {Y : List Nat} (h : Own w B (.slice (some ⟨gb, 0, none⟩) L cap) Y) (hl : Y.length = L) : w.ownsRow B 5 1 (.slice (some ⟨gb, 0, none⟩) L cap) L (cellsOf Y) := by
  subst hl; exact h
theorem Own.cellq {w : World} {B gb L cap : Nat} {Y : List Nat} (h : Own w B (.slice (some ⟨gb, 0, none⟩) L cap) Y) (hl : Y.length = L) (k : Nat) (hk : k < L) : w.cell? ⟨gb, k, none⟩ = some (.int .u8 ((Y.getD k 0 : Nat) : Int)) := by
  rw [(h.row hl).cellAt k (by omega)]
  exact cellsOf_get Y k (by omega)
theorem Own.setq {w : World} {B gb L cap : Nat} {Y : List Nat} (h : Own w B (.slice (some ⟨gb, 0, none⟩) L cap) Y) (hl : Y.length = L) (k x : Nat) : Own (w.setCell ⟨gb, k, none⟩ (.int .u8 (x : Int))) B (.slice (some ⟨gb, 0, none⟩) L cap) (Y.set k x) := by
  have := ((h.row hl).stored k (.int .u8 (x : Int))).1
  unfold Own
  rw [List.length_set, hl, show cellsOf (Y.set k x) = (cellsOf Y).set k (.int .u8 (x : Int)) by simp [cellsOf, List.map_set]]
  exact this
theorem StM.below {B : Nat} {w w' : World} {g : Nat} {hs tail : List Nat} {n : Nat} (h : StM w g hs tail n) (hb : Below B w w') (hg : g < B) : StM w' g hs tail n := by
  obtain ⟨bs, hst, ht⟩ := h
  exact ⟨bs, hst.below hb hg, ht⟩
theorem u8_xor255 (y : Nat) (hy : y < 256) : bits .xor .u8 (y : Int) 255 = ((y ^^^ 255 : Nat) : Int) := u8_xor_nat y 255 hy (by omega)
theorem set_byte (L : List Nat) (k x : Nat) (h : ∀ z ∈ L, z < 256) (hx : x < 256) : ∀ z ∈ L.set k x, z < 256 := set_mem L k x h hx
end Go.Proofs.YthnfbdmkdpokcaaDoor
