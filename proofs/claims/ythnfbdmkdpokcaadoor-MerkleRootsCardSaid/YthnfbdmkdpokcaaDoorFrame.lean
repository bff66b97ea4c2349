/-
  What the arguments of a law give its walk: bytes that came in, and their bounds.
-/
import Derived.Test.YthnfbdmkdpokcaaDoorRows
import Derived.Test.YthnfbdmkdpokcaaDoorBase
import Derived.ProofKit
import Derived.OpenShut
import Derived.ShutString
import Derived.ChangeOld
import Derived.SizedLaws
namespace Go.Proofs.YthnfbdmkdpokcaaDoor
open Go.RowKit

theorem own : ownKnob Tryd.prog.godebug = none := by kernel_rfl
theorem laidOut : laidOutB Tryd.prog = true := by kernel_rfl
theorem bytes1 : Tryd.prog.bytesOf 5 = 1 := by kernel_rfl

/-- a list of bytes that came in -/
def BytesIn (W : World) (a : Option Addr) (len cap : Nat) (zs : List Nat) : Prop :=
  Rd W a len zs ∧ (a = none → cap = 0) ∧ len ≤ cap ∧ cap ≤ 140737488351232

theorem bytesIn_nil (W : World) : BytesIn W none 0 0 [] := ⟨⟨rfl, by simp, .inl rfl⟩, fun _ => rfl, Nat.le_refl _, by omega⟩
theorem bytesIn_some {W : World} {x : Addr} {len cap : Nat} {zi : List Int} (hl : len ≤ cap) (hz : zi.length = cap) (hcap : cap ≤ 140737488351232)
    (hcell : ∀ i, i < zi.length → W.cell? (x.add i) = some (.int .u8 (zi.getD i 0))) (hwz : ∀ n ∈ zi, (Lit.int .u8 n).wf = true) : BytesIn W (some x) len cap ((zi.take len).map Int.toNat) := by
  have hb : ∀ n ∈ zi, 0 ≤ n ∧ n ≤ 255 := fun n hn => by
    have := hwz n hn
    simpa [Lit.wf, IntKind.min, IntKind.max, IntKind.signed, IntKind.bits] using this
  refine ⟨⟨by simp; omega, ?_, ?_⟩, by simp, hl, hcap⟩
  · intro z hm
    simp only [List.mem_map] at hm
    obtain ⟨n, hn, rfl⟩ := hm
    have := hb n (List.mem_of_mem_take hn)
    omega
  · by_cases h0 : len = 0
    · exact .inl h0
    · obtain ⟨b, off, spot⟩ := x
      have hspot : spot = none := by simpa [Addr.add] using World.cell?_spot (hcell 0 (by omega))
      subst hspot
      have h00 := hcell 0 (by omega)
      rw [show Addr.add ⟨b, off, none⟩ 0 = ⟨b, off, none⟩ by simp [Addr.add]] at h00
      refine .inr ⟨b, off, rfl, World.block_lt_of_cell? W ⟨b, off, none⟩ h00, fun i hi => ?_⟩
      have hc := hcell i (by omega)
      rw [show Addr.add ⟨b, off, none⟩ i = ⟨b, off + i, none⟩ by simp [Addr.add]] at hc
      rw [hc]
      have hi2 : i < zi.length := by omega
      have hge := hb zi[i] (List.getElem_mem _)
      have e1 : zi.getD i 0 = zi[i] := by simp [hi2]
      have e2 : ((zi.take len).map Int.toNat).getD i 0 = zi[i].toNat := by simp [hi, hi2]
      rw [e1, e2]
      congr 2
      omega
end Go.Proofs.YthnfbdmkdpokcaaDoor
