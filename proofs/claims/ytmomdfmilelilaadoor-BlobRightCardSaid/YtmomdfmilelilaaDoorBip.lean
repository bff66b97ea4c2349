/-
  A store: Adopt.
-/
import Derived.Test.YtmomdfmilelilaaDoorBfg
namespace Go.Proofs.YtmomdfmilelilaaDoor
open Go.RowKit
set_option linter.unusedVariables false
/-- what Adopt's steps read -/
structure E4 (b3 sb d b4 b8 : Nat) (nm fl : ByteArray) (W : World) : Prop where
  c3 : W.cell? ⟨b3, 0, none⟩ = some (.pointer (some ⟨sb, 0, none⟩))
  cs : W.cell? ⟨sb, 0, none⟩ = some (.pointer (some ⟨d, 0, none⟩))
  c4 : W.cell? ⟨b4, 0, none⟩ = some (.string nm)
  c8 : W.cell? ⟨b8, 0, none⟩ = some (.string fl)
theorem E4.kp {X : Nat → Prop} {b3 sb d b4 b8 : Nat} {nm fl : ByteArray} {W W' : World} (h : E4 b3 sb d b4 b8 nm fl W) (hk : KpD X W W') (h3 : X b3) (hs : X sb) (h4 : X b4) (h8 : X b8) : E4 b3 sb d b4 b8 nm fl W' :=
  ⟨(World.cell?_of_block (hk b3 h3)).trans h.c3, (World.cell?_of_block (hk sb hs)).trans h.cs, (World.cell?_of_block (hk b4 h4)).trans h.c4, (World.cell?_of_block (hk b8 h8)).trans h.c8⟩
theorem E4.below {b3 sb d b4 b8 B : Nat} {nm fl : ByteArray} {W W' : World} (h : E4 b3 sb d b4 b8 nm fl W) (hb : Below B W W') (hl : b3 < B ∧ sb < B ∧ b4 < B ∧ b8 < B) : E4 b3 sb d b4 b8 nm fl W' :=
  ⟨(hb.cell (p := ⟨b3, 0, none⟩) hl.1).trans h.c3, (hb.cell (p := ⟨sb, 0, none⟩) hl.2.1).trans h.cs, (hb.cell (p := ⟨b4, 0, none⟩) hl.2.2.1).trans h.c4, (hb.cell (p := ⟨b8, 0, none⟩) hl.2.2.2).trans h.c8⟩
/-- a file is adopted -/
def Ad.adopt (A : Ad) (nm : ByteArray) (ds : List Nat) : Ad × Int :=
  if ckA A nm ds ≠ 0 then (A, ckA A nm ds) else if (szA A (fileB ds)).2 = 0 ∧ nm ≠ fileB ds then runA [fun A => A.step ⟨2, nm, ⟨#[]⟩, []⟩, Ad.sync] A else runA [fun A => A.step ⟨3, nm, fileB ds, []⟩, Ad.sync] A
/-- what Adopt leaves -/
def AdR (X : Nat → Prop) (B d sb N : Nat) (w : World) (r : Ad × Int) (e : Ending) (w' : World) : Prop := e = .returned (.int .i64 r.2) ∧ Bs X B d sb N r.1 w' ∧ Below B w w' ∧ KpD X w w'
end Go.Proofs.YtmomdfmilelilaaDoor
