/-
  The frame of MerkleFrontiers' walk.
-/
import Derived.Test.YtlnblfdddellmaaDoorTpw
import Derived.Test.YtlnblfdddellmaaDoorFbr
import Derived.Test.YtlnblfdddellmaaDoorFrd
import Derived.Test.YtlnblfdddellmaaDoorRpt
import Derived.Test.YtlnblfdddellmaaDoorAwt
import Derived.Test.YtlnblfdddellmaaDoorBmi
namespace Go.Proofs.YtlnblfdddellmaaDoor
open Go.RowKit
set_option linter.unusedVariables false
/-- a frontier behind the world wB -/
structure FW (wB : World) (g n : Nat) (v : Value) (ts : Ds) (W : World) : Prop where
  bel : Below wB.heap.size wB W
  fr : FR W g n v
  own : OwnD W wB.heap.size 32 v ts
  lo : wB.heap.size ≤ g
theorem FW.step {wB W W' : World} {g n : Nat} {v : Value} {ts : Ds} (h : FW wB g n v ts W) (hb : Below W.heap.size W W') : FW wB g n v ts W' :=
  ⟨h.bel.trans (hb.mono h.bel.size), h.fr.below hb h.fr.lt, OwnD.below h.own hb (Nat.le_refl _), h.lo⟩
theorem FW.drew {wB W : World} {g n : Nat} {v : Value} {ts : Ds} (h : FW wB g n v ts W) : FW wB g n v ts W.drew := ⟨h.bel.drew, h.fr, h.own, h.lo⟩
theorem FW.only {wB W W' : World} {g n gd : Nat} {v : Value} {ts : Ds} (h : FW wB g n v ts W) (ho : Only gd W W') (h1 : wB.heap.size ≤ gd) (h2 : gd ≠ g) (h3 : ∀ k, v.ownBlock = some k → k ≠ gd) : FW wB g n v ts W' :=
  ⟨h.bel.trans (ho.below h1 h.bel.size), h.fr.only ho (fun e => h2 e.symm), OwnD.only h.own ho h3, h.lo⟩
theorem FW.add {wB W W' : World} {g n n' : Nat} {v v' : Value} {ts ts' : Ds} (h : FW wB g n v ts W) (hf : FR W' g n' v') (ho : OwnD W' wB.heap.size 32 v' ts') (hk : Kp g wB.heap.size W W') : FW wB g n' v' ts' W' :=
  ⟨h.bel.trans (hk.below (Nat.le_refl _) h.lo), hf, ho, h.lo⟩
/-- beside it the list of its tops, laid apart -/
structure FT (wB : World) (g n : Nat) (v : Value) (ts : Ds) (a : Option Addr) (L c : Nat) (W : World) : Prop where
  fw : FW wB g n v ts W
  tp : OwnD W wB.heap.size 32 (.slice a L c) ts
  sg : (Value.slice a L c).ownBlock ≠ some g
  sv : ∀ b, v.ownBlock = some b → (Value.slice a L c).ownBlock ≠ some b
theorem FT.of {wB W W' : World} {g n L c : Nat} {v : Value} {ts : Ds} {a : Option Addr} (h : FW wB g n v ts W) (ho : OwnD W' W.heap.size 32 (.slice a L c) ts) (hb : Below W.heap.size W W') : FT wB g n v ts a L c W' := by
  have hlt := h.fr.lt
  refine ⟨h.step hb, OwnD.base ho h.bel.size, fun e => ?_, fun b hb' e => ?_⟩
  · have := (OwnD.block ho g e).1; omega
  · have h1 := (OwnD.block ho b e).1
    have h2 := (OwnD.block h.own b hb').2
    omega
theorem FT.step {wB W W' : World} {g n L c : Nat} {v : Value} {ts : Ds} {a : Option Addr} (h : FT wB g n v ts a L c W) (hb : Below W.heap.size W W') : FT wB g n v ts a L c W' :=
  ⟨h.fw.step hb, OwnD.below h.tp hb (Nat.le_refl _), h.sg, h.sv⟩
theorem FT.drew {wB W : World} {g n L c : Nat} {v : Value} {ts : Ds} {a : Option Addr} (h : FT wB g n v ts a L c W) : FT wB g n v ts a L c W.drew := ⟨h.fw.drew, h.tp, h.sg, h.sv⟩
/-- another frontier, loaded from the tops -/
theorem FT.loaded {wB W W' : World} {g n L c g2 n2 : Nat} {v v2 : Value} {ts : Ds} {a : Option Addr} (h : FT wB g n v ts a L c W) (hg : W.heap.size ≤ g2) (hf : FR W' g2 n2 v2) (ho : OwnD W' W.heap.size 32 v2 ts) (hb : Below W.heap.size W W') : FT wB g2 n2 v2 ts a L c W' := by
  have hs := h.fw.bel.size
  refine ⟨⟨h.fw.bel.trans (hb.mono hs), hf, OwnD.base ho hs, by omega⟩, OwnD.below h.tp hb (Nat.le_refl _), fun e => ?_, fun b hb' e => ?_⟩
  · have := (OwnD.block h.tp g2 e).2; omega
  · have h1 := (OwnD.block h.tp b e).2
    have h2 := (OwnD.block ho b hb').1
    omega
/-- the tops' row, whatever it holds -/
structure FZ (wB : World) (g n : Nat) (v : Value) (ts : Ds) (a : Option Addr) (L : Nat) (W : World) : Prop where
  fw : FW wB g n v ts W
  row : L = 0 ∨ ∃ gb, a = some ⟨gb, 0, none⟩ ∧ W.there gb 0 (L * 32) ∧ wB.heap.size ≤ gb ∧ gb ≠ g ∧ ∀ b, v.ownBlock = some b → b ≠ gb
theorem FT.zero {wB W : World} {g n L c : Nat} {v : Value} {ts : Ds} {a : Option Addr} (h : FT wB g n v ts a L c W) (hl : ts.length = L) : FZ wB g n v ts a L W := by
  refine ⟨h.fw, ?_⟩
  rcases h.tp.2 with ⟨h0, h1⟩ | ⟨b, cap, cur, h1, h2, h3, h4, h5, h6, h7⟩
  · exact .inl (by omega)
  · cases h1
    refine .inr ⟨b, rfl, fun j hj => ?_, h2, fun e => h.sg (by rw [← e]; rfl), fun b' hb e => h.sv b' hb (by rw [e]; rfl)⟩
    rw [cell_of_row _ _ _ _ _ _ h3, frozen_of_row _ _ _ _ _ h3, Nat.zero_add]
    refine ⟨?_, rfl⟩
    rw [Array.getElem?_eq_getElem (by rw [h6]; omega)]
    rfl
theorem FZ.put {wB W : World} {g n L : Nat} {v : Value} {ts : Ds} {gb : Nat} (h : FZ wB g n v ts (some ⟨gb, 0, none⟩) L W) (hL : 0 < L) (o : Nat) (vs : List Value) : FZ wB g n v ts (some ⟨gb, 0, none⟩) L (W.setCells gb o vs) := by
  rcases h.row with h0 | ⟨gb', e, h1, h2, h3, h4⟩
  · omega
  · cases e
    have ho : Only gb W (W.setCells gb o vs) := Only.setCells vs o (Only.refl gb _)
    exact ⟨h.fw.only ho h2 h3 h4, .inr ⟨gb, rfl, World.there_setCells h1 _ _ _, h2, h3, h4⟩⟩
theorem FZ.there {wB W : World} {g n L : Nat} {v : Value} {ts : Ds} {gb : Nat} (h : FZ wB g n v ts (some ⟨gb, 0, none⟩) L W) (j : Nat) (hj : j < L) : W.there gb (0 + j * 32) (cellsOf zs32).toArray.size := by
  rcases h.row with h0 | ⟨gb', e, h1, _⟩
  · omega
  · cases e
    intro i hi
    rw [cellsOf_size, zs32_len] at hi
    have := h1 (j * 32 + i) (by omega)
    rwa [show 0 + (j * 32 + i) = 0 + j * 32 + i by omega] at this
theorem FZ.at {wB W : World} {g n L : Nat} {v : Value} {ts : Ds} {a : Option Addr} (h : FZ wB g n v ts a L W) (hL : 0 < L) : ∃ gb, a = some ⟨gb, 0, none⟩ := by
  rcases h.row with h0 | ⟨gb', e, _⟩
  · omega
  · exact ⟨gb', e⟩
theorem take_more (l : Ds) (k : Nat) (hk : k < l.length) : l.take k ++ [l.getD k []] = l.take (k + 1) := by
  rw [List.take_add_one, List.getElem?_eq_getElem hk, List.getD_eq_getElem?_getD, List.getElem?_eq_getElem hk]
  rfl
end Go.Proofs.YtlnblfdddellmaaDoor
