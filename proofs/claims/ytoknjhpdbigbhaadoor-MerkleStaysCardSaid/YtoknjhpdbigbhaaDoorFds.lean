/-
  The walk over the document's Finds, where a way leads from another leaf to the root.
-/
import Derived.Test.YtoknjhpdbigbhaaDoorApt
namespace Go.Proofs.YtoknjhpdbigbhaaDoor
open Go.RowKit
set_option linter.unusedVariables false
theorem exec_dcut {T E : TypeId} (hT : DT T E) {x y : Operand} (b : Option Addr) (len cap k : Nat) (hk : k ≤ len) (a : Act) (hx : a.eval x = .slice b len cap) (hy : a.eval y = .int .i64 (k : Int)) (o : Oper) (ho : o.op = .slice T x (some y) none none) (W : World) :
    (execOp a.eval o).run Tryd.prog W = .ok (.value (.slice (sld b cap k) (len - k) (cap - k))) W := by
  unfold execOp
  simp only [ho, hx, hy, Option.map_none, Option.map_some, run_dcutAt hT W b len cap k hk, Sem.run_bind, Result.andThen_ok, Sem.run_pure]
theorem exec_dhead {T E : TypeId} (hT : DT T E) {x y : Operand} (b : Option Addr) (len cap k : Nat) (hk : k ≤ cap) (a : Act) (hx : a.eval x = .slice b len cap) (hy : a.eval y = .int .i64 (k : Int)) (o : Oper) (ho : o.op = .slice T x none (some y) none) (W : World) :
    (execOp a.eval o).run Tryd.prog W = .ok (.value (.slice b k cap)) W := by
  unfold execOp
  simp only [ho, hx, hy, Option.map_none, Option.map_some, run_dheadAt hT W b len cap k hk, Sem.run_bind, Result.andThen_ok, Sem.run_pure]
/-- what hands back bytes that can be read -/
def RetRd (zs : List Nat) (n : Nat) (w : World) (e : Ending) (w' : World) : Prop := ∃ a c, e = .returned (.slice a n c) ∧ Rd w' a n zs ∧ Below w.heap.size w w'
theorem pairR_c (l r : List Nat) (w : World) (hl : D32 l) (hr : D32 r) : Calls Tryd.prog 32 #[.agg (cellsOf l).toArray, .agg (cellsOf r).toArray] w (RetRd (pairL l r) 65 w) := by
  have hb : ∀ z ∈ (1 :: (l ++ r)), z < 256 := by
    intro z hz
    rcases List.mem_cons.1 hz with rfl | hz
    · omega
    · rcases List.mem_append.1 hz with h | h
      · exact hl.2 z h
      · exact hr.2 z h
  have hlen : (1 :: (l ++ r)).length = 65 := by rw [List.length_cons, List.length_append, hl.1, hr.1]
  refine (pair_c l r w hl hr).mono fun e w' h => ?_
  obtain ⟨v, rfl, ho, hbw⟩ := h
  obtain ⟨a, cap, hv, _, _, hrd⟩ := ho.rd hb
  rw [hlen] at hv hrd
  exact ⟨a, cap, by rw [hv], hrd, hbw⟩
def FS (w : World) (leaf : List Nat) (g10 : Nat) (s : List Nat) (la : Option Addr) (n : Nat) (l : Ds) (wa : Option Addr) (L : Nat) (way : Ds) (W : World) : Prop := Brow W w.heap.size 31 leaf ∧ Brow W g10 31 s ∧ DR W la n l ∧ DR W wa (L + 1) way ∧ Below w.heap.size w W
theorem FS.step {w W W' : World} {leaf : List Nat} {g10 : Nat} {s : List Nat} {la : Option Addr} {n : Nat} {l : Ds} {wa : Option Addr} {L : Nat} {way : Ds} (h : FS w leaf g10 s la n l wa L way W) (hb : Below W.heap.size W W') : FS w leaf g10 s la n l wa L way W' := ⟨h.1.below hb h.1.lt, h.2.1.below hb h.2.1.lt, h.2.2.1.below hb, h.2.2.2.1.below hb, h.2.2.2.2.trans (hb.mono h.2.2.2.2.size)⟩
theorem FS.drew {w W : World} {leaf : List Nat} {g10 : Nat} {s : List Nat} {la : Option Addr} {n : Nat} {l : Ds} {wa : Option Addr} {L : Nat} {way : Ds} (h : FS w leaf g10 s la n l wa L way W) : FS w leaf g10 s la n l wa L way W.drew := ⟨h.1.drew, h.2.1.drew, h.2.2.1, h.2.2.2.1, h.2.2.2.2.drew⟩
def FD (w : World) (leaf : List Nat) (g10 : Nat) (s : List Nat) (la : Option Addr) (n : Nat) (l : Ds) (wa : Option Addr) (L : Nat) (way : Ds) (g12 : Nat) (d : List Nat) (g15 : Nat) (A : List Nat) (W : World) : Prop := FS w leaf g10 s la n l wa L way W ∧ Brow W g12 31 d ∧ Brow W g15 31 A
theorem FD.step {w W W' : World} {leaf : List Nat} {g10 : Nat} {s : List Nat} {la : Option Addr} {n : Nat} {l : Ds} {wa : Option Addr} {L : Nat} {way : Ds} {g12 : Nat} {d : List Nat} {g15 : Nat} {A : List Nat} (h : FD w leaf g10 s la n l wa L way g12 d g15 A W) (hb : Below W.heap.size W W') : FD w leaf g10 s la n l wa L way g12 d g15 A W' := ⟨h.1.step hb, h.2.1.below hb h.2.1.lt, h.2.2.below hb h.2.2.lt⟩
theorem FD.drew {w W : World} {leaf : List Nat} {g10 : Nat} {s : List Nat} {la : Option Addr} {n : Nat} {l : Ds} {wa : Option Addr} {L : Nat} {way : Ds} {g12 : Nat} {d : List Nat} {g15 : Nat} {A : List Nat} (h : FD w leaf g10 s la n l wa L way g12 d g15 A W) : FD w leaf g10 s la n l wa L way g12 d g15 A W.drew := ⟨h.1.drew, h.2.1.drew, h.2.2.drew⟩
def RetTrue (w : World) (e : Ending) (w' : World) : Prop := e = .returned (.bool true) ∧ Below w.heap.size w w'
theorem lay32 (W : World) (x : List Nat) (O : Obj) (hO : O = .cells (cellsOf zs32).toArray 31 (0, 0)) : Brow ((W.alloc O).setRow W.heap.size (cellsOf x).toArray) W.heap.size 31 x ∧ Below W.heap.size W ((W.alloc O).setRow W.heap.size (cellsOf x).toArray) := by
  subst hO
  exact ⟨(Brow.new W 31 zs32).setRow, ((Below.refl _ _).alloc (Nat.le_refl _) _).setRow (Nat.le_refl _) _⟩
end Go.Proofs.YtoknjhpdbigbhaaDoor
