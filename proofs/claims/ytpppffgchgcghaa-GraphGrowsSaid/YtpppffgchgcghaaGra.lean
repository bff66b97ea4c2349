/-
  A graph and a marker in memory; what is asked of them.
-/
import Derived.Test.YtpppffgchgcghaaGut
import Derived.BigQuiet
namespace Go.Proofs.Ytpppffgchgcghaa
open Go.RowKit Go.Maps
set_option linter.unusedVariables false
/-- a graph in memory: f says which edges its nodes have; V are its blocks -/
structure GR (B N : Nat) (V : Nat → Prop) (w : World) (g : Nat) (f : List Nat → Option Ds) : Prop where
  own : V g
  vb : ∀ j, V j → B ≤ j ∧ j < w.heap.size
  ex : ∃ mb, w.heap[g]? = some (.cells #[.map mb] 72 (0, 0)) ∧ ((mb = none ∧ ∀ s, f s = none) ∨ ∃ m n D, mb = some m ∧ n ≤ N ∧ GM B V w m n D f)
theorem GR.keep {B N g : Nat} {V : Nat → Prop} {w w' : World} {f : List Nat → Option Ds} (h : GR B N V w g f) (hs : w.heap.size ≤ w'.heap.size) (hk : ∀ k, k < w.heap.size → V k → w'.heap[k]? = w.heap[k]?) : GR B N V w' g f := by
  refine ⟨h.own, fun j hj => ⟨(h.vb j hj).1, Nat.lt_of_lt_of_le (h.vb j hj).2 hs⟩, ?_⟩
  obtain ⟨mb, h1, h2⟩ := h.ex
  refine ⟨mb, (hk g (h.vb g h.own).2 h.own).trans h1, h2.imp id fun ⟨m, n, D, e, hn, hm⟩ => ⟨m, n, D, e, hn, hm.keep hk⟩⟩
theorem GR.below {B N g : Nat} {V : Nat → Prop} {w w' : World} {f : List Nat → Option Ds} (h : GR B N V w g f) (hb : Below w.heap.size w w') : GR B N V w' g f := h.keep hb.size fun k hk _ => hb.block k hk
theorem GR.fr {B N g : Nat} {V O : Nat → Prop} {w w' : World} {f : List Nat → Option Ds} (h : GR B N V w g f) (hf : Fr O w w') (hd : ∀ k, V k → ¬ O k) : GR B N V w' g f := h.keep hf.size fun k hk hv => hf.block k hk (hd k hv)
theorem GR.more {B N N' g : Nat} {V V' : Nat → Prop} {w : World} {f : List Nat → Option Ds} (h : GR B N V w g f) (hV : ∀ k, V k → V' k) (hb : ∀ j, V' j → B ≤ j ∧ j < w.heap.size) (hN : N ≤ N') : GR B N' V' w g f := by
  refine ⟨hV g h.own, hb, ?_⟩
  obtain ⟨mb, h1, h2⟩ := h.ex
  exact ⟨mb, h1, h2.imp id fun ⟨m, n, D, e, hn, hm⟩ => ⟨m, n, D, e, by omega, hm.moreV hV⟩⟩
/-- a marker in memory -/
structure MR (B N : Nat) (O : Nat → Prop) (w : World) (k g : Nat) (gray : Ds) (b : List Nat → Bool) : Prop where
  own : O k
  ob : ∀ j, O j → B ≤ j ∧ j < w.heap.size
  ex : ∃ gv bm, w.heap[k]? = some (.cells #[.pointer (some ⟨g, 0, none⟩), gv, .map bm] 76 (0, 0)) ∧ QR w B gv gray ∧ (∀ j, gv.ownBlock = some j → O j) ∧ ((bm = none ∧ ∀ s, b s = false) ∨ ∃ m n D, bm = some m ∧ n ≤ N ∧ O m ∧ BM w m n D b)
theorem MR.keep {B N k g : Nat} {O : Nat → Prop} {w w' : World} {gray : Ds} {b : List Nat → Bool} (h : MR B N O w k g gray b) (hs : w.heap.size ≤ w'.heap.size) (hk : ∀ j, j < w.heap.size → O j → w'.heap[j]? = w.heap[j]?) : MR B N O w' k g gray b := by
  refine ⟨h.own, fun j hj => ⟨(h.ob j hj).1, Nat.lt_of_lt_of_le (h.ob j hj).2 hs⟩, ?_⟩
  obtain ⟨gv, bm, h1, h2, h3, h4⟩ := h.ex
  refine ⟨gv, bm, (hk k (h.ob k h.own).2 h.own).trans h1, h2.keep fun j e => hk j (h2.block j e).2.1 (h3 j e), h3, h4.imp id fun ⟨m, n, D, e, hn, ho, hm⟩ => ⟨m, n, D, e, hn, ho, hm.keep (hk m (h.ob m ho).2 ho)⟩⟩
theorem MR.below {B N k g : Nat} {O : Nat → Prop} {w w' : World} {gray : Ds} {b : List Nat → Bool} (h : MR B N O w k g gray b) (hb : Below w.heap.size w w') : MR B N O w' k g gray b := h.keep hb.size fun j hj _ => hb.block j hj
theorem MR.fr {B N k g : Nat} {O V : Nat → Prop} {w w' : World} {gray : Ds} {b : List Nat → Bool} (h : MR B N O w k g gray b) (hf : Fr V w w') (hd : ∀ j, O j → ¬ V j) : MR B N O w' k g gray b := h.keep hf.size fun j hj ho => hf.block j hj (hd j ho)
theorem MR.more {B N N' k g : Nat} {O O' : Nat → Prop} {w : World} {gray : Ds} {b : List Nat → Bool} (h : MR B N O w k g gray b) (hO : ∀ j, O j → O' j) (hb : ∀ j, O' j → B ≤ j ∧ j < w.heap.size) (hN : N ≤ N') : MR B N' O' w k g gray b := by
  refine ⟨hO k h.own, hb, ?_⟩
  obtain ⟨gv, bm, h1, h2, h3, h4⟩ := h.ex
  exact ⟨gv, bm, h1, h2, fun j e => hO j (h3 j e), h4.imp id fun ⟨m, n, D, e, hn, ho, hm⟩ => ⟨m, n, D, e, by omega, hO m ho, hm⟩⟩
theorem MR.d32 {B N k g : Nat} {O : Nat → Prop} {w : World} {gray : Ds} {b : List Nat → Bool} (h : MR B N O w k g gray b) : ∀ d ∈ gray, D32 d := by
  obtain ⟨gv, bm, h1, h2, h3, h4⟩ := h.ex
  exact h2.1
theorem ext_ob {O : Nat → Prop} {B : Nat} {w w' : World} (h : ∀ j, O j → B ≤ j ∧ j < w.heap.size) (hB : B ≤ w.heap.size) (hs : w.heap.size ≤ w'.heap.size) : ∀ j, ext O w w' j → B ≤ j ∧ j < w'.heap.size := fun j hj => by
  rcases hj with hj | hj
  · exact ⟨(h j hj).1, Nat.lt_of_lt_of_le (h j hj).2 hs⟩
  · exact ⟨by omega, hj.2⟩
set_option maxRecDepth 100000 in
theorem gnew_c (w : World) : Calls Try.prog 8 #[] w fun e w' => e = .returned (.pointer (some ⟨w.heap.size, 0, none⟩)) ∧ GR w.heap.size 0 (ext (fun _ => False) w w') w' w.heap.size (fun _ => none) ∧ Below w.heap.size w w' := by
  go_enter Try.func8, Try.ntmps8
  go_wp2_with fail
  go_ret
  refine ⟨rfl, ⟨.inr ⟨Nat.le_refl _, by simp⟩, fun j hj => ?_, none, heap_alloc_new w _, .inl ⟨rfl, fun _ => rfl⟩⟩, (Below.refl _ _).alloc (Nat.le_refl _) _⟩
  rcases hj with hj | hj
  · exact hj.elim
  · exact hj
set_option maxRecDepth 100000 in
theorem copied_c (a : Option Addr) (n cap : Nat) (ds : Ds) (w : World) (h : DR w a n ds) (hc : n ≤ cap) (hn : n ≤ 1000000000) : Calls Try.prog 32 #[.slice a n cap] w fun e w' => RetDs 42 ds w e w' := by
  obtain ⟨h1, h2, h3⟩ := h
  obtain ⟨i0, z, hi, hz, hsz, hby, hzs⟩ := dtA.info
  have HR : ∃ v w', (Builtin.append_ #[38, 38] 38 #[.slice none 0 0, .slice a n cap]).run Try.prog w = .ok v w' ∧ OwE w' w.heap.size v ds ∧ Below w.heap.size w w' := by
    by_cases h0 : n = 0
    · subst h0
      have hd : ds = [] := List.eq_nil_of_length_eq_zero h1
      subst hd
      refine ⟨.slice none 0 0, w, ?_, OwnD.nil _ _ _, Below.refl _ _⟩
      cases a <;> simp [Builtin.append_, run_underlying dtA.und, Go.sizeOf, typeInfo, hi, Builtin.lenOf, Builtin.firstCells, loadCells, loadCellsFrom]
    · obtain ⟨hl, hz2, hcell⟩ := h3
      obtain ⟨b, off, rfl, hb, hcell⟩ := hcell.resolve_left (by omega)
      have hnews : ∀ j u, (cellsOf ds.flatten)[j]? = some u → w.cell? ((⟨b, off, none⟩ : Addr).add j) = some u := fun j u hj => by
        have hjl := (List.getElem?_eq_some_iff.1 hj).1
        rw [cellsOf_length, hl] at hjl
        rw [Addr.add_mid, hcell j hjl, ← hj]
        exact (cellsOf_get _ _ (by rw [hl]; exact hjl)).symm
      obtain ⟨v', w', r1, r2, r3, -⟩ := run_append_own (P := Try.prog) w w.heap.size 38 38 42 i0 z 32 32 dtA.und hi hz hsz hby hzs (by decide) (.slice none 0 0) 0 [] (World.ownsRow_nil _ _ _ _) ⟨b, off, none⟩ n cap (cellsOf ds.flatten) (by rw [cellsOf_length, hl, Nat.mul_comm]) hnews (cellsOf_one _) (by unfold maxLen; omega) (by omega) (Nat.le_refl _)
      refine ⟨v', w', r1, ?_, (Below.refl _ _).grown r3 (Nat.le_refl _) (fun k e => by cases e)⟩
      unfold OwE OwnD
      rw [h1]
      simpa using r2
  obtain ⟨v, w1, r1, r2, r3⟩ := HR
  have HRUN := Lib.hid r1
  have HO := Lib.hid r2
  have HB := Lib.hid r3
  clear r1 r2 r3 h1 h2 h3 hi hz hsz hby hzs
  go_enter Try.func32, Try.ntmps32
  go_wp2_with (refine wpList_plain rfl fun K hK => ?_; refine wp_runU v (exec_appendU rfl (by rfl) (by rfl) HRUN.out) ?_; refine hK _ _ ?_)
  go_wp2_with fail
  go_ret
  exact ⟨v, rfl, HO.out, HB.out⟩
set_option maxRecDepth 100000 in
theorem left_c {B N k g : Nat} {O : Nat → Prop} {w : World} {gray : Ds} {b : List Nat → Bool} (h : MR B N O w k g gray b) : Calls Try.prog 13 #[.pointer (some ⟨k, 0, none⟩)] w fun e w' => e = .returned (.int .i64 (gray.length : Nat)) ∧ w' = w := by
  obtain ⟨gv, bm, h1, h2, h3, h4⟩ := h.ex
  obtain ⟨a, cap, rfl, -, -, -, -⟩ := h2.dr
  have c1 : w.cell? ⟨k, 1, none⟩ = some (.slice a gray.length cap) := (cell_of_row w k 1 _ _ _ h1).trans rfl
  clear h h1 h2 h3 h4
  go_enter Try.func13, Try.ntmps13
  go_wp2_with fail
  go_ret
  exact ⟨rfl, rfl⟩
end Go.Proofs.Ytpppffgchgcghaa
