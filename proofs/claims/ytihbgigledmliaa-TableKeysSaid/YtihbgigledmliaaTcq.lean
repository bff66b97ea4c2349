/-
  Changes that came in: whether they are small, and as the program's. Changes as the program's, in memory of their own. Keys with their values, as the document has them, in memory; where a key stands.
-/
import Derived.Test.YtihbgigledmliaaTbh
import Derived.Test.YtihbgigledmliaaRfb
namespace Go.Proofs.Ytihbgigledmliaa
open Go.RowKit
set_option linter.unusedVariables false
/-- are they few, and short? -/
def smallG (L : List Cg) : Bool := decide (L.length ≤ 40) && L.all fun c => decide (c.key.size ≤ 400) && decide (c.vn ≤ 500)
theorem smallG_drop {L : List Cg} {k : Nat} {c : Cg} (hc : L.drop k = c :: L.drop (k + 1)) : (L.drop k).all (fun c => decide (c.key.size ≤ 400) && decide (c.vn ≤ 500)) = ((decide (c.key.size ≤ 400) && decide (c.vn ≤ 500)) && (L.drop (k + 1)).all fun c => decide (c.key.size ≤ 400) && decide (c.vn ≤ 500)) := by
  rw [hc]; rfl
theorem run_rchg_idx (W : World) (b o len cap i : Nat) (hi : i < len) : (Instr.indexAt 22 (.slice (some ⟨b, o, none⟩) len cap) (.int .i64 (i : Int))).run Try.prog W = .ok (.pointer (some ⟨b, o + i * 3, none⟩)) W := by
  rw [run_indexAt_slice W 22 ⟨b, o, none⟩ len cap .i64 (i : Int) (by kernel_rfl)]
  have h1 : (0 : Int) ≤ (i : Int) ∧ (i : Int) < (len : Int) := by omega
  rw [if_pos h1, show (Go.sizeOf (Try.prog.elem 22)).run Try.prog W = .ok 3 W from by kernel_rfl]
  simp [Result.andThen, Addr.add]
/-- the box of a range over changes -/
def ChB (w : World) (X : Nat) (c : Cg) (W : World) : Prop := W.heap[X]? = some (.cells #[.string c.key, .bool c.gone, .slice c.va c.vn c.vc] 67 (0, 0)) ∧ Below w.heap.size w W
set_option maxRecDepth 100000 in
set_option maxHeartbeats 8000000 in
theorem tsmall_c (a : Option Addr) (len cap : Nat) (L : List Cg) (w : World) (h : CgIn w a len cap L) :
    Calls Try.prog 7 #[.slice a len cap] w fun e w' => e = .returned (.bool (smallG L)) ∧ Below w.heap.size w w' := by
  obtain ⟨hl, hlc, hcm, hh, hs⟩ := h
  have HL := Lib.hid hl
  have HH := Lib.hid hh
  have HS := Lib.hid hs
  clear hh hs
  by_cases h40 : 40 < len
  · rw [show smallG L = false from by unfold smallG; rw [decide_eq_false (by omega)]; rfl]
    have i1 : (40 : Int) < (len : Int) := by omega
    clear hl
    go_enter Try.func7, Try.ntmps7
    go_wp2_with fail
    go_ret
    exact ⟨rfl, Below.refl _ _⟩
  · rw [show smallG L = (L.drop 0).all (fun c => decide (c.key.size ≤ 400) && decide (c.vn ≤ 500)) from by unfold smallG; rw [decide_eq_true (by omega), List.drop_zero]; rfl]
    have i1 : ¬ (40 : Int) < (len : Int) := by omega
    clear hl
    obtain ⟨r, hr⟩ : ∃ r, r = (L.drop 0).all (fun c => decide (c.key.size ≤ 400) && decide (c.vn ≤ 500)) := ⟨_, rfl⟩
    rw [← hr]
    have HR := Lib.hid hr
    clear hr
    go_enter Try.func7, Try.ntmps7
    go_wp2_with fail
    go_loopw [10] (fun i wr => ∃ k : Nat, k ≤ len ∧ i = .int .i64 k ∧ Hid (Below w.heap.size w wr ∧ r = (L.drop k).all (fun c => decide (c.key.size ≤ 400) && decide (c.vn ≤ 500)))) (fun i _ => len - (intOf i).toNat)
    case atStart => exact ⟨0, Nat.zero_le _, rfl, Lib.hid ⟨Below.refl _ _, HR.out⟩⟩
    case round =>
      clear HR
      obtain ⟨k, hk, rfl, HP⟩ := hrel
      by_cases hkl : k < len
      · obtain ⟨c, hc⟩ : ∃ c, L[k]? = some c := ⟨_, List.getElem?_eq_getElem (by rw [HL.out]; exact hkl)⟩
        obtain ⟨b, off, rfl, hblt, hcells⟩ := HH.out.resolve_left (by omega)
        obtain ⟨d0, d1, d2⟩ := hcells k c hc
        have HDR := Lib.hid (show L.drop k = c :: L.drop (k + 1) from by
          obtain ⟨hx, rfl⟩ := List.getElem?_eq_some_iff.1 hc
          exact List.drop_eq_getElem_cons hx)
        obtain ⟨key, gone, va, vn, vc, val⟩ := c
        simp only at d0 d1 d2
        have hbw := HP.out.1
        have c0 := (hbw.cell (p := ⟨b, off + k * 3, none⟩) hblt).trans d0
        have c1 := (hbw.cell (p := ⟨b, off + k * 3 + 1, none⟩) hblt).trans d1
        have c2 := (hbw.cell (p := ⟨b, off + k * 3 + 2, none⟩) hblt).trans d2
        have hix := fun W => run_rchg_idx W b off len cap k hkl
        have HNX := Lib.hid (show r = ((decide (key.size ≤ 400) && decide (vn ≤ 500)) && (L.drop (k + 1)).all fun c => decide (c.key.size ≤ 400) && decide (c.vn ≤ 500)) from by rw [HP.out.2]; exact smallG_drop HDR.out)
        have HB5 := Lib.hid (show Below w.heap.size w (wr.alloc (.cells #[.string key, .bool gone, .slice va vn vc] 67)) from hbw.alloc hbw.size _)
        obtain ⟨w5, hw5⟩ : ∃ w5, w5 = wr.alloc (.cells #[.string key, .bool gone, .slice va vn vc] 67) := ⟨_, rfl⟩
        obtain ⟨X, hX⟩ : ∃ X, X = wr.heap.size := ⟨_, rfl⟩
        have hbx : w5.heap[X]? = some (.cells #[.string key, .bool gone, .slice va vn vc] 67 (0, 0)) := by rw [hw5, hX]; exact heap_alloc_new wr _
        have y0 : w5.cell? ⟨X, 0, none⟩ = some (.string key) := (cell_of_row w5 X 0 _ _ _ hbx).trans rfl
        have y2 : w5.cell? ⟨X, 2, none⟩ = some (.slice va vn vc) := (cell_of_row w5 X 2 _ _ _ hbx).trans rfl
        rw [← hw5] at HB5
        clear hbx hbw d0 d1 d2 hcells hc
        go_upto_region 6 with fail
        rw [← hX]
        rw [← hw5]
        clear hX hw5 c0 c1 c2 hix hblt
        by_cases hk4 : key.size ≤ 400
        · have j1 : ¬ (400 : Int) < (key.size : Int) := by omega
          by_cases hv5 : vn ≤ 500
          · have j2 : ¬ (500 : Int) < (vn : Int) := by omega
            have HP2 := Lib.hid (show Below w.heap.size w w5 ∧ r = (L.drop (k + 1)).all (fun c => decide (c.key.size ≤ 400) && decide (c.vn ≤ 500)) from ⟨HB5.out, by rw [HNX.out, decide_eq_true hk4, decide_eq_true hv5]; simp⟩)
            go_wp2_with fail
            go_roundw
            case rel => exact ⟨k + 1, by omega, by go_num, HP2⟩
            case measure => simp [intOf]; omega
          · have j2 : (500 : Int) < (vn : Int) := by omega
            have HE := Lib.hid (show r = false from by rw [HNX.out, decide_eq_false hv5]; simp)
            go_wp2_with fail
            go_ret
            exact ⟨by rw [HE.out]; rfl, HB5.out⟩
        · have j1 : (400 : Int) < (key.size : Int) := by omega
          have HE := Lib.hid (show r = false from by rw [HNX.out, decide_eq_false hk4]; simp)
          go_wp2_with fail
          go_ret
          exact ⟨by rw [HE.out]; rfl, HB5.out⟩
      · have hkr : k = len := by omega
        have HE := Lib.hid (show r = true from by rw [HP.out.2, List.drop_of_length_le (by rw [HL.out]; omega)]; rfl)
        go_wp2_with fail
        go_ret
        exact ⟨by rw [HE.out]; rfl, HP.out.1⟩
end Go.Proofs.Ytihbgigledmliaa
namespace Go.Proofs.Ytihbgigledmliaa
open Go.RowKit
set_option linter.unusedVariables false
theorem chgInfoT : (Try.prog.info? 65).map (fun i => (i.zero, i.size, i.bytes)) = some (some (.agg #[.string ⟨#[]⟩, .bool false, .slice none 0 0]), 3, 48) := by kernel_rfl
def cgC (c : Cg) : List Value := [.string c.key, .bool c.gone, .slice c.va c.vn c.vc]
theorem cgC_one (c : Cg) : ∀ u ∈ cgC c, u.oneCell' = true := by
  intro u hu
  simp only [cgC, List.mem_cons, List.not_mem_nil, or_false] at hu
  rcases hu with rfl | rfl | rfl <;> rfl
/-- a row of changes that the call owns -/
def OwnG (W : World) (B : Nat) (v : Value) (M : List Cg) : Prop := W.ownsRow B 65 3 v M.length (M.flatMap cgC)
theorem OwnG.nil (W : World) (B : Nat) : OwnG W B (.slice none 0 0) [] := World.ownsRow_nil _ _ _ _
theorem OwnG.keep {w w' : World} {B : Nat} {v : Value} {M : List Cg} (h : OwnG w B v M) (hb : Below w.heap.size w w') : OwnG w' B v M := by
  obtain ⟨h1, h2⟩ := h
  refine ⟨h1, h2.imp id ?_⟩
  rintro ⟨g, cap, cur, e1, e2, e3, e4⟩
  exact ⟨g, cap, cur, e1, e2, (hb.block g (Array.getElem?_eq_some_iff.1 e3).1).trans e3, e4⟩
theorem OwnG.other {w : World} {B : Nat} {v : Value} {M : List Cg} (h : OwnG w B v M) {g : Nat} {C : Array Value} {t : TypeId} {fr : Nat × Nat} (hg : w.heap[g]? = some (.cells C t fr)) (ht : t ≠ 65) : some g ≠ v.ownBlock := fun e => by
  rcases h.2 with ⟨rfl, _⟩ | ⟨g', cap, cur, rfl, _, hh, _⟩
  · cases e
  · have : g = g' := by simpa [Value.ownBlock] using e
    subst this
    rw [hg] at hh
    simp only [Option.some.injEq, Obj.cells.injEq] at hh
    exact ht hh.2.1
theorem flat_get (M : List Cg) (i : Nat) (c : Cg) (h : M[i]? = some c) (j : Nat) (hj : j < 3) : (M.flatMap cgC)[i * 3 + j]? = (cgC c)[j]? := by
  induction M generalizing i with
  | nil => simp at h
  | cons x M ih =>
    cases i with
    | zero =>
      simp only [List.getElem?_cons_zero, Option.some.injEq] at h
      subst h
      rw [List.flatMap_cons, Nat.zero_mul, Nat.zero_add, List.getElem?_append_left (by simp [cgC]; omega)]
    | succ i =>
      rw [List.getElem?_cons_succ] at h
      rw [List.flatMap_cons, List.getElem?_append_right (by simp [cgC]; omega), show (cgC x).length = 3 from rfl, show (i + 1) * 3 + j - 3 = i * 3 + j by omega]
      exact ih i h
/-- the same keys, the same values -/
def cgE (c : Cg) : ByteArray × Bool × List Nat := (c.key, c.gone, c.val)
/-- a change whose value is owned -/
def GN (W : World) (B : Nat) (c : Cg) : Prop := Own W B (.slice c.va c.vn c.vc) c.val ∧ (∀ z ∈ c.val, z < 256) ∧ c.key.size ≤ maxLen
theorem ownU_kept {w w' : World} {B : Nat} {v : Value} {zs : List Nat} (h : Own w B v zs) (hk : ∀ (q : Nat) (C : Array Value) (fr : Nat × Nat), w.heap[q]? = some (.cells C 5 fr) → w'.heap[q]? = some (.cells C 5 fr)) : Own w' B v zs :=
  ⟨h.1, h.2.imp id fun ⟨g, cap, cur, e1, e2, e3, e4⟩ => ⟨g, cap, cur, e1, e2, hk g cur (0, 0) e3, e4⟩⟩
theorem ownU_base {w : World} {B B' : Nat} {v : Value} {zs : List Nat} (h : Own w B v zs) (hb : B' ≤ B) : Own w B' v zs :=
  ⟨h.1, h.2.imp id fun ⟨g, cap, cur, h1, h2, h3⟩ => ⟨g, cap, cur, h1, Nat.le_trans hb h2, h3⟩⟩
theorem GN.keep {W W' : World} {B : Nat} {c : Cg} (h : GN W B c) (hb : Below W.heap.size W W') : GN W' B c := ⟨h.1.keep hb, h.2⟩
theorem GN.cg {W : World} {B : Nat} {c : Cg} (h : GN W B c) : CgB W c ∧ c.vn = c.val.length ∧ c.vn ≤ c.vc := by
  obtain ⟨h1, h2, h3⟩ := h
  obtain ⟨a, cap, e, i1, i2, i3⟩ := h1.rd h2
  obtain ⟨e1, e2, e3⟩ := Value.slice.inj e
  refine ⟨⟨by rw [e1, e2]; exact i3, fun h0 => ?_, h3⟩, e2, by rw [e2, e3]; exact i1⟩
  rcases h1.2 with ⟨e', _⟩ | ⟨g, cap', cur, e', _⟩
  · exact (Value.slice.inj e').2.2
  · rw [(Value.slice.inj e').1] at h0
    cases h0
/-- the changes so far, in memory that is newer than w -/
structure ToS (w : World) (L : List Cg) (k : Nat) (v : Value) (W : World) : Prop where
  ex : ∃ M : List Cg, M.map cgE = (L.take k).map cgE ∧ OwnG W w.heap.size v M ∧ ∀ c ∈ M, GN W w.heap.size c
  below : Below w.heap.size w W
theorem ToS.step {w W W' : World} {L : List Cg} {k : Nat} {v : Value} (h : ToS w L k v W) (hb : Below W.heap.size W W') : ToS w L k v W' := by
  obtain ⟨⟨M, h1, h2, h3⟩, h4⟩ := h
  exact ⟨⟨M, h1, h2.keep hb, fun c hc => (h3 c hc).keep hb⟩, h4.trans (hb.mono h4.size)⟩
theorem built_tc (key : ByteArray) (gone : Bool) (a : Option Addr) (n c : Nat) : Try.prog.built 65 [(0, .string key), (1, .bool gone), (2, .slice a n c)] = some #[.string key, .bool gone, .slice a n c] := by kernel_rfl
theorem exec_buildT {t : TypeId} {fs : Array (Nat × Operand)} {C : Array Value} {A : Act} (hb : Try.prog.built t (fs.map fun (i, z) => (i, A.eval z)).toList = some C) (o : Oper) (ho : o.op = .build t fs) (W : World) : (execOp A.eval o).run Try.prog W = .ok (.value (.agg C)) W := by
  unfold execOp
  simp only [ho, Sem.run_bind, run_build W t _ _ hb, Result.andThen_ok, Sem.run_pure]
theorem own_blkT {W : World} {B n c : Nat} {a : Option Addr} {zs : List Nat} (h : Own W B (.slice a n c) zs) : ∀ b o s, a = some ⟨b, o, s⟩ → n ≠ 0 → B ≤ b := fun b o s e h0 => by
  rcases h.2 with ⟨e0, _⟩ | ⟨g, cap, cur, e0, hb, _⟩
  · cases e0; omega
  · cases e0; cases e; exact hb
theorem wp_layG {w : World} {o : Oper} {a : Act} {K : Act → World → Prop} {Q : Exit → Act → World → Prop} (x : Operand) (ho : o.op = .buildSlice 35 1 #[(0, x)]) (c : Cg) (hx : a.eval x = .agg (cgC c).toArray)
    (h : K (a.put o.dst (.slice (some ⟨w.heap.size, 0, none⟩) 1 1)) (w.alloc (.cells (cgC c).toArray 65))) : o.wp Try.prog a w K Q := by
  obtain ⟨i0, hi, hz0, hz1, hz2⟩ := info_parts chgInfoT
  refine wp_buildSlice 35 65 1 _ ho (cgC c).toArray i0 _ Try.underlying35 hi hz0 (by rw [hz1]; omega) (by rw [hz1]; omega) ?_ h
  rw [hz1]
  simp only [List.map_toArray, List.map_cons, List.map_nil, hx]
  kernel_rfl
/-- a change is laid behind the others -/
theorem wp_pushG {w W : World} {o : Oper} {a : Act} {K : Act → World → Prop} {Q : Exit → Act → World → Prop} (s x : Operand)
    (ho : o.op = .call { callee := .builtin .append, args := #[s, x], argTypes := #[35, 35] })
    {L : List Cg} {k : Nat} {v : Value} (h : ToS w L k v W) (c d : Cg) (hd : L[k]? = some d) (he : cgE c = cgE d) (hk : k ≤ 1000000) (g : Nat) (hg : W.heap[g]? = some (.cells (cgC c).toArray 65 (0, 0))) (hc : GN W w.heap.size c)
    (hs : a.eval s = v) (hx : a.eval x = .slice (some ⟨g, 0, none⟩) 1 1)
    (hK : ∀ v' W', ToS w L (k + 1) v' W' → (∀ (q : Nat) (C : Array Value) (t : TypeId) (fr : Nat × Nat), W.heap[q]? = some (.cells C t fr) → t ≠ 65 → W'.heap[q]? = some (.cells C t fr)) → K (a.put o.dst v') W') : o.wp Try.prog a W K Q := by
  obtain ⟨i0, hi, hz0, hz1, hz2⟩ := info_parts chgInfoT
  obtain ⟨⟨M, h1, h2, h3⟩, h4⟩ := h
  have hM : M.length ≤ k := by
    have := congrArg List.length h1
    simp only [List.length_map, List.length_take] at this
    omega
  refine wp_append_own _ s x 35 ho w.heap.size 65 i0 _ 3 48 Try.underlying35 hi hz0 hz1 hz2 rfl (by decide) v M.length _ hs h2 ⟨g, 0, none⟩ 1 1 (cgC c) hx rfl ?_ (cgC_one c) (by unfold maxLen; omega) (by omega) h4.size ?_
  · intro j u hj
    rw [show (Addr.mk g 0 none).add j = ⟨g, j, none⟩ from by simp [Addr.add]; exact fun h => h.symm, cell_of_row _ _ _ _ _ _ hg]
    simpa using hj
  · intro v' W' r1 r2 _
    have keep : ∀ (q : Nat) (C : Array Value) (t : TypeId) (fr : Nat × Nat), W.heap[q]? = some (.cells C t fr) → t ≠ 65 → W'.heap[q]? = some (.cells C t fr) := fun q C t fr hq ht => (r2.block q (Array.getElem?_eq_some_iff.1 hq).1 (h2.other hq ht)).trans hq
    have hb : Below w.heap.size W W' := (Below.refl _ _).grown r2 h4.size fun q hq => by
      rcases h2.2 with ⟨e, _⟩ | ⟨g', cap', cur', e, hB, _⟩
      · rw [e] at hq; cases hq
      · rw [e] at hq
        obtain rfl : g' = q := by simpa [Value.ownBlock] using hq
        exact hB
    refine hK v' W' ⟨⟨M ++ [c], ?_, ?_, ?_⟩, h4.trans hb⟩ keep
    · have e : L.take (k + 1) = L.take k ++ [d] := by
        obtain ⟨hk', rfl⟩ := List.getElem?_eq_some_iff.1 hd
        exact List.take_succ_eq_append_getElem hk'
      rw [e, List.map_append, List.map_append, h1, List.map_cons, List.map_cons, he]
      try rfl
    · unfold OwnG
      rw [List.length_append, List.flatMap_append]
      simpa using r1
    · intro e he'
      rcases List.mem_append.1 he' with h5 | h5
      · exact ⟨ownU_kept (h3 e h5).1 fun q C fr hq => keep q C _ fr hq (by decide), (h3 e h5).2⟩
      · obtain rfl : e = c := by simpa using h5
        exact ⟨ownU_kept hc.1 fun q C fr hq => keep q C _ fr hq (by decide), hc.2⟩
/-- the box of a range over changes -/
def ChX (X : Nat) (c : Cg) (W : World) : Prop := W.heap[X]? = some (.cells #[.string c.key, .bool c.gone, .slice c.va c.vn c.vc] 67 (0, 0))
theorem ChX.step {W W' : World} {X : Nat} {c : Cg} (h : ChX X c W) (hb : Below W.heap.size W W') : ChX X c W' := (hb.block X (Array.getElem?_eq_some_iff.1 h).1).trans h
set_option maxRecDepth 100000 in
set_option maxHeartbeats 8000000 in
theorem to_c (a : Option Addr) (len cap : Nat) (L : List Cg) (w : World) (h : CgIn w a len cap L) (hm : len ≤ 1000000) (hvm : ∀ c ∈ L, c.vn ≤ 140737488355327) :
    Calls Try.prog 9 #[.slice a len cap] w fun e w' => ∃ v, e = .returned v ∧ ToS w L len v w' := by
  obtain ⟨hl, hlc, hcm, hh, hs⟩ := h
  have HL := Lib.hid hl
  have HH := Lib.hid hh
  have HS0 := Lib.hid hs
  have HVM := Lib.hid hvm
  clear hh hs hl hvm
  go_enter Try.func9, Try.ntmps9
  go_wp2_with fail
  go_loopw [3, 8] (fun v i wr => ∃ k : Nat, k ≤ len ∧ i = .int .i64 k ∧ Hid (ToS w L k v wr)) (fun _ i _ => len - (intOf i).toNat)
  case atStart => exact ⟨0, Nat.zero_le _, rfl, Lib.hid ⟨⟨[], rfl, OwnG.nil _ _, fun c hc => by cases hc⟩, Below.refl _ _⟩⟩
  case round =>
    obtain ⟨k, hk, rfl, HT⟩ := hrel
    by_cases hkl : k < len
    · obtain ⟨c, hc⟩ : ∃ c, L[k]? = some c := ⟨_, List.getElem?_eq_getElem (by rw [HL.out]; exact hkl)⟩
      obtain ⟨b, off, rfl, hblt, hcells⟩ := HH.out.resolve_left (by omega)
      obtain ⟨d0, d1, d2⟩ := hcells k c hc
      have HDK := Lib.hid hc
      have hmem : c ∈ L := List.mem_of_getElem? hc
      have hcb := HS0.out c hmem
      have hvn := HVM.out c hmem
      obtain ⟨key, gone, va, vn, vc, val⟩ := c
      simp only at d0 d1 d2 hvn
      have HVB := Lib.hid (show ∀ z ∈ val, z < 256 from hcb.1.2.1)
      have HKS := Lib.hid (show key.size ≤ maxLen from hcb.2.2)
      have HTW := Lib.hid (fun W (hW : Below w.heap.size w W) => twin_c va vn vc val W (hcb.1.below hW) hvn)
      have HK6 := Lib.hid (show k ≤ 1000000 by omega)
      have hbw := HT.out.below
      have c0 := (hbw.cell (p := ⟨b, off + k * 3, none⟩) hblt).trans d0
      have c1 := (hbw.cell (p := ⟨b, off + k * 3 + 1, none⟩) hblt).trans d1
      have c2 := (hbw.cell (p := ⟨b, off + k * 3 + 2, none⟩) hblt).trans d2
      have hix := fun W => run_rchg_idx W b off len cap k hkl
      obtain ⟨w5, hw5⟩ : ∃ w5, w5 = wr.alloc (.cells #[.string key, .bool gone, .slice va vn vc] 67) := ⟨_, rfl⟩
      obtain ⟨X, hX⟩ : ∃ X, X = wr.heap.size := ⟨_, rfl⟩
      have hb5 : Below wr.heap.size wr w5 := by rw [hw5]; exact (Below.refl _ _).alloc (Nat.le_refl _) _
      have HX5 := Lib.hid (show ChX X ⟨key, gone, va, vn, vc, val⟩ w5 from by rw [hw5, hX]; exact heap_alloc_new wr _)
      have HT5 := Lib.hid (HT.out.step hb5)
      clear hb5 hbw d0 d1 d2 hcells hc hmem hcb hvn HT
      go_upto_region 5 with fail
      rw [← hX]
      rw [← hw5]
      clear hX hw5 c0 c1 c2 hix hblt
      obtain ⟨w6, hw6⟩ : ∃ W, W = World.drew w5 := ⟨_, rfl⟩
      have hb6 : Below w5.heap.size w5 w6 := by rw [hw6]; exact below_drewN' _ w5 1
      have HS := Lib.hid (HX5.out.step hb6)
      have HT6 := Lib.hid (HT5.out.step hb6)
      have HB6 := Lib.hid HT6.out.below
      clear hb6 HX5 HT5
      refine anyH_begin (S := ChX X ⟨key, gone, va, vn, vc, val⟩) (by kernel_rfl) ?_
      rw [← hw6]
      clear hw6
      refine anyH_pureG 0 (d := 12) (op := .move (.tmp 3)) (gd := none) (u3) (by rfl) (fun o ho => wanted_plain ho _) (by kernel_rfl) (by kernel_rfl) (by kernel_rfl) (fun _ _ _ h => h) (fun o ho W hW => by unfold execOp; simp only [ho]; go_simp) HS.out ?_
      simp only [Act.put, List.setIfInBounds_toArray, List.set_cons_zero, List.set_cons_succ]
      refine anyH_pureG 1 (d := 13) (op := .fieldAddr 67 (.tmp 5) 0) (gd := none) (.pointer (some ⟨X, 0, none⟩)) (by rfl) (fun o ho => wanted_plain ho _) (by kernel_rfl) (by kernel_rfl) (by kernel_rfl) (fun _ _ _ h => h) (fun o ho W hW => by unfold execOp; simp only [ho]; go_simp) HS.out ?_
      simp only [Act.put, List.setIfInBounds_toArray, List.set_cons_zero, List.set_cons_succ]
      refine anyH_loadG 2 (d := 14) (ty := 9) (x := (.tmp 13)) (gd := none) (p := .pointer (some ⟨X, 0, none⟩)) (.string key) (by rfl) (fun o ho => wanted_plain ho _) (by kernel_rfl) (by kernel_rfl) (by kernel_rfl) (fun _ _ _ h => h) (by rfl) (fun W hW => by have c0 := cell_of_row W X 0 _ _ _ hW; go_simp) HS.out ?_
      simp only [Act.put, List.setIfInBounds_toArray, List.set_cons_zero, List.set_cons_succ]
      refine anyH_pureG 3 (d := 15) (op := .fieldAddr 67 (.tmp 5) 1) (gd := none) (.pointer (some ⟨X, 1, none⟩)) (by rfl) (fun o ho => wanted_plain ho _) (by kernel_rfl) (by kernel_rfl) (by kernel_rfl) (fun _ _ _ h => h) (fun o ho W hW => by unfold execOp; simp only [ho]; go_simp) HS.out ?_
      simp only [Act.put, List.setIfInBounds_toArray, List.set_cons_zero, List.set_cons_succ]
      refine anyH_loadG 4 (d := 16) (ty := 4) (x := (.tmp 15)) (gd := none) (p := .pointer (some ⟨X, 1, none⟩)) (.bool gone) (by rfl) (fun o ho => wanted_plain ho _) (by kernel_rfl) (by kernel_rfl) (by kernel_rfl) (fun _ _ _ h => h) (by rfl) (fun W hW => by have c0 := cell_of_row W X 1 _ _ _ hW; go_simp) HS.out ?_
      simp only [Act.put, List.setIfInBounds_toArray, List.set_cons_zero, List.set_cons_succ]
      refine anyH_pureG 5 (d := 17) (op := .fieldAddr 67 (.tmp 5) 2) (gd := none) (.pointer (some ⟨X, 2, none⟩)) (by rfl) (fun o ho => wanted_plain ho _) (by kernel_rfl) (by kernel_rfl) (by kernel_rfl) (fun _ _ _ h => h) (fun o ho W hW => by unfold execOp; simp only [ho]; go_simp) HS.out ?_
      simp only [Act.put, List.setIfInBounds_toArray, List.set_cons_zero, List.set_cons_succ]
      refine anyH_loadG 6 (d := 18) (ty := 41) (x := (.tmp 17)) (gd := none) (p := .pointer (some ⟨X, 2, none⟩)) (.slice va vn vc) (by rfl) (fun o ho => wanted_plain ho _) (by kernel_rfl) (by kernel_rfl) (by kernel_rfl) (fun _ _ _ h => h) (by rfl) (fun W hW => by have c0 := cell_of_row W X 2 _ _ _ hW; go_simp) HS.out ?_
      simp only [Act.put, List.setIfInBounds_toArray, List.set_cons_zero, List.set_cons_succ]
      refine anyH_callG 7 (d := some 19) (f := 25) (xs := #[(.tmp 18)]) (ts := #[41]) (gd := none) (vs := #[.slice va vn vc]) (by kernel_rfl) (by rfl) (fun o ho => wanted_plain ho _) (by go_simp) (by go_simp) (HTW.out w6 HB6.out) ?_
      rintro e w7 ⟨v19, rfl, ho7, hb7⟩
      obtain ⟨a19, c19, rfl, hlc7, hcm7, hr7⟩ := ho7.rd HVB.out
      have HGN := Lib.hid (show GN w7 w.heap.size ⟨key, gone, a19, val.length, c19, val⟩ from ⟨ownU_base ho7 HT6.out.below.size, HVB.out, HKS.out⟩)
      have HT7 := Lib.hid (HT6.out.step hb7)
      have HS7 := Lib.hid (HS.out.step hb7)
      clear hlc7 hcm7 hr7 ho7 hb7 HTW HT6
      refine ⟨_, rfl, HS7.out, fun _ => ?_⟩
      simp only [Act.put, List.setIfInBounds_toArray, List.set_cons_zero, List.set_cons_succ]
      refine anyH_pureG 8 (d := 20) (op := .build 65 #[(0, (.tmp 14)), (1, (.tmp 16)), (2, (.tmp 19))]) (gd := none) (.agg (cgC ⟨key, gone, a19, val.length, c19, val⟩).toArray) (by rfl) (fun o ho => wanted_plain ho _) (by kernel_rfl) (by kernel_rfl) (by kernel_rfl) (fun _ _ _ h => h) (fun o ho W hW => exec_buildT (by simp only [List.map_toArray, List.map_cons, List.map_nil]; exact built_tc key gone a19 val.length c19) o ho W) HS7.out ?_
      simp only [Act.put, List.setIfInBounds_toArray, List.set_cons_zero, List.set_cons_succ]
      refine anyH_oneT 9 (d1 := some 21) (op1 := .buildSlice 35 1 #[(0, (.tmp 20))]) (by kernel_rfl) (by rfl) (fun o hod hoo => ?_)
      refine wp_layG (.tmp 20) hoo ⟨key, gone, a19, val.length, c19, val⟩ (by rfl) ?_
      obtain ⟨w8, hw8⟩ : ∃ W, W = w7.alloc (.cells (cgC ⟨key, gone, a19, val.length, c19, val⟩).toArray 65) := ⟨_, rfl⟩
      obtain ⟨q, hq⟩ : ∃ q, q = w7.heap.size := ⟨_, rfl⟩
      have hb8 : Below w7.heap.size w7 w8 := by rw [hw8]; exact (Below.refl _ _).alloc (Nat.le_refl _) _
      have HQ8 := Lib.hid (show w8.heap[q]? = some (.cells (cgC ⟨key, gone, a19, val.length, c19, val⟩).toArray 65 (0, 0)) from by rw [hw8, hq]; exact heap_alloc_new w7 _)
      have HT8 := Lib.hid (HT7.out.step hb8)
      have HS8 := Lib.hid (HS7.out.step hb8)
      have HG8 := Lib.hid (HGN.out.keep hb8)
      rw [← hw8, ← hq]
      clear hw8 hq hb8 HGN HT7 HS7
      refine ⟨HS8.out, ?_⟩
      rw [hod]
      simp only [Act.put, List.setIfInBounds_toArray, List.set_cons_zero, List.set_cons_succ]
      refine anyH_oneT 10 (d1 := some 22) (op1 := .call { callee := .builtin .append, args := #[(.tmp 12), (.tmp 21)], argTypes := #[35, 35] }) (by kernel_rfl) (by rfl) (fun o hod hoo => ?_)
      refine wp_pushG (.tmp 12) (.tmp 21) hoo HT8.out ⟨key, gone, a19, val.length, c19, val⟩ ⟨key, gone, va, vn, vc, val⟩ HDK.out rfl HK6.out q HQ8.out HG8.out (by rfl) (by rfl) ?_
      intro v9 w9 h9 hk9
      have HT9 := Lib.hid h9
      have HS9 := Lib.hid (show ChX X ⟨key, gone, va, vn, vc, val⟩ w9 from hk9 _ _ _ _ HS8.out (by decide))
      clear h9 hk9
      refine ⟨HS9.out, ?_⟩
      rw [hod]
      simp only [Act.put, List.setIfInBounds_toArray, List.set_cons_zero, List.set_cons_succ]
      refine anyH_pureG 11 (d := 3) (op := .assign (.tmp 22)) (gd := none) v9 (by rfl) (fun o ho => wanted_plain ho _) (by kernel_rfl) (by kernel_rfl) (by kernel_rfl) (fun _ _ _ h => h) (fun o ho W hW => by unfold execOp; simp only [ho]; go_simp) HS9.out ?_
      simp only [Act.put, List.setIfInBounds_toArray, List.set_cons_zero, List.set_cons_succ]
      refine wpAnyH_done (by kernel_rfl) ?_ _
      clear HS HB6 HS8 HT8 HG8 HQ8 HS9
      go_wp2_with fail
      go_roundw
      case rel => exact ⟨k + 1, by omega, by go_num, HT9⟩
      case measure => simp [intOf]; omega
    · obtain rfl : k = len := by omega
      go_wp2_with fail
      go_ret
      exact ⟨_, rfl, HT.out⟩
end Go.Proofs.Ytihbgigledmliaa
namespace Go.Proofs.Ytihbgigledmliaa
open Go.RowKit
set_option linter.unusedVariables false
theorem info_pair : (Try.prog.info? 46).map (fun i => (i.zero, i.size, i.bytes)) = some (some (.agg #[.string ⟨#[]⟩, .slice none 0 0]), 2, 40) := by kernel_rfl
/-- a row of pairs that the call owns -/
abbrev OwnP (w : World) (B : Nat) (v : Value) (rs : List FR2) : Prop := w.ownsRow B 46 2 v rs.length (fcells rs)
/-- N's blocks, and the new ones that hold pairs -/
def NP (N : Nat → Prop) (B : Nat) (W : World) (k : Nat) : Prop := N k ∨ B ≤ k ∧ ∃ (C : Array Value) (fr : Nat × Nat), W.heap[k]? = some (.cells C 46 fr)
theorem NP.low {N : Nat → Prop} {w W : World} {k : Nat} (h : NP N w.heap.size W k) : Low N w k := h.imp id And.left
theorem NP.ren {N : Nat → Prop} {B : Nat} {W W' : World} (h : Below W.heap.size W W') : Ren (NP N B W) (NP N B W') W := by
  rintro k (hk | ⟨hB, C, fr, hk⟩)
  · exact .inl (.inl hk)
  · by_cases hlt : k < W.heap.size
    · exact .inl (.inr ⟨hB, C, fr, by rw [← h.block k hlt]; exact hk⟩)
    · exact .inr (by omega)
theorem FRs.np {N : Nat → Prop} {B : Nat} {W W' : World} {rs : List FR2} {l : Fls} (h : FRs (NP N B W) W rs l) (hb : Below W.heap.size W W') : FRs (NP N B W') W' rs l := h.sta (Sta.ofBelow hb) (NP.ren hb)
theorem FC.np {N : Nat → Prop} {B : Nat} {W W' : World} {f : ByteArray × List Nat} {x y : Value} (h : FC (NP N B W) W f x y) (hb : Below W.heap.size W W') : FC (NP N B W') W' f x y := h.sta (Sta.ofBelow hb) (NP.ren hb)
theorem RF.npw {N : Nat → Prop} {w W : World} {a : Option Addr} {len : Nat} {l : Fls} (h : RF N w a len l) (hb : Below w.heap.size w W) : RF (NP N w.heap.size W) W a len l := by
  have h2 := h.low.sta (Sta.ofBelow hb) (Ren.refl _ _)
  refine ⟨h2.ln, h2.row.imp id ?_⟩
  rintro ⟨b, o, e, hb', hn, hc⟩
  refine ⟨b, o, e, hb', fun hk => hn hk.low, fun i f hf => ?_⟩
  obtain ⟨x, y, k1, k2, k3⟩ := hc i f hf
  exact ⟨x, y, k1, k2, k3.weak fun k hk => NP.low hk⟩
theorem push_np {N : Nat → Prop} {B : Nat} {W w5 : World} {v : Value} {rs : List FR2} {l : Fls} {o : Obj} {r : FR2} {f : ByteArray × List Nat} (hB : B ≤ W.heap.size) (hown : OwnP W B v rs) (hfr : FRs (NP N B W) W rs l) (hfc : FC (NP N B W) W f r.1 r.2) (hg : (W.alloc o).grownBy w5 v.ownBlock) :
    FRs (NP N B w5) w5 (rs ++ [r]) (l ++ [f]) ∧ Below B W w5 := by
  have hown' : ∀ k, v.ownBlock = some k → NP N B W k := fun k hk => by
    rcases hown.2 with ⟨e, _⟩ | ⟨g, cap, cur, e, hgB, hh, _⟩
    · rw [e] at hk; cases hk
    · rw [e] at hk
      obtain rfl : g = k := by simpa [Value.ownBlock] using hk
      exact .inr ⟨hgB, cur, (0, 0), hh⟩
  have keep : ∀ k, k < W.heap.size → v.ownBlock ≠ some k → w5.heap[k]? = W.heap[k]? := fun k hk hn => (hg.block k (by rw [World.size_alloc]; omega) fun e => hn e.symm).trans (Below.heap_alloc _ _ _ hk)
  have hs : Sta (NP N B W) W w5 := ⟨by have := hg.size; rw [World.size_alloc] at this; omega, fun k hk hn => keep k hk fun e => hn (hown' k e)⟩
  have hr : Ren (NP N B W) (NP N B w5) W := by
    rintro k (hk | ⟨hkB, C, fr, hk⟩)
    · exact .inl (.inl hk)
    · by_cases hlt : k < W.heap.size
      · by_cases e : v.ownBlock = some k
        · exact .inl (hown' k e)
        · exact .inl (.inr ⟨hkB, C, fr, by rw [← keep k hlt e]; exact hk⟩)
      · exact .inr (by omega)
  refine ⟨(hfr.sta hs hr).push (hfc.sta hs hr), ((Below.refl _ _).alloc hB _).grown hg (by simp; omega) fun k hk => (World.ownsRow.lt hown k hk).1⟩
theorem RF.ofP {N : Nat → Prop} {w : World} {B len cap : Nat} {a : Option Addr} {rs : List FR2} {l : Fls} (h : OwnP w B (.slice a len cap) rs) (hf : FRs N w rs l) (hN : ∀ k, N k → k < B) : RF N w a len l ∧ len = l.length := by
  rcases h.2 with ⟨h1, h2⟩ | ⟨g, c, cur, h1, h2, h3, h4, h5, h6, h7⟩
  · obtain ⟨e1, e2, e3⟩ := Value.slice.inj h1
    subst e2
    have : l = [] := List.eq_nil_of_length_eq_zero (by rw [← hf.ln]; exact h2)
    subst this
    exact ⟨RF.nil _ _ _, rfl⟩
  · obtain ⟨e1, e2, e3⟩ := Value.slice.inj h1
    subst e1 e2
    refine ⟨⟨hf.ln, .inr ⟨g, 0, rfl, (Array.getElem?_eq_some_iff.1 h3).1, fun hn => by have := hN g hn; omega, fun i f hi => ?_⟩⟩, hf.ln⟩
    have hil : i < rs.length := by rw [hf.ln]; exact (List.getElem?_eq_some_iff.1 hi).1
    have hr := List.getElem?_eq_getElem hil
    obtain ⟨c0, c1⟩ := fcells_get rs i _ hr
    refine ⟨_, _, ?_, ?_, hf.cel i _ f hr hi⟩
    · rw [cell_of_row w g _ cur _ _ h3, ← Array.getElem?_toList, Nat.zero_add, ← c0, ← h7, List.getElem?_take, if_pos (by omega)]
    · rw [cell_of_row w g _ cur _ _ h3, ← Array.getElem?_toList, Nat.zero_add, ← c1, ← h7, List.getElem?_take, if_pos (by omega)]
theorem wpList_pushP {w : World} {ops : Array Oper} {rest : List Oper} {o : Oper} {a : Act} {Q : Exit → Act → World → Prop} (hgd : o.guard = none) (s x : Operand)
    (ho : o.op = .call { callee := .builtin .append, args := #[s, x], argTypes := #[33, 33] })
    (B : Nat) (v : Value) (rs : List FR2) (r : FR2) (h1 : r.1.oneCell' = true) (h2 : r.2.oneCell' = true) (hs : a.eval s = v) (hown : OwnP w B v rs) (hB : B ≤ w.heap.size) (hx : a.eval x = .slice (some ⟨w.heap.size, 0, none⟩) 1 1)
    (hlen : rs.length + 1 ≤ 1000000000)
    (h : ∀ v' w', OwnP w' B v' (rs ++ [r]) → (w.alloc (.cells #[r.1, r.2] 46)).grownBy w' v.ownBlock → wpList Try.prog ops Q rest (a.put o.dst v') w') :
    wpList Try.prog ops Q (o :: rest) a (w.alloc (.cells #[r.1, r.2] 46)) := by
  obtain ⟨i0, hi, hz0, hz1, hz2⟩ := info_parts info_pair
  have hal : OwnP (w.alloc (.cells #[r.1, r.2] 46)) B v rs := World.ownsRow.alloc hown _
  refine wpList_append_own _ hgd s x 33 ho B 46 i0 _ 2 40 Try.underlying33 hi hz0 hz1 hz2 rfl (by decide) v rs.length (fcells rs) hs hal ⟨w.heap.size, 0, none⟩ 1 1 [r.1, r.2] hx rfl ?_ ?_ (by unfold maxLen; omega) (by omega) (by simp; omega) ?_
  · intro j u hj
    rw [Addr.add_mid, Nat.zero_add, cell_of_row _ _ _ _ _ _ (heap_new _ _)]
    simpa using hj
  · intro u hu
    simp only [List.mem_cons, List.not_mem_nil, or_false] at hu
    rcases hu with rfl | rfl
    · exact h1
    · exact h2
  · intro v' w' k1 k2 _
    refine h v' w' ?_ k2
    have e : (rs ++ [r]).length = rs.length + 1 := by simp
    unfold OwnP
    rw [e, fcells_append]
    exact k1
theorem run_pair_idx (W : World) (b o len cap i : Nat) (hi : i < len) : (Instr.indexAt 33 (.slice (some ⟨b, o, none⟩) len cap) (.int .i64 (i : Int))).run Try.prog W = .ok (.pointer (some ⟨b, o + 2 * i, none⟩)) W := by
  rw [run_indexAt_slice W 33 ⟨b, o, none⟩ len cap .i64 (i : Int) (by kernel_rfl)]
  have h1 : (0 : Int) ≤ (i : Int) ∧ (i : Int) < (len : Int) := by omega
  rw [if_pos h1, show (Go.sizeOf (Try.prog.elem 33)).run Try.prog W = .ok 2 W from by kernel_rfl]
  simp [Result.andThen, Addr.add, Nat.mul_comm]
/-- where a key stands, or would stand -/
def atP (l : Fls) (n : ByteArray) : Nat := (l.takeWhile fun x => decide (ltB x.1 n)).length
theorem atP_le : ∀ (l : Fls) (n : ByteArray), atP l n ≤ l.length
  | [], n => by simp [atP]
  | x :: l, n => by
    have := atP_le l n
    unfold atP at this ⊢
    rw [List.takeWhile_cons]
    split
    · rw [List.length_cons, List.length_cons]; exact Nat.succ_le_succ this
    · exact Nat.zero_le _
theorem atP_at : ∀ {l : Fls} {n : ByteArray} {k : Nat}, k ≤ l.length → (∀ j g, j < k → l[j]? = some g → ltB g.1 n) → (∀ g, l[k]? = some g → ¬ ltB g.1 n) → atP l n = k
  | [], n, k, hk, _, _ => by
    have : k = 0 := by simpa using hk
    subst this
    rfl
  | x :: l, n, 0, _, _, h => by
    unfold atP
    rw [List.takeWhile_cons, if_neg (by simpa using h x rfl)]
    rfl
  | x :: l, n, k + 1, hk, hj, h => by
    have := atP_at (l := l) (n := n) (k := k) (by simpa using hk) (fun j g hlt hg => hj (j + 1) g (by omega) hg) h
    unfold atP at this ⊢
    rw [List.takeWhile_cons, if_pos (by simpa using hj 0 x (by omega) rfl), List.length_cons, this]
set_option maxRecDepth 100000 in
set_option maxHeartbeats 4000000 in
theorem pfind_c {N : Nat → Prop} {w : World} {a : Option Addr} {len cap : Nat} {l : Fls} (h : RF N w a len l) (n : ByteArray) (hm : len ≤ 1000000000) :
    Calls Try.prog 14 #[.slice a len cap, .string n] w fun e w' => e = .returned (.int .i64 ((atP l n : Nat) : Int)) ∧ w' = w := by
  have HRF := Lib.hid h
  clear h
  go_enter Try.func14, Try.ntmps14
  go_wp2_with fail
  go_loopw [5] (fun i wr => ∃ k : Nat, k ≤ len ∧ i = .int .i64 k ∧ Hid (∀ j g, j < k → l[j]? = some g → ltB g.1 n) ∧ w = wr) (fun i _ => len - (intOf i).toNat)
  case atStart => exact ⟨0, Nat.zero_le _, rfl, Lib.hid (fun j g hj => absurd hj (Nat.not_lt_zero _)), rfl⟩
  case round =>
    obtain ⟨k, hk, rfl, HJ, rfl⟩ := hrel
    by_cases hkl : k < len
    · obtain ⟨b, o, f, ra, rn, rc, rfl, hb, hf, c0, c1, hrb⟩ := HRF.out.at hkl
      have hix := fun W => run_pair_idx W b o len cap k hkl
      have HF := Lib.hid hf
      clear hf hrb c1
      by_cases e : ltB f.1 n
      · have HE := Lib.hid e
        have hne := bl_true e
        clear e
        go_wp2_with fail
        go_roundw
        case rel => exact ⟨k + 1, by omega, by go_num, Lib.hid (fun j g hj hg => by
          by_cases hjk : j = k
          · subst hjk
            rw [HF.out] at hg
            cases hg
            exact HE.out
          · exact HJ.out j g (by omega) hg), by trivial⟩
        case measure => simp [intOf]; omega
      · have HR := Lib.hid (show atP l n = k from atP_at (by have := HRF.out.ln; omega) HJ.out fun g hg => by rw [HF.out] at hg; cases hg; exact e)
        have hne := bl_false e
        clear e
        go_wp2_with fail
        go_ret
        refine ⟨?_, rfl⟩
        rw [HR.out]; rfl
    · have HR := Lib.hid (show atP l n = k from atP_at (by have := HRF.out.ln; omega) HJ.out fun g hg => by
        have h1 := (List.getElem?_eq_some_iff.1 hg).1
        have h2 := HRF.out.ln
        omega)
      go_wp2_with fail
      go_ret
      refine ⟨?_, rfl⟩
      rw [HR.out]; rfl
end Go.Proofs.Ytihbgigledmliaa
