/-
  The table's isSound and encoded: a change as it stands in a record.
-/
import Derived.Test.YtihbgigledmliaaTxt
import Derived.Test.YtihbgigledmliaaPkb
import Derived.Laws.IdiomStrings
import Derived.Deep.CutBlock
import Derived.Deep.CutRange
import Derived.BigQuiet
import Derived.Great.BuildSlice
namespace Go.Proofs.Ytihbgigledmliaa
open Go.RowKit
set_option linter.unusedVariables false
/-- the bytes of a text -/
def strL (s : ByteArray) : List Nat := s.data.toList.map (·.toNat)
theorem strL_len (s : ByteArray) : (strL s).length = s.size := by unfold strL; rw [List.length_map, Array.length_toList]; rfl
theorem strL_byte (s : ByteArray) : ∀ z ∈ strL s, z < 256 := fun z hz => by
  obtain ⟨b, _, rfl⟩ := List.mem_map.1 hz
  exact b.toNat_lt
theorem wpList_toBytes {w : World} {ops : Array Oper} {rest : List Oper} {o : Oper} {a : Act} {Q : Exit → Act → World → Prop} (hgd : o.guard = none) (x : Operand)
    (ho : o.op = .convert 9 41 x) (s : ByteArray) (hx : a.eval x = .string s) (hs : s.size ≤ maxLen)
    (h : ∀ b c w', Rd w' (some ⟨b, 0, none⟩) s.size (strL s) → s.size ≤ c → w.heap.size ≤ b → Below w.heap.size w w' → wpList Try.prog ops Q rest (a.put o.dst (.slice (some ⟨b, 0, none⟩) s.size c)) w') : wpList Try.prog ops Q (o :: rest) a w := by
  refine wpList_plain hgd fun K hK => ?_
  have hr := run_bytes_of_string (P := Try.prog) w 9 41 5 s Try.underlying9 Try.underlying41 Try.underlying5
  unfold Oper.wp execOp
  simp only [ho, hx, Sem.run_bind, Result.andThen_ok, Sem.run_pure, hr]
  obtain ⟨w1, hw1⟩ : ∃ w1, w1 = w.drew := ⟨_, rfl⟩
  have hz : w.heap.size = w1.heap.size := by rw [hw1]; rfl
  have hbd : Below w.heap.size w w1 := by rw [hw1]; exact below_drewN' _ w 1
  rw [← hw1]
  refine hK _ _ (h _ _ _ ?_ (grownCap_ge _ _ _ _) (Nat.le_refl _) ?_)
  · refine ⟨strL_len s, strL_byte s, ?_⟩
    by_cases h0 : s.size = 0
    · exact .inl h0
    · refine .inr ⟨_, _, rfl, by rw [hz]; simp, fun i hi => ?_⟩
      rw [Nat.zero_add, hz, cell_of_row _ _ i _ _ _ (heap_alloc_new w1 _)]
      unfold bytesRow strL
      have hi' : i < s.data.size := hi
      rw [Array.getElem?_append_left (by simpa using hi'), Array.getElem?_map, Array.getElem?_eq_getElem hi']
      simp [List.getD, List.getElem?_map, Array.getElem?_toList, Array.getElem?_eq_getElem hi']
  · rw [hz] at hbd ⊢
    exact hbd.trans ((Below.refl _ _).alloc (Nat.le_refl _) _)
def soundC (key : ByteArray) (vn : Nat) : Bool := decide (1 ≤ key.size) && decide (key.size ≤ 320) && decide (vn ≤ 262144)
set_option maxRecDepth 100000 in
set_option maxHeartbeats 2000000 in
theorem sound_c (key : ByteArray) (gone : Bool) (va : Option Addr) (vn vc : Nat) (w : World) (hk : key.size ≤ maxLen) :
    Calls Try.prog 38 #[.agg #[.string key, .bool gone, .slice va vn vc]] w fun e w' => e = .returned (.bool (soundC key vn)) ∧ Below w.heap.size w w' := by
  obtain ⟨w1, hw1⟩ : ∃ w1, w1 = w.alloc (.cells #[.string key, .bool gone, .slice va vn vc] 65) := ⟨_, rfl⟩
  have hb1 : Below w.heap.size w w1 := by rw [hw1]; exact (Below.refl _ _).alloc (Nat.le_refl _) _
  obtain ⟨X, hX⟩ : ∃ X, X = w.heap.size := ⟨_, rfl⟩
  have hrow : w1.heap[X]? = some (.cells #[.string key, .bool gone, .slice va vn vc] 65 (0, 0)) := by rw [hw1, hX]; exact heap_alloc_new w _
  have y0 : w1.cell? ⟨X, 0, none⟩ = some (.string key) := (cell_of_row w1 X 0 _ _ _ hrow).trans rfl
  have y2 : w1.cell? ⟨X, 2, none⟩ = some (.slice va vn vc) := (cell_of_row w1 X 2 _ _ _ hrow).trans rfl
  have HB := Lib.hid hb1
  clear hrow hb1
  unfold soundC
  by_cases h1 : 1 ≤ key.size
  · have i1 : (1 : Int) ≤ (key.size : Int) := by omega
    have j1 : decide (1 ≤ key.size) = true := decide_eq_true h1
    by_cases h2 : key.size ≤ 320
    · have i2 : (key.size : Int) ≤ 320 := by omega
      have j2 : decide (key.size ≤ 320) = true := decide_eq_true h2
      by_cases h3 : vn ≤ 262144
      · have i3 : (vn : Int) ≤ 262144 := by omega
        have i3' : decide ((vn : Int) ≤ 262144) = true := decide_eq_true i3
        have j3 : decide (vn ≤ 262144) = true := decide_eq_true h3
        rw [j1, j2, j3]
        clear j1 j2 j3
        go_enter Try.func38, Try.ntmps38
        go_upto_region 1 with fail
        rw [← hX, ← hw1]
        clear hX hw1
        go_wp2_with fail
        go_ret
        exact ⟨rfl, HB.out⟩
      · have i3 : ¬ (vn : Int) ≤ 262144 := by omega
        have i3' : decide ((vn : Int) ≤ 262144) = false := decide_eq_false i3
        have j3 : decide (vn ≤ 262144) = false := decide_eq_false h3
        rw [j1, j2, j3]
        clear j1 j2 j3
        go_enter Try.func38, Try.ntmps38
        go_upto_region 1 with fail
        rw [← hX, ← hw1]
        clear hX hw1
        go_wp2_with fail
        go_ret
        exact ⟨rfl, HB.out⟩
    · have i2 : ¬ (key.size : Int) ≤ 320 := by omega
      have j2 : decide (key.size ≤ 320) = false := decide_eq_false h2
      rw [j1, j2]
      clear j1 j2
      go_enter Try.func38, Try.ntmps38
      go_upto_region 1 with fail
      rw [← hX, ← hw1]
      clear hX hw1
      go_wp2_with fail
      go_ret
      exact ⟨rfl, HB.out⟩
  · have i1 : ¬ (1 : Int) ≤ (key.size : Int) := by omega
    have j1 : decide (1 ≤ key.size) = false := decide_eq_false h1
    rw [j1]
    clear j1
    go_enter Try.func38, Try.ntmps38
    go_upto_region 1 with fail
    rw [← hX, ← hw1]
    clear hX hw1
    go_wp2_with fail
    go_ret
    exact ⟨rfl, HB.out⟩
theorem own_some {w : World} {B : Nat} {v : Value} {zs : List Nat} (h : Own w B v zs) (hz : ∀ z ∈ zs, z < 256) (h0 : 0 < zs.length) : ∃ g c, v = .slice (some ⟨g, 0, none⟩) zs.length c ∧ B ≤ g ∧ g < w.heap.size ∧ Rd w (some ⟨g, 0, none⟩) zs.length zs ∧ zs.length ≤ c ∧ c ≤ 9223372036854775807 := by
  rcases h.2 with ⟨_, h1⟩ | ⟨g, cap, cur, rfl, hb, hg, hn, hm, _⟩
  · omega
  · obtain ⟨a, c, e, e1, e2, e3⟩ := h.rd hz
    obtain ⟨rfl, _, rfl⟩ := Value.slice.inj e
    exact ⟨g, _, rfl, hb, (Array.getElem?_eq_some_iff.1 hg).1, e3, e1, e2⟩
theorem own_rd {w : World} {B g n c : Nat} {zs : List Nat} (h : Own w B (.slice (some ⟨g, 0, none⟩) n c) zs) (hz : ∀ z ∈ zs, z < 256) : Rd w (some ⟨g, 0, none⟩) n zs := by
  obtain ⟨a, c', e, e1, e2, e3⟩ := h.rd hz
  obtain ⟨rfl, rfl, rfl⟩ := Value.slice.inj e
  exact e3
theorem own_lay (w : World) (n : Nat) : Own (w.alloc (.cells #[.int .u8 (n : Int)] 5)) w.heap.size (.slice (some ⟨w.heap.size, 0, none⟩) 1 1) [n] := World.ownsRow_lit w #[.int .u8 (n : Int)] 1 (Nat.le_refl _) (by unfold maxLen; omega) rfl
theorem own_mono {w : World} {B C : Nat} {v : Value} {zs : List Nat} (h : Own w B v zs) (hC : C ≤ B) : Own w C v zs := ⟨h.1, h.2.imp id fun ⟨g, cap, cur, e1, e2, e3⟩ => ⟨g, cap, cur, e1, Nat.le_trans hC e2, e3⟩⟩
section
variable {P : Program} {ops : Array Oper} {Q : Exit → Act → World → Prop} {md : Region.Mode} {S : World → Prop}
theorem anyH_twoT (i j : Nat) {d1 d2 : Option Tmp} {op1 op2 : Op} {fuel : Nat} {listed : Array Bool} {a : Act} {w : World}
    (h0 : Region.ready md ops listed = [i, j]) (hi : (ops[i]?.map fun o => (o.dst, o.op, o.guard)) = some (d1, op1, none)) (hj : (ops[j]?.map fun o => (o.dst, o.op, o.guard)) = some (d2, op2, none))
    (h1 : ∀ o : Oper, o.dst = d1 → o.op = op1 → o.wp P a w (fun a w => S w ∧ wpAnyH P md ops Q S fuel (listed.setIfInBounds i true) a w) Q)
    (h2 : ∀ o : Oper, o.dst = d2 → o.op = op2 → o.wp P a w (fun a w => S w ∧ wpAnyH P md ops Q S fuel (listed.setIfInBounds j true) a w) Q) : wpAnyH P md ops Q S (fuel + 1) listed a w := by
  refine wpAnyH_all h0 (by simp) ?_
  intro k hk
  simp only [List.mem_cons, List.not_mem_nil, or_false] at hk
  rcases hk with rfl | rfl
  · cases ho : ops[k]? with
    | none => simp [ho] at hi
    | some o =>
      simp only [ho, Option.map_some, Option.some.injEq, Prod.mk.injEq] at hi
      obtain ⟨g1, g2, g3⟩ := hi
      unfold wpOp
      simp only [ho, wanted_plain g3, if_true]
      exact .inl (h1 o g1 g2)
  · cases ho : ops[k]? with
    | none => simp [ho] at hj
    | some o =>
      simp only [ho, Option.map_some, Option.some.injEq, Prod.mk.injEq] at hj
      obtain ⟨g1, g2, g3⟩ := hj
      unfold wpOp
      simp only [ho, wanted_plain g3, if_true]
      exact .inl (h2 o g1 g2)
theorem anyH_oneT (i : Nat) {d1 : Option Tmp} {op1 : Op} {fuel : Nat} {listed : Array Bool} {a : Act} {w : World}
    (h0 : Region.ready md ops listed = [i]) (hi : (ops[i]?.map fun o => (o.dst, o.op, o.guard)) = some (d1, op1, none))
    (h1 : ∀ o : Oper, o.dst = d1 → o.op = op1 → o.wp P a w (fun a w => S w ∧ wpAnyH P md ops Q S fuel (listed.setIfInBounds i true) a w) Q) : wpAnyH P md ops Q S (fuel + 1) listed a w := by
  refine wpAnyH_all h0 (by simp) ?_
  intro k hk
  simp only [List.mem_cons, List.not_mem_nil, or_false] at hk
  subst hk
  cases ho : ops[k]? with
  | none => simp [ho] at hi
  | some o =>
    simp only [ho, Option.map_some, Option.some.injEq, Prod.mk.injEq] at hi
    obtain ⟨g1, g2, g3⟩ := hi
    unfold wpOp
    simp only [ho, wanted_plain g3, if_true]
    exact .inl (h1 o g1 g2)
/-- a call, at its operation -/
theorem wp_callT {f : FuncId} {xs : Array Operand} {ts : Array TypeId} {vs : Array Value} {o : Oper} {a : Act} {w : World} {K : Act → World → Prop} {R : Ending → World → Prop}
    (ho : o.op = .call { callee := .value (.func f), args := xs, argTypes := ts }) (hx : xs.map a.eval = vs) (hf : (callFunc f vs).run P w = .ok (.enter f vs) w) (hc : Calls P f vs w R)
    (h : ∀ e w', R e w' → ∃ v, e = .returned v ∧ K (a.put o.dst v) w') : o.wp P a w K Q := by
  have hr : (execOp a.eval o).run P w = .ok (.enter f vs) w := by
    unfold execOp
    rw [ho]
    simp [resolve, invoke, hx, Act.eval, go_sem, hf]
  unfold Oper.wp
  rw [hr]
  refine hc.mono fun e w' hR => ?_
  obtain ⟨v, rfl, hv⟩ := h e w' hR
  exact hv
end
theorem wp_layT {w : World} {o : Oper} {a : Act} {K : Act → World → Prop} {Q : Exit → Act → World → Prop} (x : Operand) (ho : o.op = .buildSlice 41 1 #[(0, x)])
    (n : Nat) (hx : a.eval x = .int .u8 (n : Int))
    (h : K (a.put o.dst (.slice (some ⟨w.heap.size, 0, none⟩) 1 1)) (w.alloc (.cells #[.int .u8 (n : Int)] 5))) : o.wp Try.prog a w K Q := by
  obtain ⟨i0, hi, hz0, hz1, hz2⟩ := info_parts byteInfo
  exact wp_buildSlice 41 5 1 _ ho #[.int .u8 (n : Int)] i0 (.int .u8 0) Try.underlying41 hi hz0 (by rw [hz1]; omega) (by rw [hz1]; omega) (by rw [hz1]; simp only [List.map_toArray, List.map_cons, List.map_nil, hx]; simp [Instr.fill, Value.cells]; first | rfl | exact Array.ext (by simp) (fun i h1 h2 => by (have h3 : i = 0 := by (simp at h2; omega)); subst h3; simp)) h
theorem wp_catT {w : World} {o : Oper} {a : Act} {K : Act → World → Prop} {Q : Exit → Act → World → Prop} (s x : Operand)
    (ho : o.op = .call { callee := .builtin .append, args := #[s, x], argTypes := #[41, 41] })
    (B : Nat) (v : Value) (zs ys : List Nat) (hs : a.eval s = v) (hown : Own w B v zs) (hB : B ≤ w.heap.size) (ad : Addr) (len cap : Nat) (hx : a.eval x = .slice (some ad) len cap)
    (hrd : Rd w (some ad) len ys) (hlen : zs.length + ys.length ≤ 140737488355328)
    (h : ∀ v' w', Own w' B v' (zs ++ ys) → w.grownBy w' v.ownBlock → Below B w w' → K (a.put o.dst v') w') : o.wp Try.prog a w K Q := by
  obtain ⟨i0, hi, hz0, hz1, hz2⟩ := info_parts byteInfo
  obtain ⟨hl, hz, hc⟩ := hrd
  refine wp_append_own _ s x 41 ho B 5 i0 (.int .u8 0) 1 1 Try.underlying41 hi hz0 hz1 hz2 rfl (by decide) v zs.length (cellsOf zs) hs hown ad len cap (cellsOf ys) hx (by rw [cellsOf_length, hl, Nat.mul_one]) ?_ (cellsOf_one _) (by unfold maxLen; omega) (by omega) hB ?_
  · intro j u hj
    have hjl : j < ys.length := by
      have := (List.getElem?_eq_some_iff.1 hj).1
      rwa [cellsOf_length] at this
    rw [cellsOf_get ys j hjl] at hj
    cases hj
    rcases hc with h0 | ⟨b, off, hb, _, hcell⟩
    · omega
    · cases hb
      have hcj := hcell j (by omega)
      rw [show Addr.add ⟨b, off, none⟩ j = ⟨b, off + j, none⟩ by simp [Addr.add]]
      exact hcj
  · intro v' w' h1 h2 _
    refine h v' w' ?_ h2 ?_
    · unfold Own
      rw [List.length_append, cellsOf_append, hl]
      exact h1
    · exact (Below.refl B w).grown h2 hB fun k hk => (hown.lt k hk).1
/-- a change as it stands in a record -/
def chgB (key : ByteArray) (gone : Bool) (val : List Nat) : List Nat := if gone then 0 :: (Cntm.cnt key.size ++ strL key) else 1 :: (Cntm.cnt key.size ++ strL key) ++ (Cntm.cnt val.length ++ val)
set_option maxRecDepth 100000 in
set_option maxHeartbeats 4000000 in
theorem encoded_true (key : ByteArray) (va : Option Addr) (vn vc : Nat) (val : List Nat) (w : World) (hk : key.size ≤ 400) (hv : Rd w va vn val) (hnil : va = none → vc = 0) (hvm : vn ≤ 300000) :
    Calls Try.prog 39 #[.agg #[.string key, .bool true, .slice va vn vc]] w (RetB w.heap.size w (chgB key true val)) := by
  obtain ⟨w1, hw1⟩ : ∃ w1, w1 = w.alloc (.cells #[.string key, .bool true, .slice va vn vc] 65) := ⟨_, rfl⟩
  have hb1 : Below w.heap.size w w1 := by rw [hw1]; exact (Below.refl _ _).alloc (Nat.le_refl _) _
  obtain ⟨X, hX⟩ : ∃ X, X = w.heap.size := ⟨_, rfl⟩
  have hrow : w1.heap[X]? = some (.cells #[.string key, .bool true, .slice va vn vc] 65 (0, 0)) := by rw [hw1, hX]; exact heap_alloc_new w _
  have hXl : X < w1.heap.size := (Array.getElem?_eq_some_iff.1 hrow).1
  have y0 : w1.cell? ⟨X, 0, none⟩ = some (.string key) := (cell_of_row w1 X 0 _ _ _ hrow).trans rfl
  have y1 : w1.cell? ⟨X, 1, none⟩ = some (.bool true) := (cell_of_row w1 X 1 _ _ _ hrow).trans rfl
  have y2 : w1.cell? ⟨X, 2, none⟩ = some (.slice va vn vc) := (cell_of_row w1 X 2 _ _ _ hrow).trans rfl
  have hvl := hv.1
  have HB := Lib.hid hb1
  have HXL := Lib.hid hXl
  have hmx : key.size ≤ maxLen := by unfold maxLen; omega
  have HTV := Lib.hid (fun W (hW : Below w.heap.size w W) => text_c va vn vc val W (hv.below hW) hnil (by omega))
  have HVB := Lib.hid (show ∀ z ∈ Cntm.cnt vn ++ val, z < 256 from fun z hz => (List.mem_append.1 hz).elim (Cntm.cnt_byte _ z) (hv.2.1 z))
  have HVL := Lib.hid (show 0 < (Cntm.cnt vn ++ val).length from by
    have h := Cntm.cnt_ne vn
    rw [List.length_append]
    cases h2 : Cntm.cnt vn with
    | nil => exact absurd h2 h
    | cons a l => simp; omega)
  have HVM := Lib.hid (show (Cntm.cnt vn ++ val).length ≤ 400000 from by
    have := Cntm.cnt_len10 vn (by omega)
    rw [List.length_append]; omega)
  have HE := Lib.hid (show chgB key true val = if true then 0 :: (Cntm.cnt key.size ++ strL key) else 1 :: (Cntm.cnt key.size ++ strL key) ++ (Cntm.cnt vn ++ val) from by unfold chgB; rw [hvl])
  rw [HE.out]
  obtain ⟨VZ, hVZ⟩ : ∃ VZ, VZ = Cntm.cnt vn ++ val := ⟨_, rfl⟩
  rw [← hVZ] at HTV HVB HVL HVM ⊢
  have HKB := Lib.hid (show ∀ z ∈ Cntm.cnt key.size ++ strL key, z < 256 from fun z hz => (List.mem_append.1 hz).elim (Cntm.cnt_byte _ z) (strL_byte key z))
  have HKP := Lib.hid (show 0 < (Cntm.cnt key.size ++ strL key).length from by
    have h := Cntm.cnt_ne key.size
    rw [List.length_append]
    cases h2 : Cntm.cnt key.size with
    | nil => exact absurd h2 h
    | cons a l => simp; omega)
  have HKL := Lib.hid (show (Cntm.cnt key.size ++ strL key).length ≤ 500 from by
    have := Cntm.cnt_len10 key.size (by omega)
    rw [List.length_append, strL_len]; omega)
  have HTK := Lib.hid (fun (kb kc : Nat) W (hr : Rd W (some ⟨kb, 0, none⟩) key.size (strL key)) => text_c (some ⟨kb, 0, none⟩) key.size kc (strL key) W hr (fun e => by cases e) (by omega))
  obtain ⟨KZ, hKZ⟩ : ∃ KZ, KZ = Cntm.cnt key.size ++ strL key := ⟨_, rfl⟩
  rw [← hKZ] at HTK HKB HKL HKP ⊢
  have HXE := Lib.hid hX
  clear hb1 hrow hXl hv hnil hvm hvl HE hVZ hKZ hk
  go_enter Try.func39, Try.ntmps39
  go_upto_region 1 with fail
  rw [← hX, ← hw1]
  clear hX hw1
  go_wp2_with (refine wpList_toBytes rfl _ rfl key rfl hmx ?_; intro kb kc w2 hkr hkc hkb hb2)
  refine (HTK.out kb kc w2 hkr).mono ?_
  rintro e3 w3 ⟨v3, rfl, ho3, hb3⟩
  obtain ⟨kg, kc3, rfl, hkg1, hkg2, hkr3, -, -⟩ := own_some ho3 HKB.out HKP.out
  have HKR3 := Lib.hid hkr3
  have hb13 : Below w1.heap.size w1 w3 := hb2.trans (hb3.mono hb2.size)
  have HW3 := Lib.hid (show Below w.heap.size w w3 from HB.out.trans (hb13.mono HB.out.size))
  replace y1 : w3.cell? ⟨X, 1, none⟩ = some (.bool true) := (hb13.cell (p := ⟨X, 1, none⟩) HXL.out).trans y1
  replace y2 : w3.cell? ⟨X, 2, none⟩ = some (.slice va vn vc) := (hb13.cell (p := ⟨X, 2, none⟩) HXL.out).trans y2
  replace HXL := Lib.hid (Nat.lt_of_lt_of_le HXL.out hb13.size)
  clear y0 hkr hkc hkb hb2 hb3 hb13 ho3 hkr3 HTK HB
  have hsz : w3.heap.size ≤ (w3.alloc (.cells #[.int .u8 ((0 : Nat) : Int)] 5)).heap.size := by simp
  have HAL := Lib.hid (show Below w3.heap.size w3 (w3.alloc (.cells #[.int .u8 ((0 : Nat) : Int)] 5)) from (Below.refl _ _).alloc (Nat.le_refl _) _)
  have HKR4 := Lib.hid (HKR3.out.below HAL.out)
  have hkl : [0].length + KZ.length ≤ 140737488355328 := by have := HKL.out; simp; omega
  go_wp2_with (at_builtin; refine wpList_cat rfl _ _ rfl w3.heap.size (.slice (some ⟨w3.heap.size, 0, none⟩) 1 1) [0] KZ rfl (own_lay w3 0) hsz (some ⟨kg, 0, none⟩) KZ.length kc3 rfl HKR4.out (fun e => by cases e) hkl ?_; intro v5 w5 ho5 hb5)
  go_ret
  rw [HXE.out]
  exact ⟨_, rfl, own_mono (by simpa using ho5) HW3.out.size, HW3.out.trans ((HAL.out.mono HW3.out.size).trans (hb5.mono HW3.out.size))⟩
set_option maxRecDepth 100000 in
set_option maxHeartbeats 4000000 in
theorem encoded_false (key : ByteArray) (va : Option Addr) (vn vc : Nat) (val : List Nat) (w : World) (hk : key.size ≤ 400) (hv : Rd w va vn val) (hnil : va = none → vc = 0) (hvm : vn ≤ 300000) :
    Calls Try.prog 39 #[.agg #[.string key, .bool false, .slice va vn vc]] w (RetB w.heap.size w (chgB key false val)) := by
  obtain ⟨w1, hw1⟩ : ∃ w1, w1 = w.alloc (.cells #[.string key, .bool false, .slice va vn vc] 65) := ⟨_, rfl⟩
  have hb1 : Below w.heap.size w w1 := by rw [hw1]; exact (Below.refl _ _).alloc (Nat.le_refl _) _
  obtain ⟨X, hX⟩ : ∃ X, X = w.heap.size := ⟨_, rfl⟩
  have hrow : w1.heap[X]? = some (.cells #[.string key, .bool false, .slice va vn vc] 65 (0, 0)) := by rw [hw1, hX]; exact heap_alloc_new w _
  have hXl : X < w1.heap.size := (Array.getElem?_eq_some_iff.1 hrow).1
  have y0 : w1.cell? ⟨X, 0, none⟩ = some (.string key) := (cell_of_row w1 X 0 _ _ _ hrow).trans rfl
  have y1 : w1.cell? ⟨X, 1, none⟩ = some (.bool false) := (cell_of_row w1 X 1 _ _ _ hrow).trans rfl
  have y2 : w1.cell? ⟨X, 2, none⟩ = some (.slice va vn vc) := (cell_of_row w1 X 2 _ _ _ hrow).trans rfl
  have hvl := hv.1
  have HB := Lib.hid hb1
  have HXL := Lib.hid hXl
  have hmx : key.size ≤ maxLen := by unfold maxLen; omega
  have HTV := Lib.hid (fun W (hW : Below w.heap.size w W) => text_c va vn vc val W (hv.below hW) hnil (by omega))
  have HVB := Lib.hid (show ∀ z ∈ Cntm.cnt vn ++ val, z < 256 from fun z hz => (List.mem_append.1 hz).elim (Cntm.cnt_byte _ z) (hv.2.1 z))
  have HVL := Lib.hid (show 0 < (Cntm.cnt vn ++ val).length from by
    have h := Cntm.cnt_ne vn
    rw [List.length_append]
    cases h2 : Cntm.cnt vn with
    | nil => exact absurd h2 h
    | cons a l => simp; omega)
  have HVM := Lib.hid (show (Cntm.cnt vn ++ val).length ≤ 400000 from by
    have := Cntm.cnt_len10 vn (by omega)
    rw [List.length_append]; omega)
  have HE := Lib.hid (show chgB key false val = if false then 0 :: (Cntm.cnt key.size ++ strL key) else 1 :: (Cntm.cnt key.size ++ strL key) ++ (Cntm.cnt vn ++ val) from by unfold chgB; rw [hvl])
  rw [HE.out]
  obtain ⟨VZ, hVZ⟩ : ∃ VZ, VZ = Cntm.cnt vn ++ val := ⟨_, rfl⟩
  rw [← hVZ] at HTV HVB HVL HVM ⊢
  have HKB := Lib.hid (show ∀ z ∈ Cntm.cnt key.size ++ strL key, z < 256 from fun z hz => (List.mem_append.1 hz).elim (Cntm.cnt_byte _ z) (strL_byte key z))
  have HKP := Lib.hid (show 0 < (Cntm.cnt key.size ++ strL key).length from by
    have h := Cntm.cnt_ne key.size
    rw [List.length_append]
    cases h2 : Cntm.cnt key.size with
    | nil => exact absurd h2 h
    | cons a l => simp; omega)
  have HKL := Lib.hid (show (Cntm.cnt key.size ++ strL key).length ≤ 500 from by
    have := Cntm.cnt_len10 key.size (by omega)
    rw [List.length_append, strL_len]; omega)
  have HTK := Lib.hid (fun (kb kc : Nat) W (hr : Rd W (some ⟨kb, 0, none⟩) key.size (strL key)) => text_c (some ⟨kb, 0, none⟩) key.size kc (strL key) W hr (fun e => by cases e) (by omega))
  obtain ⟨KZ, hKZ⟩ : ∃ KZ, KZ = Cntm.cnt key.size ++ strL key := ⟨_, rfl⟩
  rw [← hKZ] at HTK HKB HKL HKP ⊢
  have HXE := Lib.hid hX
  clear hb1 hrow hXl hv hnil hvm hvl HE hVZ hKZ hk
  go_enter Try.func39, Try.ntmps39
  go_upto_region 1 with fail
  rw [← hX, ← hw1]
  clear hX hw1
  go_wp2_with (refine wpList_toBytes rfl _ rfl key rfl hmx ?_; intro kb kc w2 hkr hkc hkb hb2)
  refine (HTK.out kb kc w2 hkr).mono ?_
  rintro e3 w3 ⟨v3, rfl, ho3, hb3⟩
  obtain ⟨kg, kc3, rfl, hkg1, hkg2, hkr3, -, -⟩ := own_some ho3 HKB.out HKP.out
  have HKR3 := Lib.hid hkr3
  have hb13 : Below w1.heap.size w1 w3 := hb2.trans (hb3.mono hb2.size)
  have HW3 := Lib.hid (show Below w.heap.size w w3 from HB.out.trans (hb13.mono HB.out.size))
  replace y1 : w3.cell? ⟨X, 1, none⟩ = some (.bool false) := (hb13.cell (p := ⟨X, 1, none⟩) HXL.out).trans y1
  replace y2 : w3.cell? ⟨X, 2, none⟩ = some (.slice va vn vc) := (hb13.cell (p := ⟨X, 2, none⟩) HXL.out).trans y2
  replace HXL := Lib.hid (Nat.lt_of_lt_of_le HXL.out hb13.size)
  clear y0 hkr hkc hkb hb2 hb3 hb13 ho3 hkr3 HTK HB
  go_upto_region 4 with fail
  obtain ⟨W0, hW0⟩ : ∃ W0, W0 = World.drew w3 := ⟨_, rfl⟩
  have hb90 : Below w3.heap.size w3 W0 := by rw [hW0]; exact below_drewN' _ w3 1
  have HW0 := Lib.hid (show Below w.heap.size w W0 from HW3.out.trans (hb90.mono HW3.out.size))
  have HKR := Lib.hid (show Rd W0 (some ⟨kg, 0, none⟩) KZ.length KZ from HKR3.out.below hb90)
  have x2 : W0.cell? ⟨X, 2, none⟩ = some (.slice va vn vc) := (hb90.cell (p := ⟨X, 2, none⟩) HXL.out).trans y2
  have HL := Lib.hid (show ∀ W, W.cell? ⟨X, 2, none⟩ = some (.slice va vn vc) → (Instr.loadAt 41 (.pointer (some ⟨X, 2, none⟩))).run Try.prog W = .ok (.slice va vn vc) W from fun W hW => by go_simp)
  have HXC := Lib.hid (fun W (hW : Below W0.heap.size W0 W) => (hW.cell (p := ⟨X, 2, none⟩) (Nat.lt_of_lt_of_le HXL.out hb90.size)).trans x2)
  have k0 : Below W0.heap.size W0 W0 := Below.refl _ _
  clear hb90
  refine anyH_begin (S := fun W => W.cell? ⟨X, 2, none⟩ = some (.slice va vn vc)) (by kernel_rfl) ?_
  rw [← hW0]
  clear hW0
  refine anyH_pureG 1 (d := 14) (op := .move (.tmp 3)) (gd := none) (.slice (some ⟨kg, 0, none⟩) KZ.length kc3) (by rfl) (fun o ho => wanted_plain ho _) (by kernel_rfl) (by kernel_rfl) (by kernel_rfl) (fun _ _ _ h => h) (fun o ho W hW => by unfold execOp; simp only [ho]; go_simp) x2 ?_
  simp only [Act.put, List.setIfInBounds_toArray, List.set_cons_zero, List.set_cons_succ]
  refine anyH_pureG 3 (d := 16) (op := .fieldAddr 65 (.tmp 1) 2) (gd := none) (.pointer (some ⟨X, 2, none⟩)) (by rfl) (fun o ho => wanted_plain ho _) (by kernel_rfl) (by kernel_rfl) (by kernel_rfl) (fun _ _ _ h => h) (fun o ho W hW => by unfold execOp; simp only [ho]; go_simp) x2 ?_
  simp only [Act.put, List.setIfInBounds_toArray, List.set_cons_zero, List.set_cons_succ]
  refine anyH_loadG 4 (d := 17) (ty := 41) (x := (.tmp 16)) (gd := none) (p := .pointer (some ⟨X, 2, none⟩)) (.slice va vn vc) (by rfl) (fun o ho => wanted_plain ho _) (by kernel_rfl) (by kernel_rfl) (by kernel_rfl) (fun _ _ _ h => h) (by rfl) HL.out x2 ?_
  simp only [Act.put, List.setIfInBounds_toArray, List.set_cons_zero, List.set_cons_succ]
  refine anyH_oneT 0 (d1 := some 13) (op1 := .buildSlice 41 1 #[(0, (.const (.int .u8 1)))]) (by kernel_rfl) (by rfl) ?_
  intro o hod hoo
  refine wp_layT (.const (.int .u8 1)) hoo 1 (by rfl) ?_
  rw [hod]
  simp only [Act.put, List.setIfInBounds_toArray, List.set_cons_zero, List.set_cons_succ]
  obtain ⟨w5, hw5⟩ : ∃ w5, w5 = W0.alloc (.cells #[.int .u8 ((1 : Nat) : Int)] 5) := ⟨_, rfl⟩
  have hb5 : Below W0.heap.size W0 w5 := by rw [hw5]; exact (Below.refl _ _).alloc (Nat.le_refl _) _
  have ho5 : Own w5 W0.heap.size (.slice (some ⟨W0.heap.size, 0, none⟩) 1 1) [1] := by rw [hw5]; exact own_lay _ 1
  have hz5 : w5.heap.size = W0.heap.size + 1 := by rw [hw5]; simp
  rw [← hw5]
  clear hw5
  have k5 : Below W0.heap.size W0 w5 := k0.trans (hb5.mono k0.size)
  refine ⟨HXC.out _ k5, ?_⟩
  refine anyH_oneT 2 (d1 := some 15) (op1 := .call { callee := .builtin .append, args := #[(.tmp 13), (.tmp 14)], argTypes := #[41, 41] }) (by kernel_rfl) (by rfl) ?_
  intro o hod hoo
  refine wp_catT (.tmp 13) (.tmp 14) hoo W0.heap.size (.slice (some ⟨W0.heap.size, 0, none⟩) 1 1) [1] KZ (by rfl) ho5 (by omega) ⟨kg, 0, none⟩ KZ.length kc3 (by rfl) (HKR.out.below hb5) (by have := HKL.out; have := HVM.out; simp only [List.length_append, List.length_cons, List.length_nil]; omega) ?_
  intro v6 w6 ho6 hg6 hb6
  rw [hod]
  simp only [Act.put, List.setIfInBounds_toArray, List.set_cons_zero, List.set_cons_succ]
  have k6 : Below W0.heap.size W0 w6 := k5.trans (hb6.mono (Nat.le_refl _))
  refine ⟨HXC.out _ k6, ?_⟩
  refine anyH_oneT 5 (d1 := some 18) (op1 := .call { callee := .value (.func 54), args := #[(.tmp 17)], argTypes := #[41] }) (by kernel_rfl) (by rfl) ?_
  intro o hod hoo
  refine wp_callT hoo (vs := #[.slice va vn vc]) (by go_simp) (by go_simp) (HTV.out w6 (HW0.out.trans (k6.mono HW0.out.size))) ?_
  rintro e7 w7 ⟨t7, rfl, ho7, hb7⟩
  refine ⟨_, rfl, ?_⟩
  rw [hod]
  simp only [Act.put, List.setIfInBounds_toArray, List.set_cons_zero, List.set_cons_succ]
  obtain ⟨tg, tc, rfl, htg1, htg2, htr, htc, -⟩ := own_some ho7 HVB.out HVL.out
  have k7 : Below W0.heap.size W0 w7 := k6.trans (hb7.mono k6.size)
  refine ⟨HXC.out _ k7, ?_⟩
  refine anyH_oneT 6 (d1 := some 19) (op1 := .call { callee := .builtin .append, args := #[(.tmp 15), (.tmp 18)], argTypes := #[41, 41] }) (by kernel_rfl) (by rfl) ?_
  intro o hod hoo
  refine wp_catT (.tmp 15) (.tmp 18) hoo W0.heap.size (v6) ([1] ++ KZ) VZ (by rfl) (ho6.keep hb7) (by have := hb6.size; have := hb7.size; omega) ⟨tg, 0, none⟩ VZ.length tc (by rfl) htr (by have := HKL.out; have := HVM.out; simp only [List.length_append, List.length_cons, List.length_nil]; omega) ?_
  intro v8 w8 ho8 hg8 hb8
  rw [hod]
  simp only [Act.put, List.setIfInBounds_toArray, List.set_cons_zero, List.set_cons_succ]
  have k8 : Below W0.heap.size W0 w8 := k7.trans (hb8.mono (Nat.le_refl _))
  refine ⟨HXC.out _ k8, ?_⟩
  refine anyH_pureG 7 (d := 2) (op := .assign (.tmp 19)) (gd := none) (v8) (by rfl) (fun o ho => wanted_plain ho _) (by kernel_rfl) (by kernel_rfl) (by kernel_rfl) (fun _ _ _ h => h) (fun o ho W hW => by unfold execOp; simp only [ho]; go_simp) (HXC.out _ k8) ?_
  simp only [Act.put, List.setIfInBounds_toArray, List.set_cons_zero, List.set_cons_succ]
  refine wpAnyH_done (by kernel_rfl) ?_ _
  have HF := Lib.hid (show RetB w.heap.size w (1 :: KZ ++ VZ) (.returned v8) w8 from ⟨_, rfl, own_mono (by simpa using ho8) HW0.out.size, HW0.out.trans (k8.mono HW0.out.size)⟩)
  go_wp2_with fail
  go_ret
  rw [HXE.out]
  exact HF.out
theorem encoded_c (key : ByteArray) (gone : Bool) (va : Option Addr) (vn vc : Nat) (val : List Nat) (w : World) (hk : key.size ≤ 400) (hv : Rd w va vn val) (hnil : va = none → vc = 0) (hvm : vn ≤ 300000) :
    Calls Try.prog 39 #[.agg #[.string key, .bool gone, .slice va vn vc]] w (RetB w.heap.size w (chgB key gone val)) := by
  cases gone
  · exact encoded_false key va vn vc val w hk hv hnil hvm
  · exact encoded_true key va vn vc val w hk hv hnil hvm
end Go.Proofs.Ytihbgigledmliaa
