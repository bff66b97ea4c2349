/-
  The walks over to, from and cut of layer 3's laws.
-/
import Derived.Test.YtlnblfdddellmaaDoorAwt
namespace Go.Proofs.YtlnblfdddellmaaDoor
open Go.RowKit
set_option linter.unusedVariables false
set_option maxRecDepth 100000 in
set_option maxHeartbeats 2000000 in
theorem to_c (n : Nat) (ds : Ds) (a : Option Addr) (cap : Nat) (w : World) (hr : DR w a n ds) (hnm : n ≤ 4398046511103) :
    Calls Tryd.prog 18 #[.slice a n cap] w (RetDs 32 ds w) := by
  have HR := Lib.hid hr
  clear hr
  go_enter Tryd.func18, Tryd.ntmps18
  go_wp2
  go_loopw [3, 8] (fun v i wr => ∃ k : Nat, k ≤ n ∧ i = .int .i64 k ∧ Hid (OwnD wr w.heap.size 32 v (ds.take k)) ∧ Hid (Below w.heap.size w wr)) (fun _ i _ => n - (intOf i).toNat)
  case atStart => exact ⟨0, Nat.zero_le _, rfl, OwnD.nil _ _ _, Below.refl _ _⟩
  case round =>
    obtain ⟨k, hk, rfl, HO, HB⟩ := hrel
    by_cases hkn : k < n
    · obtain ⟨b, o, rfl, hb, hc⟩ := HR.out.at k hkn
      obtain ⟨d, hd⟩ : ∃ d, d = ds.getD k [] := ⟨_, rfl⟩
      rw [← hd] at hc
      have HD := Lib.hid (show D32 d from by rw [hd]; exact D32.get HR.out.2.1 k (by rw [HR.out.1]; exact hkn))
      have HDE := Lib.hid hd
      have kI := fun W => run_dindex dtR W b o n cap k hkn
      have HLD := Lib.hid (run_dload dtR wr b (o + k * 32) d HD.out (fun j v hv => (HB.out.cell (p := ⟨b, o + k * 32 + j, none⟩) hb).trans (hc j v hv)))
      have HI := Lib.hid (info32 dtR HD.out)
      have HZ := Lib.hid (zsize HD.out)
      have hsz := HB.out.size
      have K1 := Lib.hid (fun (X : Obj) (hX : X = .cells (cellsOf zs32).toArray 31 (0, 0)) => show Brow ((wr.alloc X).setRow wr.heap.size (cellsOf d).toArray) wr.heap.size 31 d ∧ Below wr.heap.size wr ((wr.alloc X).setRow wr.heap.size (cellsOf d).toArray) from by
        subst hX
        exact ⟨(Brow.new wr 31 zs32).setRow, ((Below.refl _ _).alloc (Nat.le_refl _) _).setRow (Nat.le_refl _) _⟩)
      clear hc hd
      go_upto_region 5 with (first | (refine wpList_loadg 31 _ (by rfl) (by rfl) (.pointer (some ⟨b, o + k * 32, none⟩)) (by rfl) (.agg (cellsOf d).toArray) HLD.out ?_) | (refine wpList_store_row (by rfl) 31 _ _ (by rfl) wr.heap.size (cellsOf d).toArray (by rfl) (by rfl) 31 (cellsOf zs32).toArray (by exact heap_new _ _) HI.out HZ.out (cellsOf_all _) ?_))
      refine gen_code (F := fun W => Brow W wr.heap.size 31 d ∧ Below wr.heap.size wr W) (K1.out _ rfl) ?_
      rintro w1 ⟨hd1, hb1⟩
      have HD1 := Lib.hid hd1
      have HO1 := Lib.hid (HO.out.below hb1 (Nat.le_refl _))
      have HB1 := Lib.hid (HB.out.trans (hb1.mono hsz))
      have hsz1 := HB1.out.size
      have hlen : (ds.take k).length + 1 ≤ 4398046511104 := by rw [List.length_take]; omega
      clear hd1 hb1 K1 kI HO HB
      go_wp2_with (first | (refine wpList_load_row (by rfl) 31 _ (by rfl) wr.heap.size (by rfl) _ (cellsOf d).toArray (0, 0) _ HD1.out Tryd.underlying31 (by rfl) HI.out ?_) | (refine wpList_dlay dtA (by rfl) _ (by rfl) w1.heap.size (by rfl) (some 14) (by rfl) d HD.out (by rfl) ?_) | (at_builtin; refine wpList_dpush dtA (by rfl) _ _ (by rfl) w.heap.size u3 (ds.take k) d HD.out (by rfl) HO1.out hsz1 (by rfl) hlen ?_; intro v2 w2 hown2 hb2; have HO2 := Lib.hid hown2; have HB2 := Lib.hid (HB1.out.trans hb2); clear hown2 hb2))
      have HO3 := Lib.hid (show OwnD w2 w.heap.size 32 v2 (ds.take (k + 1)) from by
        rw [List.take_succ_eq_append_getElem (by rw [HR.out.1]; exact hkn)]
        have e : ds.getD k [] = ds[k]'(by rw [HR.out.1]; exact hkn) := by rw [List.getD_eq_getElem?_getD, List.getElem?_eq_getElem (by rw [HR.out.1]; exact hkn)]; rfl
        rw [← e, ← HDE.out]
        exact HO2.out)
      clear HO2 HO1 HB1
      go_roundw
      case rel => exact ⟨k + 1, by omega, by go_num, HO3, HB2⟩
      case measure => simp [intOf]; omega
    · have HO2 := Lib.hid (show OwnD wr w.heap.size 32 u3 ds from by
        have := HO.out
        rwa [List.take_of_length_le (by rw [HR.out.1]; omega)] at this)
      clear HO
      go_wp2
      go_ret
      exact ⟨_, rfl, HO2.out, HB.out⟩
set_option maxRecDepth 100000 in
set_option maxHeartbeats 2000000 in
theorem from_c (n : Nat) (ds : Ds) (a : Option Addr) (cap : Nat) (w : World) (hr : DR w a n ds) (hnm : n ≤ 4398046511103) :
    Calls Tryd.prog 14 #[.slice a n cap] w (RetDs 31 ds w) := by
  have HR := Lib.hid hr
  clear hr
  go_enter Tryd.func14, Tryd.ntmps14
  go_wp2
  go_loopw [3, 8] (fun v i wr => ∃ k : Nat, k ≤ n ∧ i = .int .i64 k ∧ Hid (OwnD wr w.heap.size 31 v (ds.take k)) ∧ Hid (Below w.heap.size w wr)) (fun _ i _ => n - (intOf i).toNat)
  case atStart => exact ⟨0, Nat.zero_le _, rfl, OwnD.nil _ _ _, Below.refl _ _⟩
  case round =>
    obtain ⟨k, hk, rfl, HO, HB⟩ := hrel
    by_cases hkn : k < n
    · obtain ⟨b, o, rfl, hb, hc⟩ := HR.out.at k hkn
      obtain ⟨d, hd⟩ : ∃ d, d = ds.getD k [] := ⟨_, rfl⟩
      rw [← hd] at hc
      have HD := Lib.hid (show D32 d from by rw [hd]; exact D32.get HR.out.2.1 k (by rw [HR.out.1]; exact hkn))
      have HDE := Lib.hid hd
      have kI := fun W => run_dindex dtA W b o n cap k hkn
      have HLD := Lib.hid (run_dload dtA wr b (o + k * 32) d HD.out (fun j v hv => (HB.out.cell (p := ⟨b, o + k * 32 + j, none⟩) hb).trans (hc j v hv)))
      have HI := Lib.hid (info32 dtA HD.out)
      have HZ := Lib.hid (zsize HD.out)
      have hsz := HB.out.size
      have K1 := Lib.hid (fun (X : Obj) (hX : X = .cells (cellsOf zs32).toArray 32 (0, 0)) => show Brow ((wr.alloc X).setRow wr.heap.size (cellsOf d).toArray) wr.heap.size 32 d ∧ Below wr.heap.size wr ((wr.alloc X).setRow wr.heap.size (cellsOf d).toArray) from by
        subst hX
        exact ⟨(Brow.new wr 32 zs32).setRow, ((Below.refl _ _).alloc (Nat.le_refl _) _).setRow (Nat.le_refl _) _⟩)
      clear hc hd
      go_upto_region 5 with (first | (refine wpList_loadg 32 _ (by rfl) (by rfl) (.pointer (some ⟨b, o + k * 32, none⟩)) (by rfl) (.agg (cellsOf d).toArray) HLD.out ?_) | (refine wpList_store_row (by rfl) 32 _ _ (by rfl) wr.heap.size (cellsOf d).toArray (by rfl) (by rfl) 32 (cellsOf zs32).toArray (by exact heap_new _ _) HI.out HZ.out (cellsOf_all _) ?_))
      refine gen_code (F := fun W => Brow W wr.heap.size 32 d ∧ Below wr.heap.size wr W) (K1.out _ rfl) ?_
      rintro w1 ⟨hd1, hb1⟩
      have HD1 := Lib.hid hd1
      have HO1 := Lib.hid (HO.out.below hb1 (Nat.le_refl _))
      have HB1 := Lib.hid (HB.out.trans (hb1.mono hsz))
      have hsz1 := HB1.out.size
      have hlen : (ds.take k).length + 1 ≤ 4398046511104 := by rw [List.length_take]; omega
      clear hd1 hb1 K1 kI HO HB
      go_wp2_with (first | (refine wpList_load_row (by rfl) 32 _ (by rfl) wr.heap.size (by rfl) _ (cellsOf d).toArray (0, 0) _ HD1.out Tryd.underlying32 (by rfl) HI.out ?_) | (refine wpList_dlay dtR (by rfl) _ (by rfl) w1.heap.size (by rfl) (some 14) (by rfl) d HD.out (by rfl) ?_) | (at_builtin; refine wpList_dpush dtR (by rfl) _ _ (by rfl) w.heap.size u3 (ds.take k) d HD.out (by rfl) HO1.out hsz1 (by rfl) hlen ?_; intro v2 w2 hown2 hb2; have HO2 := Lib.hid hown2; have HB2 := Lib.hid (HB1.out.trans hb2); clear hown2 hb2))
      have HO3 := Lib.hid (show OwnD w2 w.heap.size 31 v2 (ds.take (k + 1)) from by
        rw [List.take_succ_eq_append_getElem (by rw [HR.out.1]; exact hkn)]
        have e : ds.getD k [] = ds[k]'(by rw [HR.out.1]; exact hkn) := by rw [List.getD_eq_getElem?_getD, List.getElem?_eq_getElem (by rw [HR.out.1]; exact hkn)]; rfl
        rw [← e, ← HDE.out]
        exact HO2.out)
      clear HO2 HO1 HB1
      go_roundw
      case rel => exact ⟨k + 1, by omega, by go_num, HO3, HB2⟩
      case measure => simp [intOf]; omega
    · have HO2 := Lib.hid (show OwnD wr w.heap.size 31 u3 ds from by
        have := HO.out
        rwa [List.take_of_length_le (by rw [HR.out.1]; omega)] at this)
      clear HO
      go_wp2
      go_ret
      exact ⟨_, rfl, HO2.out, HB.out⟩
/-- append(s, l...) of sums that can be read -/
theorem wpList_dcat {T E : TypeId} (hT : DT T E) {w : World} {ops : Array Oper} {rest : List Oper} {o : Oper} {a : Act} {Q : Exit → Act → World → Prop} (hgd : o.guard = none) (s x : Operand)
    (ho : o.op = .call { callee := .builtin .append, args := #[s, x], argTypes := #[T, T] })
    (B : Nat) (v : Value) (ds es : Ds) (hs : a.eval s = v) (hown : OwnD w B E v ds) (hB : B ≤ w.heap.size) (ad : Option Addr) (m c : Nat) (hx : a.eval x = .slice ad m c)
    (hr : DR w ad m es) (hnil : ad = none → c = 0) (hlen : ds.length + m ≤ 4398046511104)
    (h : ∀ v' w', OwnD w' B E v' (ds ++ es) → Below B w w' → wpList Tryd.prog ops Q rest (a.put o.dst v') w') :
    wpList Tryd.prog ops Q (o :: rest) a w := by
  obtain ⟨i0, z, hi, hz0, hz1, hz2, hz3⟩ := hT.info
  have hl := hr.1
  cases ad with
  | none =>
    obtain rfl := hnil rfl
    have h0 : m = 0 := by
      rcases hr.2.2.2.2 with h0 | ⟨b, off, hb, _⟩
      · omega
      · cases hb
    subst h0
    obtain rfl := hr.zero
    refine wpList_append_own_none hgd s x T ho B E i0 32 hT.und hi v ds.length (cellsOf ds.flatten) hs hown hx ?_
    exact h v w (by rw [List.append_nil]; exact hown) (Below.refl _ _)
  | some ad =>
    have hfl := flat_len es hr.2.1
    refine wpList_append_own _ hgd s x T ho B E i0 z 32 32 hT.und hi hz0 hz1 hz2 hz3 (by decide) v ds.length (cellsOf ds.flatten) hs hown ad m c (cellsOf es.flatten) hx (by rw [cellsOf_length, hfl, hl]; omega) ?_ (cellsOf_one _) (by unfold maxLen; omega) (by omega) hB ?_
    · intro j u hj
      have hjl : j < es.flatten.length := by
        have := (List.getElem?_eq_some_iff.1 hj).1
        rwa [cellsOf_length] at this
      rw [cellsOf_get _ j hjl] at hj
      cases hj
      rcases hr.2.2.2.2 with h0 | ⟨b, off, hb, _, hcell⟩
      · omega
      · cases hb
        rw [Addr.add_mid]
        exact hcell j (by omega)
    · intro v' w' h1 h2 _
      refine h v' w' ?_ ?_
      · unfold OwnD
        rw [List.length_append, List.flatten_append, cellsOf_append, hl]
        exact h1
      · exact (Below.refl B w).grown h2 hB fun k hk => (hown.block k hk).1
set_option maxRecDepth 100000 in
set_option maxHeartbeats 1000000 in
theorem cut_c (n m : Nat) (q : Int) (ds : Ds) (a : Option Addr) (cap : Nat) (w : World) (hr : DR w a n ds) (hlc : n ≤ cap) (hnil : a = none → cap = 0) (hm : (m : Int) = min (n : Int) q) (hmm : m ≤ 4398046511104) :
    Calls Tryd.prog 7 #[.slice a n cap, .int .i64 q] w (RetDs 31 (ds.take m) w) := by
  have HR := Lib.hid (hr.take m (by omega))
  have HQ := Lib.hid (show (min (n : Int) q).toNat = m from by rw [← hm]; exact Int.toNat_natCast m)
  have HO := Lib.hid (show OwnD (w.alloc (.cells #[] 31)) w.heap.size 31 (.slice (some ⟨w.heap.size, 0, none⟩) 0 0) [] from World.ownsRow_made w #[] 0 (Nat.le_refl _) (by decide) rfl)
  have HRA := Lib.hid (HR.out.below ((Below.refl _ _).alloc (Nat.le_refl _) (.cells #[] 31)))
  have HB := Lib.hid (show Below w.heap.size w (w.alloc (.cells #[] 31)) from (Below.refl _ _).alloc (Nat.le_refl _) _)
  have kH : ∀ W, (Instr.sliceAt 22 (.slice a n cap) none (some (.int .i64 (min (n : Int) q))) none).run Tryd.prog W = .ok (.slice a m cap) W := fun W => by rw [← hm]; exact run_dheadAt dtR W a n cap m (by omega)
  clear hr hm
  go_enter Tryd.func7, Tryd.ntmps7
  go_wp2_with (at_builtin; refine wpList_dcat dtR (by rfl) _ _ (by rfl) w.heap.size (.slice (some ⟨w.heap.size, 0, none⟩) 0 0) [] (ds.take m) (by rfl) HO.out (by simp) a m cap (by rfl) HRA.out hnil (by simpa using hmm) ?_; intro v2 w2 hown2 hb2; have HO2 := Lib.hid (show OwnD w2 w.heap.size 31 v2 (ds.take m) from hown2); have HB2 := Lib.hid (HB.out.trans hb2); clear hown2 hb2)
  go_ret
  exact ⟨_, rfl, HO2.out, HB2.out⟩
end Go.Proofs.YtlnblfdddellmaaDoor
