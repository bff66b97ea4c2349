/-
  The walk over the document's Load of a state's bytes.
-/
import Derived.Test.YtealeefkeikcbabDoorDlo
import Derived.Laws.ResultCell
namespace Go.Proofs.YtealeefkeikcbabDoor
open Go.RowKit
set_option linter.unusedVariables false
theorem four_of (b : List Nat) (k : Nat) (h : k + 4 ≤ b.length) : (b.drop k).take 4 = [b.getD k 0, b.getD (k + 1) 0, b.getD (k + 2) 0, b.getD (k + 3) 0] := by
  rw [List.drop_eq_getElem_cons (show k < b.length by omega), List.drop_eq_getElem_cons (show k + 1 < b.length by omega), List.drop_eq_getElem_cons (show k + 1 + 1 < b.length by omega), List.drop_eq_getElem_cons (show k + 1 + 1 + 1 < b.length by omega)]
  rw [getD_at b k (by omega), getD_at b (k + 1) (by omega), getD_at b (k + 2) (by omega), getD_at b (k + 3) (by omega)]
  rfl
abbrev nilv : Value := .slice none 0 0
theorem RS.setWord {w : World} {g : Nat} {hs : List Nat} {n : Nat} {v : Value} (h : RS w g hs n v) (k x : Nat) (hk : k < 8) : RS (w.setCell ⟨g, k, none⟩ (.int .u32 (x : Int))) g (hs.set k x) n v := by
  refine ⟨?_, by rw [List.length_set, h.l8]⟩
  rw [heap_setCell_same w g k _ _ _ h.row]
  congr 2
  unfold rsCells
  rw [List.setIfInBounds_toArray, List.set_append_left _ _ (by rw [wordsOf_length, h.l8]; exact hk)]
  simp [wordsOf, List.map_set]
def LR (w : World) (hs : List Nat) (n : Nat) (v : Value) (W : World) : Prop := RS W w.heap.size zs8w 0 nilv ∧ RS W (w.heap.size + 1) hs n v ∧ Below w.heap.size w W
theorem LR.set {w W W' : World} {hs hs' : List Nat} {n n' : Nat} {v v' : Value} (h : LR w hs n v W) (ho : Only (w.heap.size + 1) W W') (hr : RS W' (w.heap.size + 1) hs' n' v') : LR w hs' n' v' W' :=
  ⟨h.1.only ho (by omega), hr, h.2.2.trans (ho.below (by omega) h.2.2.size)⟩
theorem LR.below {w W W' : World} {hs : List Nat} {n : Nat} {v : Value} (h : LR w hs n v W) (hb : Below W.heap.size W W') : LR w hs n v W' :=
  ⟨h.1.below hb h.1.lt, h.2.1.below hb h.2.1.lt, h.2.2.trans (hb.mono h.2.2.size)⟩
theorem res_pairL {fn : Func} {P : Program} {p q : Tmp} {ty : TypeId} (h : fn.results = #[.cell p ty, .tmp q]) (tmps : Array Value) (w : World) (g : Nat) (t : TypeId) (cs : Array Value) (fr : Nat × Nat) (d : TypeDesc) (b : Value)
    (hp : tmps.getD p undef = .pointer (some ⟨g, 0, none⟩)) (hq : tmps.getD q undef = b) (hg : w.heap[g]? = some (.cells cs t fr))
    (hu : P.underlying ty = some d) (hd : (match d with | .struct _ | .array _ _ => true | _ => false) = true) (hi : (P.info? ty).map (·.size) = some cs.size) :
    (results fn tmps).run P w = .ok (.tuple #[.agg cs, b]) w := by
  have hp' : tmps[p]?.getD undef = .pointer (some ⟨g, 0, none⟩) := by simpa using hp
  have hq' : tmps[q]?.getD undef = b := by simpa using hq
  simp [results, h, hp', hq', asAddr, run_loadVar_row w g t ty cs fr d hg hu hd hi]
def RlNo (n : Int) (w : World) (e : Ending) (w' : World) : Prop := e = .returned (.tuple #[.agg (rsCells zs8w 0 nilv).toArray, .int .i64 n]) ∧ Below w.heap.size w w'
def RlYes (b : List Nat) (w : World) (e : Ending) (w' : World) : Prop := ∃ v, e = .returned (.tuple #[.agg (rsCells (wordsAt b) (numAt b) v).toArray, .int .i64 0]) ∧ Own w' w.heap.size v (b.drop 40) ∧ Below w.heap.size w w'
theorem LR.new (w : World) (X Y : Obj) (hX : X = .cells (rsCells zs8w 0 nilv).toArray 88 (0, 0)) (hY : Y = .cells (rsCells zs8w 0 nilv).toArray 88 (0, 0)) : LR w zs8w 0 nilv ((w.alloc X).alloc Y) := by
  subst hX hY
  exact ⟨⟨(heap_new2 _ _ _).1, by simp [zs8w]⟩, ⟨(heap_new2 _ _ _).2, by simp [zs8w]⟩, ((Below.refl _ _).alloc (Nat.le_refl _) _).alloc (by simp) _⟩
theorem zs_rs : (rsCells zs8w 0 nilv).toArray.all (·.oneCell') = true := rsCells_one _ _ _ _ _
set_option maxRecDepth 100000 in
set_option maxHeartbeats 2000000 in
theorem rload_short (a : Option Addr) (len cap : Nat) (w : World) (h : len < 40) :
    Calls Tryd.prog 53 #[.slice a len cap] w (RlNo 9 w) := by
  have h' : (len : Int) < 40 := by omega
  have HI := Lib.hid (rs_info (H := zs8w) (n := 0) (v := nilv) (by simp [zs8w]))
  go_enter Tryd.func53, Tryd.ntmps53
  go_upto_region 2 with fail
  refine gen_code (F := LR w zs8w 0 nilv) (LR.new w _ _ rfl rfl) ?_
  intro wA hA
  have H0 := Lib.hid hA
  clear hA
  go_wp2_with (first | (refine wpList_load_row (by rfl) 88 (.tmp 4) (by rfl) (w.heap.size + 1) (by rfl) _ (rsCells zs8w 0 nilv).toArray (0, 0) _ H0.out.2.1.row Tryd.underlying88 (by rfl) HI.out ?_) | (refine wpList_store_row (by rfl) 88 _ _ (by rfl) w.heap.size (rsCells zs8w 0 nilv).toArray (by rfl) (by rfl) 88 (rsCells zs8w 0 nilv).toArray H0.out.1.row HI.out rfl zs_rs ?_))
  refine bodyPost_ret (res_pairL (by rfl) _ _ w.heap.size _ (rsCells zs8w 0 nilv).toArray (0, 0) _ (.int .i64 9) (by rfl) (by rfl) (setRow_heap _ _ _ _ _ _ H0.out.1.row) Tryd.underlying88 (by rfl) HI.out) ?_ ?_
  · rfl
  · exact ⟨rfl, H0.out.2.2.setRow (Nat.le_refl _) _⟩
def LrW (w : World) (b : List Nat) (k : Nat) (W : World) : Prop := LR w (wp8 (wordsAt b) k) 0 nilv W
set_option maxRecDepth 100000 in
set_option maxHeartbeats 4000000 in
theorem rload_long (a : Option Addr) (len cap : Nat) (b : List Nat) (w : World) (hr : Rd w a len b) (h : 40 ≤ len) (hlc : len ≤ cap) (hcm : cap ≤ 9223372036854775807) (hlm : len ≤ 140737488355327) :
    ((2305843009213693951 < numAt b ∨ len - 40 ≠ numAt b % 64) → Calls Tryd.prog 53 #[.slice a len cap] w (RlNo 10 w)) ∧
    ((numAt b ≤ 2305843009213693951 ∧ len - 40 = numAt b % 64) → Calls Tryd.prog 53 #[.slice a len cap] w (RlYes b w)) := by
  have h' : ¬ (len : Int) < 40 := by omega
  have HI := Lib.hid (rs_info (H := zs8w) (n := 0) (v := nilv) (by simp [zs8w]))
  have HR := Lib.hid hr
  have HW8 := Lib.hid (wordsAt_8 b hr.2.1)
  obtain ⟨n, hnn⟩ : ∃ n, n = numAt b := ⟨_, rfl⟩
  have hnl : n < 18446744073709551616 := by rw [hnn]; exact numAt_lt b hr.2.1
  have HNN := Lib.hid hnn
  have HG := Lib.hid (show ∀ W, Below w.heap.size w W → Calls Tryd.prog 69 #[.slice (sla a cap 32) 8 (cap - 32)] W (fun e w' => e = .returned (.tuple #[.int .u64 (n : Int), .bool true]) ∧ W = w') from fun W hW => by
    rw [hnn]; exact refGet_c (sla a cap 32) 8 (cap - 32) _ W (rd_mid (hr.below hW) hlc 32 40 (by omega) (by omega)) (by omega))
  have HLOOP := Lib.hid (show ∀ k, k < 8 → ∀ W, Below w.heap.size w W → Calls Tryd.prog 69 #[.slice (sla a cap (4 * k)) 4 (cap - 4 * k)] W (fun e w' => e = .returned (.tuple #[.int .u64 (((wordsAt b).getD k 0 : Nat) : Int), .bool true]) ∧ W = w') from fun k hk W hW => by
    have := refGet_c (sla a cap (4 * k)) 4 (cap - 4 * k) _ W (by
      have h1 := rd_mid (hr.below hW) hlc (4 * k) (4 * k + 4) (by omega) (by omega)
      rw [show 4 * k + 4 - 4 * k = 4 by omega] at h1
      exact h1) (by omega)
    rw [four_of b (4 * k) (by rw [hr.1]; omega), ← wordsAt_get b k hk] at this
    exact this)
  clear hr hnn
  have MAIN : ∀ (R : Ending → World → Prop), (∀ (r : Nat) , r = n % 64 → (2305843009213693951 < n ∨ len - 40 ≠ r) → ∀ e w', RlNo 10 w e w' → R e w') → ((n ≤ 2305843009213693951 ∧ len - 40 = n % 64) → ∀ e w', RlYes b w e w' → R e w') → Calls Tryd.prog 53 #[.slice a len cap] w R := by
    intro R hno hyes
    have HNO := Lib.hid hno
    have HYES := Lib.hid hyes
    clear hno hyes
    go_enter Tryd.func53, Tryd.ntmps53
    go_upto_region 2 with fail
    refine gen_code (F := LrW w b 0) (by unfold LrW; rw [wp8_zero]; exact LR.new w _ _ rfl rfl) ?_
    intro wA hA
    have H0 := Lib.hid hA
    clear hA
    go_wp2_with fail
    go_loopw [5] (fun i wr => ∃ k : Nat, k ≤ 8 ∧ i = .int .i64 k ∧ Hid (LrW w b k wr)) (fun i _ => 8 - (intOf i).toNat)
    case atStart => exact ⟨0, by omega, rfl, H0⟩
    case round =>
      clear H0
      obtain ⟨k, hk, rfl, HL⟩ := hrel
      by_cases hk8 : k < 8
      · obtain ⟨x, hx⟩ : ∃ x, x = (wordsAt b).getD k 0 := ⟨_, rfl⟩
        have hx32 : x < 4294967296 := by rw [hx, getD_at _ _ (by rw [HW8.out.1]; exact hk8)]; exact HW8.out.2 _ (List.getElem_mem _)
        have HGK := Lib.hid (HLOOP.out k hk8 wr HL.out.2.2)
        rw [← hx] at HGK
        have kS := fun W => show (Instr.sliceAt 63 (.slice a len cap) (some (.int .i64 (4 * (k : Int)))) (some (.int .i64 (4 * (k : Int) + 4))) none).run Tryd.prog W = .ok (.slice (sla a cap (4 * k)) 4 (cap - 4 * k)) W from by
          have := run_midAt W a len cap (4 * k) (4 * k + 4) (by omega) (by omega)
          rw [show 4 * k + 4 - 4 * k = 4 by omega] at this
          rw [show (4 * (k : Int)) = ((4 * k : Nat) : Int) by omega, show (((4 * k : Nat) : Int) + 4) = ((4 * k + 4 : Nat) : Int) by omega]
          exact this
        have hwx : IntKind.u32.wrap (x : Int) = (x : Int) := by rw [IntKind.wrap_u32]; omega
        have HNX := Lib.hid (show (wp8 (wordsAt b) k).set k x = wp8 (wordsAt b) (k + 1) from by rw [hx]; exact wp8_set _ HW8.out.1 k hk8)
        have hlen8 := wp8_len (wordsAt b) HW8.out.1 k hk
        obtain ⟨o, ho⟩ : ∃ o, wr.cell? ⟨w.heap.size + 1, k, none⟩ = some (.int .u32 ((o : Nat) : Int)) := by
          refine ⟨(wp8 (wordsAt b) k).getD k 0, ?_⟩
          rw [HL.out.2.1.cellq, rsCells, List.getElem?_append_left (by rw [wordsOf_length, hlen8]; exact hk8)]
          have := wordsOf_get (wp8 (wordsAt b) k) k (by rw [hlen8]; exact hk8)
          simpa using this
        have hf : wr.frozen? ⟨w.heap.size + 1, k, none⟩ = false := HL.out.2.1.froz k
        have HS1 := Lib.hid (show LrW w b (k + 1) (wr.setCell ⟨w.heap.size + 1, k, none⟩ (.int .u32 (x : Int))) from by
          have h1 := HL.out.2.1.setWord k x hk8
          rw [HNX.out] at h1
          exact HL.out.set ((Only.refl _ _).setCell _ _) h1)
        clear hx hlen8 HL
        go_wp2_with fail
        refine HGK.out.mono ?_
        rintro e2 w2 ⟨rfl, rfl⟩
        go_wp2_with fail
        go_roundw
        case rel => exact ⟨k + 1, by omega, by go_num, HS1⟩
        case measure => simp [intOf]; omega
      · obtain rfl : k = 8 := by omega
        have HL := Lib.hid (show LR w (wordsAt b) 0 nilv wr from by have := HL.out; unfold LrW at this; rwa [wp8_all _ HW8.out.1] at this)
        have HGN := Lib.hid (HG.out wr HL.out.2.2)
        have kS := fun W => show (Instr.sliceAt 63 (.slice a len cap) (some (.int .i64 32)) (some (.int .i64 40)) none).run Tryd.prog W = .ok (.slice (sla a cap 32) 8 (cap - 32)) W from run_midAt W a len cap 32 40 (by omega) (by omega)
        have hc8 : wr.cell? ⟨w.heap.size + 1, 8, none⟩ = some (.int .u64 ((0 : Nat) : Int)) := HL.out.2.1.num
        have hf8 : wr.frozen? ⟨w.heap.size + 1, 8, none⟩ = false := HL.out.2.1.froz 8
        have HL2 := Lib.hid (show LR w (wordsAt b) n nilv (wr.setCell ⟨w.heap.size + 1, 8, none⟩ (.int .u64 (n : Int))) from HL.out.set ((Only.refl _ _).setCell _ _) (HL.out.2.1.setNum n))
        go_wp2_with fail
        refine HGN.out.mono ?_
        rintro e2 w2 ⟨rfl, rfl⟩
        go_upto_region 10 with fail
        refine gen_code (F := LR w (wordsAt b) n nilv) HL2.out ?_
        intro w3 h3
        have H3 := Lib.hid h3
        have hcn : w3.cell? ⟨w.heap.size + 1, 8, none⟩ = some (.int .u64 (n : Int)) := h3.2.1.num
        clear h3 HL2 hc8 hf8 kS HL HGN
        have e1 : (len : Int) - 40 = ((len - 40 : Nat) : Int) := by omega
        have w1 : IntKind.u64.wrap ((len - 40 : Nat) : Int) = ((len - 40 : Nat) : Int) := by rw [IntKind.wrap_u64]; omega
        obtain ⟨q, hq⟩ : ∃ q, q = len - 40 := ⟨_, rfl⟩
        have HQ := Lib.hid hq
        rw [← hq] at e1 w1
        obtain ⟨r, hrr⟩ : ∃ r, r = n % 64 := ⟨_, rfl⟩
        have HRR := Lib.hid hrr
        have e2 : (n : Int) % 64 = (r : Int) := by omega
        have FIN := Lib.hid (show (2305843009213693951 < n ∨ q ≠ r) → ∀ W, LR w (wordsAt b) n nilv W → R (.returned (.tuple #[.agg (rsCells zs8w 0 nilv).toArray, .int .i64 10])) (W.setRow w.heap.size (rsCells zs8w 0 nilv).toArray) from fun hh W hW =>
          HNO.out r HRR.out (by rw [← HQ.out]; exact hh) _ _ ⟨rfl, hW.2.2.setRow (Nat.le_refl _) _⟩)
        clear hq hrr
        by_cases h1 : 2305843009213693951 < n
        · have t1 : decide ((2305843009213693951 : Int) < (n : Int)) = true := decide_eq_true (by omega)
          go_wp2_with (first | (refine wpList_store_row (by rfl) 88 _ _ (by rfl) w.heap.size (rsCells zs8w 0 nilv).toArray (by rfl) (by rfl) 88 (rsCells zs8w 0 nilv).toArray H3.out.1.row HI.out rfl zs_rs ?_))
          refine bodyPost_ret (res_pairL (by rfl) _ _ w.heap.size _ (rsCells zs8w 0 nilv).toArray (0, 0) _ (.int .i64 10) (by rfl) (by rfl) (setRow_heap _ _ _ _ _ _ H3.out.1.row) Tryd.underlying88 (by rfl) HI.out) ?_ ?_
          · rfl
          · exact FIN.out (.inl h1) _ H3.out
        · have t1 : decide ((2305843009213693951 : Int) < (n : Int)) = false := decide_eq_false (by omega)
          by_cases hqr : q = r
          · subst hqr
            have kC := fun W => show (Instr.sliceAt 63 (.slice a len cap) (some (.int .i64 40)) none none).run Tryd.prog W = .ok (.slice (sla a cap 40) (len - 40) (cap - 40)) W from run_cutAt W a len cap 40 (by omega)
            have HTW := Lib.hid (twin_c (sla a cap 40) (len - 40) (cap - 40) (b.drop 40) w3 ((HR.out.below H3.out.2.2).cut cap 40 (by omega) hlc) (by omega))
            go_wp2_with fail
            refine HTW.out.mono ?_
            rintro e4 w4 ⟨v, rfl, hov, hb4⟩
            have H4 := Lib.hid (H3.out.below hb4)
            obtain ⟨va, vl, vc, rfl⟩ := hov.isSlice
            have hc9 : w4.cell? ⟨w.heap.size + 1, 9, none⟩ = some nilv := H4.out.2.1.tail
            have hf9 : w4.frozen? ⟨w.heap.size + 1, 9, none⟩ = false := H4.out.2.1.froz 9
            have HL5 := Lib.hid (show LR w (wordsAt b) n (.slice va vl vc) (w4.setCell ⟨w.heap.size + 1, 9, none⟩ (.slice va vl vc)) from H4.out.set ((Only.refl _ _).setCell _ _) (H4.out.2.1.setTail _))
            have hsz3 := H3.out.2.1.lt
            have HOV := Lib.hid (show Own (w4.setCell ⟨w.heap.size + 1, 9, none⟩ (.slice va vl vc)) w3.heap.size (.slice va vl vc) (b.drop 40) from hov.only ((Only.refl (w.heap.size + 1) w4).setCell _ _) hsz3)
            clear hov hb4 kC HTW e1 w1 e2 t1 hcn
            go_upto_region 13 with fail
            refine gen_code (F := fun W => LR w (wordsAt b) n (.slice va vl vc) W ∧ Own W w3.heap.size (.slice va vl vc) (b.drop 40)) ⟨HL5.out, HOV.out⟩ ?_
            rintro w5 ⟨h5, h5'⟩
            have H5 := Lib.hid h5
            have H5' := Lib.hid h5'
            have HI5 := Lib.hid (rs_info (H := wordsAt b) (n := n) (v := .slice va vl vc) HW8.out.1)
            have HZ5 := Lib.hid (rs_size (H := zs8w) (H' := wordsAt b) (n := 0) (n' := n) (v := nilv) (v' := .slice va vl vc) (by simp [zs8w]) HW8.out.1)
            clear h5 h5' hc9 hf9 HL5 HOV H4
            go_wp2_with (first | (refine wpList_load_row (by rfl) 88 (.tmp 4) (by rfl) (w.heap.size + 1) (by rfl) _ (rsCells (wordsAt b) n (.slice va vl vc)).toArray (0, 0) _ H5.out.2.1.row Tryd.underlying88 (by rfl) HI5.out ?_) | (refine wpList_store_row (by rfl) 88 _ _ (by rfl) w.heap.size (rsCells (wordsAt b) n (.slice va vl vc)).toArray (by rfl) (by rfl) 88 (rsCells zs8w 0 nilv).toArray H5.out.1.row HI5.out HZ5.out (rsCells_one _ _ _ _ _) ?_))
            refine bodyPost_ret (res_pairL (by rfl) _ _ w.heap.size _ (rsCells (wordsAt b) n (.slice va vl vc)).toArray (0, 0) _ (.int .i64 0) (by rfl) (by rfl) (setRow_heap _ _ _ _ _ _ H5.out.1.row) Tryd.underlying88 (by rfl) HI5.out) ?_ ?_
            · rfl
            · have hs3 := H3.out.2.2.size
              refine HYES.out ⟨by omega, by rw [← HQ.out, HRR.out]⟩ _ _ ⟨_, by rw [← HNN.out], (H5'.out.only ((Only.refl w.heap.size w5).setRow _) (by omega)).base (by omega), H5.out.2.2.setRow (Nat.le_refl _) _⟩
          · have t2 : ((q : Int) != (r : Int)) = true := by simp; omega
            have t3 : ((q : Int) == (r : Int)) = false := by simp; omega
            go_wp2_with (first | (refine wpList_store_row (by rfl) 88 _ _ (by rfl) w.heap.size (rsCells zs8w 0 nilv).toArray (by rfl) (by rfl) 88 (rsCells zs8w 0 nilv).toArray H3.out.1.row HI.out rfl zs_rs ?_))
            refine bodyPost_ret (res_pairL (by rfl) _ _ w.heap.size _ (rsCells zs8w 0 nilv).toArray (0, 0) _ (.int .i64 10) (by rfl) (by rfl) (setRow_heap _ _ _ _ _ _ H3.out.1.row) Tryd.underlying88 (by rfl) HI.out) ?_ ?_
            · rfl
            · exact FIN.out (.inr hqr) _ H3.out
  refine ⟨fun hh => MAIN _ (fun r hr _ e w' he => he) (fun hy e w' he => ?_), fun hh => MAIN _ (fun r hr hor e w' he => ?_) (fun _ e w' he => he)⟩
  · exfalso
    have := HNN.out
    rcases hh with h1 | h1
    · omega
    · exact h1 (by rw [← this]; exact hy.2)
  · exfalso
    have := HNN.out
    rcases hor with h1 | h1
    · omega
    · exact h1 (by rw [hr, this]; exact hh.2)
end Go.Proofs.YtealeefkeikcbabDoor
