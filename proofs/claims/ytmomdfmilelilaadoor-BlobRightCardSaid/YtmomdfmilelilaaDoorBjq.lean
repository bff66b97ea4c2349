/-
  The law's has and without: lists of sums. A name's digits read back; a slice as an array, plain. The sum whose file has a name. A store's List. A script's two lists in memory beside a store; an append at any place; one of two operations first. Slices of bytes that came in. What the arguments of a law give its walk: slices of structs whose fields are numbers, strings, slices of bytes. A script's steps in memory; the state of BlobRight's loop.
-/
import Derived.Test.YtmomdfmilelilaaDoorDgl
import Derived.Test.YtmomdfmilelilaaDoorBjp
import Derived.Test.YtmomdfmilelilaaDoorBja
import Derived.Test.YtmomdfmilelilaaDoorUnh
import Derived.Maps.AppendAt
import Derived.Test.YtmomdfmilelilaaDoorPka
import Derived.Deep.Slices
import Derived.Deep.Fields
import Derived.Test.YtmomdfmilelilaaDoorBim
namespace Go.Proofs.YtmomdfmilelilaaDoor
open Go.RowKit
set_option linter.unusedVariables false
theorem wpList_runE {ops : Array Oper} {rest : List Oper} {o : Oper} {a : Act} {w : World} {Q : Exit → Act → World → Prop} (hw : Region.wanted o (yielded ops a.tmps) = true) (v : Value) (hr : (execOp a.eval o).run Tryd.prog w = .ok (.value v) w) (h : wpList Tryd.prog ops Q rest (a.put o.dst v) w) : wpList Tryd.prog ops Q (o :: rest) a w := by
  refine wpList_step fun K hK => ?_
  rw [if_pos hw]
  unfold Oper.wp
  rw [hr]
  exact hK _ _ h
theorem infoE {d : List Nat} (h : D32 d) : (Tryd.prog.info? 37).map (·.size) = some (cellsOf d).toArray.size := by rw [cellsOf_size, h.1]; exact info_dig
theorem zsizeE {d : List Nat} (h : D32 d) : (cellsOf zs32).toArray.size = (cellsOf d).toArray.size := by rw [cellsOf_size, cellsOf_size, h.1, zs32_len]
theorem exec_eqE {xs ys : Array Value} {b : Bool} (hm : Tryd.prog.eqGuardType Tryd.prog.depth 37 = false) (hrun : ∀ W, (Op.equalIn 10000 37 (.agg xs) (.agg ys)).run Tryd.prog W = .ok b W) {A : Act} {x y : Operand} (hx : A.eval x = .agg xs) (hy : A.eval y = .agg ys) (o : Oper) (ho : o.op = .binOp .eql 37 x y 37) (W : World) : (execOp A.eval o).run Tryd.prog W = .ok (.value (.bool b)) W := by
  unfold execOp
  simp only [ho, hx, hy, Sem.run_bind, run_eqGuard_agg W .eql 37 x y xs ys hm, run_eql_struct, hrun W, Result.andThen_ok, Sem.run_pure]
theorem exec_neE {xs ys : Array Value} {b : Bool} (hm : Tryd.prog.eqGuardType Tryd.prog.depth 37 = false) (hrun : ∀ W, (Op.equalIn 10000 37 (.agg xs) (.agg ys)).run Tryd.prog W = .ok b W) {A : Act} {x y : Operand} (hx : A.eval x = .agg xs) (hy : A.eval y = .agg ys) (o : Oper) (ho : o.op = .binOp .neq 37 x y 37) (W : World) : (execOp A.eval o).run Tryd.prog W = .ok (.value (.bool !b)) W := by
  unfold execOp
  simp only [ho, hx, hy, Sem.run_bind, run_eqGuard_agg W .neq 37 x y xs ys hm, run_neq_struct, hrun W, Result.andThen_ok, Sem.run_pure]
theorem guardE : Tryd.prog.eqGuardType Tryd.prog.depth 37 = false := by kernel_rfl
theorem eqE {d x : List Nat} (hd : D32 d) (hx : D32 x) {b : Bool} (h : (d = x) ↔ b = true) (W : World) : (Op.equalIn 10000 37 (.agg (cellsOf d).toArray) (.agg (cellsOf x).toArray)).run Tryd.prog W = .ok b W := by
  have := eq_dig 37 32 Tryd.underlying37 W d x hd.1 hx.1 hd.2 hx.2
  rw [this]
  cases b with
  | true => simp [h.2 rfl]
  | false =>
    have : ¬ d = x := fun e => by cases h.1 e
    simp [this]
theorem take_stepE {ds : Ds} {k n : Nat} (h1 : ds.length = n) (hk : k < n) : ds.take (k + 1) = ds.take k ++ [ds.getD k []] := by
  rw [List.take_succ_eq_append_getElem (by omega)]
  rw [List.getD_eq_getElem?_getD, List.getElem?_eq_getElem (by omega)]
  rfl
set_option maxRecDepth 100000 in
set_option maxHeartbeats 2000000 in
theorem has_c (n : Nat) (ds : Ds) (a : Option Addr) (cap : Nat) (x : List Nat) (hx : D32 x) (w : World) (hr : DR w a n ds) (hnm : n ≤ 4398046511103) :
    Calls Tryd.prog 11 #[.slice a n cap, .agg (cellsOf x).toArray] w fun e w' => e = .returned (.bool (decide (x ∈ ds))) ∧ Below w.heap.size w w' := by
  obtain ⟨X0, hX0⟩ : ∃ X0, X0 = w.heap.size := ⟨_, rfl⟩
  obtain ⟨w1, hw1⟩ : ∃ w1, w1 = w.alloc (.cells (cellsOf x).toArray 37) := ⟨_, rfl⟩
  have q1 : Below w.heap.size w w1 := by rw [hw1]; exact (Below.refl _ _).alloc (Nat.le_refl _) _
  have HBX := Lib.hid (show Brow w1 X0 37 x from by rw [hw1, hX0]; exact heap_new _ _)
  have HXL := Lib.hid (show X0 < w1.heap.size from by rw [hw1, hX0]; simp)
  have HR := Lib.hid (hr.below q1)
  have HQ := Lib.hid q1
  have HX := Lib.hid hx
  have HIX := Lib.hid (infoE hx)
  clear hr q1 hx
  go_enter Tryd.func11, Tryd.ntmps11
  go_upto_region 1 with fail
  rw [← hX0]
  rw [← hw1]
  clear hX0 hw1
  go_wp2_with fail
  go_loopw [9] (fun i wr => ∃ k : Nat, k ≤ n ∧ i = .int .i64 k ∧ Hid (Below w1.heap.size w1 wr) ∧ Hid (x ∉ ds.take k)) (fun i _ => n - (intOf i).toNat)
  case atStart => exact ⟨0, Nat.zero_le _, rfl, Below.refl _ _, by simp [Hid]⟩
  case round =>
    obtain ⟨k, hk, rfl, HB, HN⟩ := hrel
    by_cases hkn : k < n
    · obtain ⟨b, o, rfl, hb, hc⟩ := HR.out.at k hkn
      obtain ⟨d, hd⟩ : ∃ d, d = ds.getD k [] := ⟨_, rfl⟩
      rw [← hd] at hc
      have HD := Lib.hid (show D32 d from by rw [hd]; exact D32.get HR.out.2.1 k (by rw [HR.out.1]; exact hkn))
      have HTK := Lib.hid (show ds.take (k + 1) = ds.take k ++ [d] from by rw [hd]; exact take_stepE HR.out.1 hkn)
      have HMD := Lib.hid (show d ∈ ds from List.mem_of_mem_take (i := k + 1) (by rw [HTK.out]; exact List.mem_append_right _ List.mem_cons_self))
      have kI := fun W => run_dindex dtA W b o n cap k hkn
      have HLD := Lib.hid (run_dload dtA wr b (o + k * 32) d HD.out (fun j v hv => (HB.out.cell (p := ⟨b, o + k * 32 + j, none⟩) hb).trans (hc j v hv)))
      have HI := Lib.hid (infoE HD.out)
      have HZ := Lib.hid (zsizeE HD.out)
      have hsz := HB.out.size
      have K1 := Lib.hid (fun (X : Obj) (hX : X = .cells (cellsOf zs32).toArray 37 (0, 0)) => show Brow ((wr.alloc X).setRow wr.heap.size (cellsOf d).toArray) wr.heap.size 37 d ∧ Below wr.heap.size wr ((wr.alloc X).setRow wr.heap.size (cellsOf d).toArray) from by
        subst hX
        exact ⟨(Brow.new wr 37 zs32).setRow, ((Below.refl _ _).alloc (Nat.le_refl _) _).setRow (Nat.le_refl _) _⟩)
      clear hc hd
      go_upto_region 4 with (first | (refine wpList_loadg 37 _ (by rfl) (by rfl) (.pointer (some ⟨b, o + k * 32, none⟩)) (by rfl) (.agg (cellsOf d).toArray) HLD.out ?_) | (refine wpList_store_row (by rfl) 37 _ _ (by rfl) wr.heap.size (cellsOf d).toArray (by rfl) (by rfl) 37 (cellsOf zs32).toArray (by exact heap_new _ _) HI.out HZ.out (cellsOf_all _) ?_))
      refine gen_code (F := fun W => Brow W wr.heap.size 37 d ∧ Below wr.heap.size wr W) (K1.out _ rfl) ?_
      rintro w2 ⟨hd2, hb2⟩
      have HD2 := Lib.hid hd2
      have HB2 := Lib.hid (HB.out.trans (hb2.mono hsz))
      have HX2 := Lib.hid (show Brow w2 X0 37 x from HBX.out.below HB2.out HXL.out)
      clear hd2 hb2 K1 kI HB
      by_cases hdx : d = x
      · have HM := Lib.hid (show decide (x ∈ ds) = true from by rw [← hdx]; simpa using HMD.out)
        have HEQ := Lib.hid (fun W => eqE HD.out HX.out (b := true) (by simp [hdx]) W)
        clear hdx
        go_wp2_with (first | (refine wpList_load_row (by rfl) 37 _ (by rfl) wr.heap.size (by rfl) _ (cellsOf d).toArray (0, 0) _ HD2.out Tryd.underlying37 (by rfl) HI.out ?_) | (refine wpList_load_row (by rfl) 37 _ (by rfl) X0 (by rfl) _ (cellsOf x).toArray (0, 0) _ HX2.out Tryd.underlying37 (by rfl) HIX.out ?_) | (refine wpList_runE (by rfl) (.bool true) (exec_eqE guardE HEQ.out (x := .tmp 13) (y := .tmp 14) (by rfl) (by rfl) _ rfl _) ?_))
        go_ret
        exact ⟨by rw [HM.out]; rfl, HQ.out.trans (HB2.out.mono HQ.out.size)⟩
      · have HEQ := Lib.hid (fun W => eqE HD.out HX.out (b := false) (by simp [hdx]) W)
        have HN2 := Lib.hid (show x ∉ ds.take (k + 1) from by
          rw [HTK.out]
          intro hm
          rcases List.mem_append.1 hm with h1 | h1
          · exact HN.out h1
          · exact hdx (List.mem_singleton.1 h1).symm)
        clear hdx HN
        go_wp2_with (first | (refine wpList_load_row (by rfl) 37 _ (by rfl) wr.heap.size (by rfl) _ (cellsOf d).toArray (0, 0) _ HD2.out Tryd.underlying37 (by rfl) HI.out ?_) | (refine wpList_load_row (by rfl) 37 _ (by rfl) X0 (by rfl) _ (cellsOf x).toArray (0, 0) _ HX2.out Tryd.underlying37 (by rfl) HIX.out ?_) | (refine wpList_runE (by rfl) (.bool false) (exec_eqE guardE HEQ.out (x := .tmp 13) (y := .tmp 14) (by rfl) (by rfl) _ rfl _) ?_))
        go_roundw
        case rel => exact ⟨k + 1, by omega, by go_num, HB2, HN2⟩
        case measure => simp [intOf]; omega
    · have HM := Lib.hid (show decide (x ∈ ds) = false from by
        have h1 := HN.out
        rw [List.take_of_length_le (by rw [HR.out.1]; omega)] at h1
        simpa using h1)
      clear HN
      go_wp2_with fail
      go_ret
      exact ⟨by rw [HM.out]; rfl, HQ.out.trans (HB.out.mono HQ.out.size)⟩
theorem wo_step {ds : Ds} {k : Nat} {d x : List Nat} (h : ds.take (k + 1) = ds.take k ++ [d]) : wo (ds.take (k + 1)) x = if d = x then wo (ds.take k) x else wo (ds.take k) x ++ [d] := by
  unfold wo
  rw [h, List.filter_append]
  by_cases e : d = x
  · rw [if_pos e]; simp [e]
  · rw [if_neg e]; simp [e]
set_option maxRecDepth 100000 in
set_option maxHeartbeats 2000000 in
theorem without_c (n : Nat) (ds : Ds) (a : Option Addr) (cap : Nat) (x : List Nat) (hx : D32 x) (w : World) (hr : DR w a n ds) (hnm : n ≤ 4398046511103) :
    Calls Tryd.prog 9 #[.slice a n cap, .agg (cellsOf x).toArray] w (RetDs 37 (wo ds x) w) := by
  obtain ⟨X0, hX0⟩ : ∃ X0, X0 = w.heap.size := ⟨_, rfl⟩
  obtain ⟨w1, hw1⟩ : ∃ w1, w1 = w.alloc (.cells (cellsOf x).toArray 37) := ⟨_, rfl⟩
  have q1 : Below w.heap.size w w1 := by rw [hw1]; exact (Below.refl _ _).alloc (Nat.le_refl _) _
  have HBX := Lib.hid (show Brow w1 X0 37 x from by rw [hw1, hX0]; exact heap_new _ _)
  have HXL := Lib.hid (show X0 < w1.heap.size from by rw [hw1, hX0]; simp)
  have HR := Lib.hid (hr.below q1)
  have HQ := Lib.hid q1
  have HX := Lib.hid hx
  have HIX := Lib.hid (infoE hx)
  clear hr q1 hx
  go_enter Tryd.func9, Tryd.ntmps9
  go_upto_region 1 with fail
  rw [← hX0]
  rw [← hw1]
  clear hX0 hw1
  go_wp2_with fail
  go_loopw [5, 10] (fun v i wr => ∃ k : Nat, k ≤ n ∧ i = .int .i64 k ∧ Hid (OwnD wr w1.heap.size 37 v (wo (ds.take k) x)) ∧ Hid (Below w1.heap.size w1 wr)) (fun _ i _ => n - (intOf i).toNat)
  case atStart => exact ⟨0, Nat.zero_le _, rfl, OwnD.nil _ _ _, Below.refl _ _⟩
  case round =>
    obtain ⟨k, hk, rfl, HO, HB⟩ := hrel
    by_cases hkn : k < n
    · obtain ⟨b, o, rfl, hb, hc⟩ := HR.out.at k hkn
      obtain ⟨d, hd⟩ : ∃ d, d = ds.getD k [] := ⟨_, rfl⟩
      rw [← hd] at hc
      have HD := Lib.hid (show D32 d from by rw [hd]; exact D32.get HR.out.2.1 k (by rw [HR.out.1]; exact hkn))
      have HTK := Lib.hid (show ds.take (k + 1) = ds.take k ++ [d] from by rw [hd]; exact take_stepE HR.out.1 hkn)
      have hlen : (wo (ds.take k) x).length + 1 ≤ 4398046511104 := by
        have h1 : (wo (ds.take k) x).length ≤ (ds.take k).length := List.length_filter_le ..
        rw [List.length_take] at h1
        omega
      have kI := fun W => run_dindex dtA W b o n cap k hkn
      have HLD := Lib.hid (run_dload dtA wr b (o + k * 32) d HD.out (fun j v hv => (HB.out.cell (p := ⟨b, o + k * 32 + j, none⟩) hb).trans (hc j v hv)))
      have HI := Lib.hid (infoE HD.out)
      have HZ := Lib.hid (zsizeE HD.out)
      have hsz := HB.out.size
      have K1 := Lib.hid (fun (X : Obj) (hX : X = .cells (cellsOf zs32).toArray 37 (0, 0)) => show Brow ((wr.alloc X).setRow wr.heap.size (cellsOf d).toArray) wr.heap.size 37 d ∧ Below wr.heap.size wr ((wr.alloc X).setRow wr.heap.size (cellsOf d).toArray) from by
        subst hX
        exact ⟨(Brow.new wr 37 zs32).setRow, ((Below.refl _ _).alloc (Nat.le_refl _) _).setRow (Nat.le_refl _) _⟩)
      clear hc hd
      go_upto_region 5 with (first | (refine wpList_loadg 37 _ (by rfl) (by rfl) (.pointer (some ⟨b, o + k * 32, none⟩)) (by rfl) (.agg (cellsOf d).toArray) HLD.out ?_) | (refine wpList_store_row (by rfl) 37 _ _ (by rfl) wr.heap.size (cellsOf d).toArray (by rfl) (by rfl) 37 (cellsOf zs32).toArray (by exact heap_new _ _) HI.out HZ.out (cellsOf_all _) ?_))
      refine gen_code (F := fun W => Brow W wr.heap.size 37 d ∧ Below wr.heap.size wr W) (K1.out _ rfl) ?_
      rintro w2 ⟨hd2, hb2⟩
      have HD2 := Lib.hid hd2
      have HB2 := Lib.hid (HB.out.trans (hb2.mono hsz))
      have HO2 := Lib.hid (HO.out.below hb2 (Nat.le_refl _))
      have HX2 := Lib.hid (show Brow w2 X0 37 x from HBX.out.below HB2.out HXL.out)
      have hsz2 := HB2.out.size
      clear hd2 hb2 K1 kI HB HO
      by_cases hdx : d = x
      · have HEQ := Lib.hid (fun W => eqE HD.out HX.out (b := true) (by simp [hdx]) W)
        have HO3 := Lib.hid (show OwnD w2 w1.heap.size 37 u5 (wo (ds.take (k + 1)) x) from by rw [wo_step HTK.out, if_pos hdx]; exact HO2.out)
        clear hdx HO2
        go_wp2_with (first | (refine wpList_load_row (by rfl) 37 _ (by rfl) wr.heap.size (by rfl) _ (cellsOf d).toArray (0, 0) _ HD2.out Tryd.underlying37 (by rfl) HI.out ?_) | (refine wpList_load_row (by rfl) 37 _ (by rfl) X0 (by rfl) _ (cellsOf x).toArray (0, 0) _ HX2.out Tryd.underlying37 (by rfl) HIX.out ?_) | (refine wpList_runE (by rfl) (.bool false) (exec_neE (b := true) guardE HEQ.out (x := .tmp 14) (y := .tmp 15) (by rfl) (by rfl) _ rfl _) ?_))
        go_roundw
        case rel => exact ⟨k + 1, by omega, by go_num, HO3, HB2⟩
        case measure => simp [intOf]; omega
      · have HEQ := Lib.hid (fun W => eqE HD.out HX.out (b := false) (by simp [hdx]) W)
        have HWO := Lib.hid (show wo (ds.take (k + 1)) x = wo (ds.take k) x ++ [d] from by rw [wo_step HTK.out, if_neg hdx])
        clear hdx
        go_wp2_with (first | (refine wpList_load_row (by rfl) 37 _ (by rfl) wr.heap.size (by rfl) _ (cellsOf d).toArray (0, 0) _ HD2.out Tryd.underlying37 (by rfl) HI.out ?_) | (refine wpList_load_row (by rfl) 37 _ (by rfl) X0 (by rfl) _ (cellsOf x).toArray (0, 0) _ HX2.out Tryd.underlying37 (by rfl) HIX.out ?_) | (refine wpList_runE (by rfl) (.bool true) (exec_neE (b := false) guardE HEQ.out (x := .tmp 14) (y := .tmp 15) (by rfl) (by rfl) _ rfl _) ?_) | (refine wpList_dlay dtA (by rfl) _ (by rfl) w2.heap.size (by rfl) (some 19) (by rfl) d HD.out (by rfl) ?_) | (at_builtin; refine wpList_dpush dtA (by rfl) _ _ (by rfl) w1.heap.size u5 (wo (ds.take k) x) d HD.out (by rfl) HO2.out hsz2 (by rfl) hlen ?_; intro v3 w3 hown3 hb3; have HO3 := Lib.hid (show OwnD w3 w1.heap.size 37 v3 (wo (ds.take (k + 1)) x) from by rw [HWO.out]; exact hown3); have HB3 := Lib.hid (HB2.out.trans hb3); clear hown3 hb3))
        clear HO2
        go_roundw
        case rel => exact ⟨k + 1, by omega, by go_num, HO3, HB3⟩
        case measure => simp [intOf]; omega
    · have HO2 := Lib.hid (show OwnD wr w.heap.size 37 u5 (wo ds x) from by
        have := HO.out
        rw [List.take_of_length_le (by rw [HR.out.1]; omega)] at this
        exact this.base HQ.out.size)
      clear HO
      go_wp2_with fail
      go_ret
      exact ⟨_, rfl, HO2.out, HQ.out.trans (HB.out.mono HQ.out.size)⟩
end Go.Proofs.YtmomdfmilelilaaDoor
namespace Go.Proofs.YtmomdfmilelilaaDoor
open Go.RowKit
set_option linter.unusedVariables false
theorem chars_str (zs : List Nat) (hz : ∀ z ∈ zs, z < 256) : chars (str zs) = zs := by
  simp only [chars, str, List.map_map]
  apply List.ext_getElem
  · simp
  · intro i h1 h2
    have := hz _ (List.getElem_mem h2)
    simp
    omega
theorem str_chars (s : ByteArray) : str (chars s) = s := by
  obtain ⟨d⟩ := s
  simp only [chars, str, List.map_map]
  congr 1
  apply Array.ext
  · simp
  · intro i h1 h2
    simp
theorem hv_hexd (d : Nat) (h : d < 16) : Unm.hv (hexd d) = some d := by
  unfold hexd Unm.hv
  split
  · rw [if_pos (by omega)]; simp
  · rw [if_neg (by omega), if_pos (by omega)]; simp
theorem hexd_hv {c v : Nat} (h : Unm.hv c = some v) : hexd v = c := by
  unfold Unm.hv at h
  unfold hexd
  split at h
  · simp at h; split <;> omega
  · split at h
    · simp at h; split <;> omega
    · simp at h
theorem un_hex (zs : List Nat) (hz : ∀ z ∈ zs, z < 256) : Unm.un (hex zs) = some zs := by
  induction zs with
  | nil => rfl
  | cons z zs ih =>
    have h0 := hz z (by simp)
    have e : hex (z :: zs) = hexd (z / 16) :: hexd (z % 16) :: hex zs := by simp [hex]
    rw [e, Unm.un, hv_hexd _ (by omega), hv_hexd _ (by omega), ih (fun y hy => hz y (by simp [hy]))]
    simp
    omega
theorem hex_un (cs P : List Nat) (h : Unm.un cs = some P) : hex P = cs ∧ (∀ z ∈ P, z < 256) ∧ cs.length = 2 * P.length := by
  induction cs using Unm.un.induct generalizing P with
  | case1 => simp [Unm.un] at h; subst h; simp [hex]
  | case2 x => simp [Unm.un] at h
  | case3 x y r a b ha hb ih =>
    rw [Unm.un, ha, hb] at h
    simp at h
    obtain ⟨Q, hQ, rfl⟩ := h
    obtain ⟨i1, i2, i3⟩ := ih Q hQ
    have ha' := Unm.hv_lt ha
    have hb' := Unm.hv_lt hb
    refine ⟨?_, ?_, ?_⟩
    · have e : hex ((16 * a + b) :: Q) = hexd ((16 * a + b) / 16) :: hexd ((16 * a + b) % 16) :: hex Q := by simp [hex]
      rw [e, i1, show (16 * a + b) / 16 = a by omega, show (16 * a + b) % 16 = b by omega, hexd_hv ha, hexd_hv hb]
    · intro z hm
      simp at hm
      rcases hm with rfl | hm
      · omega
      · exact i2 z hm
    · simp; omega
  | case4 x y r hn =>
    rw [Unm.un] at h
    split at h
    · rename_i a b ha hb; exact absurd hb (hn a b ha)
    · simp at h
theorem chars_extract (s : ByteArray) (i j : Nat) : chars (s.extract i j) = ((chars s).take j).drop i := by
  simp only [chars, ByteArray.data_extract, Array.toList_extract, List.extract_eq_take_drop, List.drop_take, List.map_take, List.map_drop]
theorem run_arrAt (W : World) (b off c : Nat) : (Instr.arrayAt 37 (.slice (some ⟨b, off, none⟩) 32 c)).run Tryd.prog W = .ok (.pointer (some ⟨b, off, none⟩)) W := by
  unfold Instr.arrayAt
  rw [Sem.run_bind, run_underlying Tryd.underlying37]
  simp [Result.andThen]
theorem exec_arr {b off c : Nat} (h : ∀ W, (Instr.arrayAt 37 (.slice (some ⟨b, off, none⟩) 32 c)).run Tryd.prog W = .ok (.pointer (some ⟨b, off, none⟩)) W) {A : Act} {x : Operand} (hx : A.eval x = .slice (some ⟨b, off, none⟩) 32 c) (o : Oper) (ho : o.op = .sliceToArrayPointer 37 x) (W : World) : (execOp A.eval o).run Tryd.prog W = .ok (.value (.pointer (some ⟨b, off, none⟩))) W := by
  unfold execOp
  simp only [ho, hx, h W, Sem.run_bind, Result.andThen_ok, Sem.run_pure]
theorem exec_ld {p v : Value} {W : World} (h : (Instr.loadAt 37 p).run Tryd.prog W = .ok v W) {A : Act} {x : Operand} (hx : A.eval x = p) (o : Oper) (ho : o.op = .load 37 x) : (execOp A.eval o).run Tryd.prog W = .ok (.value v) W := by
  unfold execOp
  simp only [ho, hx, h, Sem.run_bind, Result.andThen_ok, Sem.run_pure]
theorem chars_fileB (ds : List Nat) (hd : D32 ds) : chars ((fileB ds).extract 2 66) = hex ds := by
  rw [chars_extract]
  have h : chars (fileB ds) = [98, 47] ++ hex ds := by
    unfold fileB
    have h1 := chars_str (hex ds) (hex_small ds hd.2)
    unfold chars at h1 ⊢
    rw [ByteArray.data_append, Array.toList_append, List.map_append, h1]
    rfl
  rw [h, List.take_of_length_le (by rw [List.length_append, hex_len, hd.1]; decide)]
  rfl
end Go.Proofs.YtmomdfmilelilaaDoor
namespace Go.Proofs.YtmomdfmilelilaaDoor
open Go.RowKit
set_option linter.unusedVariables false
set_option maxRecDepth 100000 in
set_option maxHeartbeats 4000000 in
theorem fileOf_c (ds : List Nat) (hd : D32 ds) (w : World) : Calls Tryd.prog 33 #[.string (fileB ds)] w fun e w' => e = .returned (.tuple #[.agg (cellsOf ds).toArray, .bool true]) ∧ Below w.heap.size w w' := by
  have HN := Lib.hid (show ∀ O : Obj, (w.alloc O).heap[w.heap.size]? = some O from fun O => heap_new w O)
  have HI32D := Lib.hid (show (Tryd.prog.info? 37).map (·.size) = some (cellsOf ds).toArray.size from by rw [cellsOf_size, hd.1]; exact info_dig)
  have HSZD := Lib.hid (show (cellsOf zs32).toArray.size = (cellsOf ds).toArray.size from by rw [cellsOf_size, cellsOf_size, zs32_len, hd.1])
  obtain ⟨s, hs⟩ : ∃ s, s = fileB ds := ⟨_, rfl⟩
  have hsz : s.size = 66 := by rw [hs]; exact fileB_size ds hd
  have HUN := Lib.hid (show ∀ W, Calls Tryd.prog 56 #[.string (s.extract 2 66)] W (UnRet W.heap.size W (some ds)) from fun W => by
    have := unhex_c ((fileB ds).extract 2 66) W (by rw [ByteArray.size_extract]; omega)
    rw [chars_fileB ds hd, un_hex ds hd.2] at this
    rw [hs]
    exact this)
  rw [← hs]
  have HD32 := Lib.hid hd
  clear hs hd
  go_enter Tryd.func33, Tryd.ntmps33
  go_wp2_with fail
  refine (HUN.out _).mono ?_
  rintro e1 w1 ⟨v, rfl, hown, hb1⟩
  simp only [Option.getD_some] at hown
  obtain ⟨a', c', rfl, hlc, hcm, hrd⟩ := hown.rd HD32.out.2
  rw [HD32.out.1] at hrd ⊢
  obtain ⟨_, _, h0 | ⟨b, off, rfl, hbl, hcell⟩⟩ := hrd
  · omega
  have hb0 : Below w.heap.size w w1 := ((Below.refl w.heap.size w).alloc (Nat.le_refl _) _).trans (hb1.mono (by simp))
  have HRB := Lib.hid (show Brow w1 w.heap.size 37 zs32 from (hb1.block w.heap.size (by simp)).trans (HN.out _))
  have HAA := Lib.hid (fun W => run_arrAt W b off c')
  have HLD := Lib.hid (show (Instr.loadAt 37 (.pointer (some ⟨b, off, none⟩))).run Tryd.prog w1 = .ok (.agg (cellsOf ds).toArray) w1 from run_loadAt_mid w1 b off 37 (cellsOf ds) _ (fun j v hv => by
    have hj : j < 32 := by
      have := (List.getElem?_eq_some_iff.1 hv).1
      rwa [cellsOf_length, HD32.out.1] at this
    rw [hcell j hj]
    unfold cellsOf at hv
    rw [List.getElem?_map] at hv
    rw [List.getD_eq_getElem?_getD]
    cases hq : ds[j]? with
    | none => rw [hq] at hv; cases hv
    | some q => rw [hq] at hv; simpa using hv) Tryd.underlying37 rfl (by rw [cellsOf_length, HD32.out.1]; exact info_dig))
  have HB := Lib.hid hb0
  clear hown hlc hcm hbl hcell hb1 hb0 HUN hsz
  have kA := HAA.out
  go_wp2_with (first | (refine wpList_loadg 37 _ (by rfl) (by rfl) (.pointer (some ⟨b, off, none⟩)) (by rfl) (.agg (cellsOf ds).toArray) HLD.out ?_) | (refine wpList_store_row (by rfl) 37 _ _ (by rfl) w.heap.size (cellsOf ds).toArray (by rfl) (by rfl) 37 (cellsOf zs32).toArray HRB.out HI32D.out HSZD.out (cellsOf_all _) ?_))
  refine bodyPost_ret (results_row_tmpB (by rfl) _ _ w.heap.size _ (cellsOf ds).toArray (0, 0) _ (by rfl) (setRow_heap _ _ _ _ _ _ HRB.out) Tryd.underlying37 (by rfl) HI32D.out) ?_ ?_
  · rfl
  · exact ⟨rfl, HB.out.setRow (Nat.le_refl _) _⟩
end Go.Proofs.YtmomdfmilelilaaDoor
namespace Go.Proofs.YtmomdfmilelilaaDoor
open Go.RowKit
set_option linter.unusedVariables false
theorem run_sidxE (W : World) (b o len cap i : Nat) (hi : i < len) : (Instr.indexAt 77 (.slice (some ⟨b, o, none⟩) len cap) (.int .i64 (i : Int))).run Tryd.prog W = .ok (.pointer (some ⟨b, o + i, none⟩)) W := by
  rw [run_indexAt_slice W 77 ⟨b, o, none⟩ len cap .i64 (i : Int) (by kernel_rfl)]
  have h1 : (0 : Int) ≤ (i : Int) ∧ (i : Int) < (len : Int) := by omega
  rw [if_pos h1, show (Go.sizeOf (Tryd.prog.elem 77)).run Tryd.prog W = .ok 1 W from by kernel_rfl]
  simp [Result.andThen, Addr.add]
theorem OwnS.cellE {w : World} {B n c : Nat} {a : Option Addr} {cs : List ByteArray} (h : OwnS w B (.slice a n c) cs) (hn : n = cs.length) {i : Nat} {s : ByteArray} (hs : cs[i]? = some s) : ∃ g, a = some ⟨g, 0, none⟩ ∧ g < w.heap.size ∧ w.cell? ⟨g, i, none⟩ = some (.string s) := by
  have hi := (List.getElem?_eq_some_iff.1 hs).1
  rcases h.2 with ⟨h1, h2⟩ | ⟨g, c', cur, h1, h2, h3, h4, h5, h6, h7⟩
  · omega
  · obtain ⟨e1, e2, e3⟩ := Value.slice.inj h1
    subst e1
    refine ⟨g, rfl, (Array.getElem?_eq_some_iff.1 h3).1, ?_⟩
    rw [cell_of_row w g i cur _ _ h3, ← Array.getElem?_toList]
    have h8 := congrArg (fun l => l[i]?) h7
    simp only [List.getElem?_map, hs, Option.map_some, List.getElem?_take] at h8
    rw [if_pos (by omega)] at h8
    exact h8
theorem nowlen {X : Nat → Prop} {B d N : Nat} {A : Ad} {w : World} (h : Dx X B d N A w) : A.now.length ≤ N := by
  obtain ⟨S, h1, h2, -⟩ := h.ex
  have h3 := h2.size
  have h4 := h2.big
  rcases h1.rest.hm with ⟨_, h5⟩ | ⟨m, _, _, h5⟩
  · rw [h5] at h3
    have : Maps.size (.map [] : DU) = 0 := rfl
    omega
  · have := h5.size_le
    omega
set_option maxRecDepth 100000 in
set_option maxHeartbeats 4000000 in
theorem blist_c {X : Nat → Prop} {B d N sb : Nat} {A : Ad} {w : World} (h : Bs X B d sb N A w) (hdn : A.down = false) (ls : Ds) (hnm : namesF A.now ⟨#[98, 47]⟩ = ls.map fileB) (hd : ∀ d ∈ ls, D32 d) (hN : N ≤ 100000) :
    Calls Tryd.prog 15 #[.pointer (some ⟨sb, 0, none⟩)] w fun e w' => ∃ v, e = .returned (.tuple #[v, .int .i64 0]) ∧ OwnD w' w.heap.size 37 v ls ∧ Below w.heap.size w w' := by
  have hcs := h.st
  have hnl := nowlen h.dx
  have hlen : ls.length ≤ 100000 := by
    have h1 : (namesF A.now ⟨#[98, 47]⟩).length ≤ A.now.length := by
      unfold namesF
      refine Nat.le_trans (List.length_filter_le ..) ?_
      rw [List.length_map]; exact Nat.le_refl _
    rw [hnm, List.length_map] at h1
    omega
  obtain ⟨S, k1, k2, -⟩ := h.dx.ex
  have hN2 := anames k1 k2 ⟨#[98, 47]⟩ (by omega)
  unfold NmA at hN2
  rw [hdn] at hN2
  simp only [Bool.false_eq_true, if_false] at hN2
  have HN2 := Lib.hid hN2
  have HNM := Lib.hid hnm
  have HD := Lib.hid hd
  clear h hnl k1 k2 hN2 hnm hd hdn
  go_enter Tryd.func15, Tryd.ntmps15
  go_wp2_with fail
  refine HN2.out.mono ?_
  rintro e1 w1 ⟨a, n, c, rfl, hown, hn, hb1⟩
  rw [HNM.out] at hown hn
  rw [List.length_map] at hn
  have HOS := Lib.hid hown
  have HB1 := Lib.hid hb1
  have HNL := Lib.hid hn
  have hnn : n ≤ 100000 := by omega
  clear hown hn hb1 hcs HN2
  go_wp2_with fail
  go_loopw [6, 26] (fun v i wr => ∃ k : Nat, k ≤ n ∧ i = .int .i64 k ∧ Hid (OwnD wr w1.heap.size 37 v (ls.take k)) ∧ Hid (Below w1.heap.size w1 wr)) (fun _ i _ => n - (intOf i).toNat)
  case atStart => exact ⟨0, Nat.zero_le _, rfl, OwnD.nil _ _ _, Below.refl _ _⟩
  case round =>
    obtain ⟨k, hk, rfl, HO, HB⟩ := hrel
    by_cases hkn : k < n
    · obtain ⟨x, hx⟩ : ∃ x, x = ls.getD k [] := ⟨_, rfl⟩
      have hkl : k < ls.length := by have := HNL.out; omega
      have hgx : ls[k]? = some x := by
        rw [hx, List.getD_eq_getElem?_getD]
        simp [List.getElem?_eq_getElem hkl]
      have HXD := Lib.hid (show D32 x from HD.out x (List.mem_of_getElem? hgx))
      have HTK := Lib.hid (show ls.take (k + 1) = ls.take k ++ [x] from by rw [hx]; exact take_stepE rfl hkl)
      obtain ⟨g, rfl, hg, hc⟩ := HOS.out.cellE (by rw [List.length_map]; exact HNL.out) (i := k) (s := fileB x) (by rw [List.getElem?_map, hgx]; rfl)
      have hcr := (HB.out.cell (p := ⟨g, k, none⟩) hg).trans hc
      have kI := fun W => run_sidxE W g 0 n c k hkn
      simp only [Nat.zero_add] at kI
      have HF := Lib.hid (fun W => fileOf_c x HXD.out W)
      have HI := Lib.hid (infoE HXD.out)
      have HZ := Lib.hid (zsizeE HXD.out)
      have hsz := HB.out.size
      have hlk : (ls.take k).length + 1 ≤ 4398046511104 := by rw [List.length_take]; omega
      clear hgx hx hc hkl
      go_wp2_with fail
      refine (HF.out _).mono ?_
      rintro e2 w2 ⟨rfl, hb2⟩
      have HB2 := Lib.hid (HB.out.trans (hb2.mono hsz))
      have HO2 := Lib.hid (HO.out.below hb2 (Nat.le_refl _))
      have hsz2 := HB2.out.size
      have K1 := Lib.hid (fun (X : Obj) (hX : X = .cells (cellsOf zs32).toArray 37 (0, 0)) => show Brow ((w2.alloc X).setRow w2.heap.size (cellsOf x).toArray) w2.heap.size 37 x ∧ Below w2.heap.size w2 ((w2.alloc X).setRow w2.heap.size (cellsOf x).toArray) from by
        subst hX
        exact ⟨(Brow.new w2 37 zs32).setRow, ((Below.refl _ _).alloc (Nat.le_refl _) _).setRow (Nat.le_refl _) _⟩)
      clear hb2 HB HO hcr kI HF
      go_upto_region 11 with (first | (refine wpList_store_row (by rfl) 37 _ _ (by rfl) w2.heap.size (cellsOf x).toArray (by rfl) (by rfl) 37 (cellsOf zs32).toArray (by exact heap_new _ _) HI.out HZ.out (cellsOf_all _) ?_))
      refine gen_code (F := fun W => Brow W w2.heap.size 37 x ∧ Below w2.heap.size w2 W) (K1.out _ rfl) ?_
      rintro w3 ⟨hd3, hb3⟩
      have HD3 := Lib.hid hd3
      have HO3 := Lib.hid (HO2.out.below hb3 (Nat.le_refl _))
      have HB3 := Lib.hid (HB2.out.trans (hb3.mono hsz2))
      have hsz3 := HB3.out.size
      clear hd3 hb3 K1 HB2 HO2
      go_wp2_with (first | (refine wpList_load_row (by rfl) 37 _ (by rfl) w2.heap.size (by rfl) _ (cellsOf x).toArray (0, 0) _ HD3.out Tryd.underlying37 (by rfl) HI.out ?_) | (refine wpList_dlay dtA (by rfl) _ (by rfl) w3.heap.size (by rfl) (some 38) (by rfl) x HXD.out (by rfl) ?_) | (at_builtin; refine wpList_dpush dtA (by rfl) _ _ (by rfl) w1.heap.size u6 (ls.take k) x HXD.out (by rfl) HO3.out hsz3 (by rfl) hlk ?_; intro v4 w4 hown4 hb4; have HO4 := Lib.hid (show OwnD w4 w1.heap.size 37 v4 (ls.take (k + 1)) from by rw [HTK.out]; exact hown4); have HB4 := Lib.hid (HB3.out.trans hb4); clear hown4 hb4))
      clear HO3 HB3
      go_roundw
      case rel => exact ⟨k + 1, by omega, by go_num, HO4, HB4⟩
      case measure => simp [intOf]; omega
    · have HO2 := Lib.hid (show OwnD wr w.heap.size 37 u6 ls from by
        have := HO.out
        rw [List.take_of_length_le (by have := HNL.out; omega)] at this
        exact this.base HB1.out.size)
      clear HO
      go_wp2_with fail
      go_ret2
      exact ⟨_, rfl, HO2.out, HB1.out.trans (HB.out.mono HB1.out.size)⟩
end Go.Proofs.YtmomdfmilelilaaDoor
namespace Go.Proofs.YtmomdfmilelilaaDoor
open Go.RowKit
set_option linter.unusedVariables false
section
variable {P : Program} {ops : Array Oper} {Q : Exit → Act → World → Prop} {md : Region.Mode} {S : World → Prop}
theorem anyH_twoE (i j : Nat) {d1 d2 : Option Tmp} {op1 op2 : Op} {fuel : Nat} {listed : Array Bool} {a : Act} {w : World}
    (h0 : Region.ready md ops listed = [i, j]) (hi : (ops[i]?.map fun o => (o.dst, o.op, o.guard)) = some (d1, op1, none)) (hj : (ops[j]?.map fun o => (o.dst, o.op, o.guard)) = some (d2, op2, none))
    (h1 : ∀ o : Oper, o.dst = d1 → o.op = op1 → o.wp P a w (fun a w => S w ∧ wpAnyH P md ops Q S fuel (listed.setIfInBounds i true) a w) Q)
    (h2 : ∀ o : Oper, o.dst = d2 → o.op = op2 → o.wp P a w (fun a w => S w ∧ wpAnyH P md ops Q S fuel (listed.setIfInBounds j true) a w) Q) : wpAnyH P md ops Q S (fuel + 1) listed a w := by
  refine wpAnyH_all h0 (by simp) ?_
  intro k hk
  simp only [List.mem_cons, List.not_mem_nil, or_false] at hk
  rcases hk with rfl | rfl
  · cases ho : ops[k]? with
    | none => simp [ho] at hi
    | some o =>
      simp only [ho, Option.map_some, Option.some.injEq, Prod.mk.injEq] at hi
      obtain ⟨g1, g2, g3⟩ := hi
      unfold wpOp
      simp only [ho, wanted_plain g3, if_true]
      exact .inl (h1 o g1 g2)
  · cases ho : ops[k]? with
    | none => simp [ho] at hj
    | some o =>
      simp only [ho, Option.map_some, Option.some.injEq, Prod.mk.injEq] at hj
      obtain ⟨g1, g2, g3⟩ := hj
      unfold wpOp
      simp only [ho, wanted_plain g3, if_true]
      exact .inl (h2 o g1 g2)
theorem anyH_oneE (i : Nat) {d1 : Option Tmp} {op1 : Op} {fuel : Nat} {listed : Array Bool} {a : Act} {w : World}
    (h0 : Region.ready md ops listed = [i]) (hi : (ops[i]?.map fun o => (o.dst, o.op, o.guard)) = some (d1, op1, none))
    (h1 : ∀ o : Oper, o.dst = d1 → o.op = op1 → o.wp P a w (fun a w => S w ∧ wpAnyH P md ops Q S fuel (listed.setIfInBounds i true) a w) Q) : wpAnyH P md ops Q S (fuel + 1) listed a w := by
  refine wpAnyH_all h0 (by simp) ?_
  intro k hk
  simp only [List.mem_cons, List.not_mem_nil, or_false] at hk
  subst hk
  cases ho : ops[k]? with
  | none => simp [ho] at hi
  | some o =>
    simp only [ho, Option.map_some, Option.some.injEq, Prod.mk.injEq] at hi
    obtain ⟨g1, g2, g3⟩ := hi
    unfold wpOp
    simp only [ho, wanted_plain g3, if_true]
    exact .inl (h1 o g1 g2)
/-- a call, at its operation -/
theorem wp_callE {f : FuncId} {xs : Array Operand} {ts : Array TypeId} {vs : Array Value} {o : Oper} {a : Act} {w : World} {K : Act → World → Prop} {R : Ending → World → Prop}
    (ho : o.op = .call { callee := .value (.func f), args := xs, argTypes := ts }) (hx : xs.map a.eval = vs) (hf : (callFunc f vs).run P w = .ok (.enter f vs) w) (hc : Calls P f vs w R)
    (h : ∀ e w', R e w' → ∃ v, e = .returned v ∧ K (a.put o.dst v) w') : o.wp P a w K Q := by
  have hr : (execOp a.eval o).run P w = .ok (.enter f vs) w := by
    unfold execOp
    rw [ho]
    simp [resolve, invoke, hx, Act.eval, go_sem, hf]
  unfold Oper.wp
  rw [hr]
  refine hc.mono fun e w' hR => ?_
  obtain ⟨v, rfl, hv⟩ := h e w' hR
  exact hv
end
theorem wp_dlayE {T E : TypeId} (hT : DT T E) {w : World} {o : Oper} {a : Act} {K : Act → World → Prop} {Q : Exit → Act → World → Prop} (x : Operand) (ho : o.op = .buildSlice T 1 #[(0, x)])
    (d : List Nat) (hd : D32 d) (hx : a.eval x = .agg (cellsOf d).toArray)
    (h : K (a.put o.dst (.slice (some ⟨w.heap.size, 0, none⟩) 1 1)) (w.alloc (.cells (cellsOf d).toArray E))) : o.wp Tryd.prog a w K Q := by
  have hf := hT.one (cellsOf d).toArray (by rw [cellsOf_size, hd.1])
  obtain ⟨i, z, hi, hz, hs, _, _⟩ := hT.info
  unfold Program.builtSlice at hf
  simp only [hi, hz] at hf
  rw [if_neg (by rw [hs]; omega)] at hf
  exact wp_buildSlice T E 1 _ ho (cellsOf d).toArray i z hT.und hi hz (by rw [hs]; omega) (by rw [hs]; omega) (by simp only [List.map_toArray, List.map_cons, List.map_nil, hx]; exact hf) h
/-- append(s, d) of one sum that lies somewhere, and where the new slice lies -/
theorem wp_dpushE {w : World} {o : Oper} {a : Act} {K : Act → World → Prop} {Q : Exit → Act → World → Prop} (s x : Operand)
    (ho : o.op = .call { callee := .builtin .append, args := #[s, x], argTypes := #[32, 32] })
    (B : Nat) (v : Value) (ds : Ds) (d : List Nat) (hd : D32 d) (hs : a.eval s = v) (hown : OwnD w B 37 v ds) (hB : B ≤ w.heap.size) (g : Nat) (hx : a.eval x = .slice (some ⟨g, 0, none⟩) 1 1) (hg : Brow w g 37 d)
    (hlen : ds.length + 1 ≤ 4398046511104)
    (h : ∀ v' w', OwnD w' B 37 v' (ds ++ [d]) → w.grownBy w' v.ownBlock → (v'.ownBlock = v.ownBlock ∨ v'.ownBlock = some w.heap.size) → K (a.put o.dst v') w') :
    o.wp Tryd.prog a w K Q := by
  obtain ⟨i0, z, hi, hz0, hz1, hz2, hz3⟩ := dtA.info
  obtain ⟨v', w', hr, h2, h3, h4, h5⟩ := run_append_own_at (P := Tryd.prog) w B 32 o.type 37 i0 z 32 32 dtA.und hi hz0 hz1 hz2 hz3 (by decide) v ds.length (cellsOf ds.flatten) hown ⟨g, 0, none⟩ 1 1 (cellsOf d) (by rw [cellsOf_length, hd.1]) (fun j u hj => by
    rw [Addr.add_mid, Nat.zero_add, cell_of_row _ _ _ _ _ _ hg]
    simpa using hj) (cellsOf_one _) (by unfold maxLen; omega) (by omega) hB
  unfold Oper.wp execOp
  simp only [ho, resolve, invoke, builtin, Sem.run_bind, Sem.run_pure, Result.andThen_ok, List.map_toArray, List.map_cons, List.map_nil, hs, hx, hr]
  refine h v' w' ?_ h3 h5
  have e : (ds ++ [d]).length = ds.length + 1 := by simp
  unfold OwnD
  rw [e, List.flatten_append, List.flatten_cons, List.flatten_nil, List.append_nil, cellsOf_append]
  exact h2
/-- the two lists -/
structure Lst (X : Nat → Prop) (B sb : Nat) (hv uv : Value) (Hl Sl : Ds) (w : World) : Prop where
  oh : OwnD w B 37 hv Hl
  ou : OwnD w B 37 uv Sl
  xh : ∀ j, hv.ownBlock = some j → X j ∧ j ≠ sb
  xu : ∀ j, uv.ownBlock = some j → X j ∧ j ≠ sb
  ne : ∀ j, hv.ownBlock = some j → uv.ownBlock ≠ some j
theorem OwnD.keepE {w w' : World} {B : Nat} {E : TypeId} {v : Value} {ds : Ds} (h : OwnD w B E v ds) (hk : ∀ k, v.ownBlock = some k → w'.heap[k]? = w.heap[k]?) : OwnD w' B E v ds := row_keep h hk
theorem Lst.kp {X Y : Nat → Prop} {B sb : Nat} {hv uv : Value} {Hl Sl : Ds} {w w' : World} (h : Lst X B sb hv uv Hl Sl w) (hk : KpD Y w w') (hX : ∀ j, X j → Y j) : Lst X B sb hv uv Hl Sl w' :=
  ⟨h.oh.keepE fun k e => hk k (hX k (h.xh k e).1), h.ou.keepE fun k e => hk k (hX k (h.xu k e).1), h.xh, h.xu, h.ne⟩
theorem Lst.below {X : Nat → Prop} {B sb : Nat} {hv uv : Value} {Hl Sl : Ds} {w w' : World} (h : Lst X B sb hv uv Hl Sl w) (hb : Below w.heap.size w w') : Lst X B sb hv uv Hl Sl w' :=
  ⟨h.oh.keepE fun k e => hb.block k (h.oh.block k e).2, h.ou.keepE fun k e => hb.block k (h.ou.block k e).2, h.xh, h.xu, h.ne⟩
theorem Lst.more {X Y : Nat → Prop} {B sb : Nat} {hv uv : Value} {Hl Sl : Ds} {w : World} (h : Lst X B sb hv uv Hl Sl w) (hX : ∀ j, X j → Y j) : Lst Y B sb hv uv Hl Sl w :=
  ⟨h.oh, h.ou, fun j e => ⟨hX j (h.xh j e).1, (h.xh j e).2⟩, fun j e => ⟨hX j (h.xu j e).1, (h.xu j e).2⟩, h.ne⟩
/-- another store, laid later -/
theorem Lst.sb {X Y : Nat → Prop} {B sb sb' : Nat} {hv uv : Value} {Hl Sl : Ds} {w w' : World} (h : Lst X B sb hv uv Hl Sl w) (hs : w.heap.size ≤ sb') (hk : KpD X w w') (hX : ∀ j, X j → Y j) : Lst Y B sb' hv uv Hl Sl w' :=
  ⟨h.oh.keepE fun k e => hk k (h.xh k e).1, h.ou.keepE fun k e => hk k (h.xu k e).1, fun j e => ⟨hX j (h.xh j e).1, by have := (h.oh.block j e).2; omega⟩, fun j e => ⟨hX j (h.xu j e).1, by have := (h.ou.block j e).2; omega⟩, h.ne⟩
/-- the lists become others: each in its own row, or in a new one -/
theorem step_lists {X : Nat → Prop} {B d sb N : Nat} {A : Ad} {w w' : World} {hv uv hv' uv' : Value} {Hl Sl Hl' Sl' : Ds} (h : Bs X B d sb N A w) (l : Lst X B sb hv uv Hl Sl w) (hz : w.heap.size ≤ w'.heap.size)
    (hk : ∀ k, k < w.heap.size → uv.ownBlock ≠ some k → w'.heap[k]? = w.heap[k]?) (oh : OwnD w' B 37 hv' Hl') (ou : OwnD w' B 37 uv' Sl')
    (ch : hv'.ownBlock = hv.ownBlock ∨ ∀ j, hv'.ownBlock = some j → w.heap.size ≤ j) (cu : uv'.ownBlock = uv.ownBlock ∨ ∀ j, uv'.ownBlock = some j → w.heap.size ≤ j)
    (ne : ∀ j, hv'.ownBlock = some j → uv'.ownBlock = some j → j < w.heap.size) : ∃ Y : Nat → Prop, (∀ j, X j → Y j) ∧ Bs Y B d sb N A w' ∧ Lst Y B sb hv' uv' Hl' Sl' w' := by
  have hsb := h.dx.lt sb h.sx
  have hs1 : uv.ownBlock ≠ some sb := fun e => (l.xu sb e).2 rfl
  have dh : ∀ j, hv'.ownBlock = some j → (X j ∧ j ≠ sb) ∨ w.heap.size ≤ j := fun j e => by
    rcases ch with c | c
    · exact .inl (l.xh j (by rw [← c]; exact e))
    · exact .inr (c j e)
  have du : ∀ j, uv'.ownBlock = some j → (X j ∧ j ≠ sb) ∨ w.heap.size ≤ j := fun j e => by
    rcases cu with c | c
    · exact .inl (l.xu j (by rw [← c]; exact e))
    · exact .inr (c j e)
  refine ⟨fun j => X j ∨ hv'.ownBlock = some j ∨ uv'.ownBlock = some j, fun j hj => .inl hj, ⟨?_, .inl h.sx, (World.cell?_of_block (hk sb hsb hs1)).trans h.st⟩, oh, ou, fun j e => ⟨.inr (.inl e), ?_⟩, fun j e => ⟨.inr (.inr e), ?_⟩, fun j e1 e2 => ?_⟩
  · refine h.dx.more hz (fun k hk1 hk2 => hk k hk1 fun e => hk2 (l.xu k e).1) (fun j hj => ?_) fun j hj => ?_
    · rcases hj with hj | hj | hj
      · exact .inl hj
      · exact (dh j hj).imp (fun x => x.1) id
      · exact (du j hj).imp (fun x => x.1) id
    · rcases hj with hj | hj | hj
      · exact Nat.lt_of_lt_of_le (h.dx.lt j hj) hz
      · exact (oh.block j hj).2
      · exact (ou.block j hj).2
  · rcases dh j e with x | x
    · exact x.2
    · omega
  · rcases du j e with x | x
    · exact x.2
    · omega
  · have hlt := ne j e1 e2
    rcases ch with c | c
    · rcases cu with c' | c'
      · exact l.ne j (by rw [← c]; exact e1) (by rw [← c']; exact e2)
      · have := c' j e2; omega
    · have := c j e1; omega
end Go.Proofs.YtmomdfmilelilaaDoor
namespace Go.Proofs.YtmomdfmilelilaaDoor
open Go.ChangeShapes Go.WideShapes Go.ChangeAt Go.RowKit Go.Deep
set_option linter.unusedVariables false
abbrev Sl := Option Addr × Nat × Nat × List Nat
def slv (s : Sl) : Value := .slice s.1 s.2.1 s.2.2.1
def SlB (W : World) (s : Sl) : Prop := Rd W s.1 s.2.1 s.2.2.2 ∧ (s.1 = none → s.2.2.1 = 0) ∧ s.2.1 ≤ s.2.2.1 ∧ s.2.2.1 ≤ 140737488351232
theorem SlB.below {W W' : World} {s : Sl} (h : SlB W s) (hb : Below W.heap.size W W') : SlB W' s := ⟨h.1.below hb, h.2⟩
theorem weightsAll_mem {H : Type} {P : Program} {e : TypeId} : ∀ {l : List (DataW H)} {d : DataW H} {n : Nat}, d ∈ l → n ∈ d.weights P e → n ∈ DataW.weightsAll P e l
  | x :: l, d, n, hd, hn => by
    simp only [DataW.weightsAll, List.mem_append]
    rcases List.mem_cons.1 hd with rfl | hd
    · exact .inl hn
    · exact .inr (weightsAll_mem hd hn)
theorem bytes_u8 : Tryd.prog.bytesOf 5 = 1 := by kernel_rfl
end Go.Proofs.YtmomdfmilelilaaDoor
namespace Go.Proofs.YtmomdfmilelilaaDoor
open Go.ChangeShapes Go.WideShapes Go.ChangeAt Go.RowKit Go.Deep
set_option linter.unusedVariables false
/-- kinds of fields -/
inductive FK where
  | i
  | s
  | b
def FK.ty : FK → TypeId
  | .i => 3
  | .s => 9
  | .b => 33
inductive FV where
  | i (n : Int)
  | s (t : ByteArray)
  | b (z : Sl)
instance : Inhabited FV := ⟨.i 0⟩
def FV.val : FV → Value
  | .i n => .int .i64 n
  | .s t => .string t
  | .b z => slv z
def FV.ok (W : World) : FK → FV → Prop
  | .i, .i n => (Lit.int .i64 n).wf = true
  | .s, .s t => t.size ≤ maxLen
  | .b, .b z => SlB W z
  | _, _ => False
theorem FV.ok_below {W W' : World} {k : FK} {v : FV} (h : FV.ok W k v) (hb : Below W.heap.size W W') : FV.ok W' k v := by
  cases k <;> cases v <;> first | exact h | exact SlB.below h hb | exact h.elim
def StsIn (W : World) (ks : List FK) (a : Option Addr) (len cap : Nat) (L : List (List FV)) : Prop :=
  L.length = len ∧ (a = none → cap = 0) ∧ len ≤ cap ∧ cap ≤ 9223372036854775807 ∧ (len = 0 ∨ ∃ b off, a = some ⟨b, off, none⟩ ∧ b < W.heap.size ∧ ∀ (i : Nat) (r : List FV), L[i]? = some r → ∀ (j : Nat) (v : FV), r[j]? = some v → W.cell? ⟨b, off + i * ks.length + j, none⟩ = some v.val) ∧ ∀ r : List FV, r ∈ L → r.length = ks.length ∧ ∀ (j : Nat) (k : FK) (v : FV), ks[j]? = some k → r[j]? = some v → FV.ok W k v
theorem stsIn_nil (W : World) (ks : List FK) : StsIn W ks none 0 0 [] := ⟨rfl, fun _ => rfl, Nat.le_refl _, by omega, .inl rfl, fun r hr => by cases hr⟩
theorem open_field {H : Type} {enc : TypeId × Value → H} {W : World} {base n : Nat} {held : Bool} {k : FK} {cs : List Value} {x : DataW H × List MemPlace}
    (h : DataW.trod enc Tryd.prog W base (fun _ => true) held n k.ty cs = some x) (hsz : ∀ m ∈ DataW.weights Tryd.prog k.ty x.1, m ≤ reachBytes) : ∃ v : FV, cs = [v.val] ∧ FV.ok W k v := by
  cases k with
  | i =>
    obtain ⟨m, h1, h2, h3⟩ := DataW.trod_int Tryd.underlying3 h
    exact ⟨.i m, h1, h3⟩
  | s =>
    obtain ⟨s, h1, h2, h3⟩ := DataW.trod_string Tryd.underlying9 h
    exact ⟨.s s, h1, h3⟩
  | b =>
    rcases open_ints Tryd.underlying33 Tryd.underlying5 (by kernel_rfl) h with ⟨e, _⟩ | ⟨x', l', c', zs, e, _, hl', hm', hz, hx', hcell, hwz⟩
    · exact ⟨.b (none, 0, 0, []), e, ⟨⟨rfl, by simp, .inl rfl⟩, fun _ => rfl, Nat.le_refl _, Nat.zero_le _⟩⟩
    · simp only [if_true] at hz
      have hdi := (Prod.mk.inj hx').1
      have hw : (lits .u8 (zs.take l') : List (DataW H)).length + (lits .u8 (zs.drop l') : List (DataW H)).length ≤ reachBytes := by
        refine hsz _ ?_
        rw [hdi]
        simp only [DataW.weights, FK.ty, Tryd.underlying33, bytes_u8, Nat.mul_one]
        exact List.mem_cons_self
      simp only [lits, List.length_map, List.length_take, List.length_drop, reachBytes] at hw
      obtain ⟨b1, b2, b3, b4⟩ := bytesIn_some hl' hz (by omega) hcell hwz
      exact ⟨.b (some x', l', c', _), e, ⟨b1, b2, b3, b4⟩⟩
set_option maxRecDepth 100000 in
theorem open_sts {H : Type} {enc : TypeId × Value → H} {W : World} {base : Nat} {held : Bool} {t e : TypeId} {fs : Array Field} (ks : List FK) (ht : Tryd.prog.underlying t = some (.slice e)) (he : Tryd.prog.underlying e = some (.struct fs))
    (hone : ∀ (i : Nat) (f : Field), fs[i]? = some f → f.offset = i ∧ Tryd.prog.cellsOf f.type = 1) (hC : Tryd.prog.cellsOf e = ks.length) (hK : ks.length ≠ 0) (hty : fs.toList.map (·.type) = ks.map FK.ty)
    {d : DataW H} {p : List MemPlace} {a : Option Addr} {len cap : Nat}
    (h : DataW.Trod enc Tryd.prog W base (fun _ => true) held t (.slice a len cap) d p) (hsz : ∀ n ∈ DataW.weights Tryd.prog t d, n ≤ reachBytes) : ∃ L, StsIn W ks a len cap L := by
  obtain ⟨fuel, hf⟩ := h
  have hfl : fs.size = ks.length := by
    have := congrArg List.length hty
    simpa using this
  rcases open_slice ht hf with ⟨hcs, _⟩ | ⟨x, l, c, m, n, D, Pl, hcs, _, hl, hcm, hm, hx, hi⟩
  · simp [Value.cells] at hcs
    obtain ⟨rfl, rfl, rfl⟩ := hcs
    exact ⟨[], stsIn_nil _ _⟩
  · simp [Value.cells] at hcs
    obtain ⟨rfl, rfl, rfl⟩ := hcs
    simp only [if_true] at hm
    subst hm
    have hd := (Prod.mk.inj hx).1
    rw [hC] at hi
    unfold maxLen at hcm
    obtain ⟨Z, hZ⟩ := choose_lt (α := List FV) (n := len) (p := fun i r => (r.length = ks.length ∧ ∀ j k v, ks[j]? = some k → r[j]? = some v → FV.ok W k v) ∧ W.cells? base (x.add (i * ks.length)) ks.length = some (r.map FV.val)) (fun i him => by
      obtain ⟨cs', h1, h2⟩ := hi i (by omega)
      obtain ⟨xs, n', _, hxy, hl2, hxl, hff⟩ := DataW.trod_struct he h2
      rw [hC] at hl2
      obtain ⟨V, hV⟩ := choose_lt (α := FV) (n := ks.length) (p := fun j v => cs'[j]? = some v.val ∧ ∀ k, ks[j]? = some k → FV.ok W k v) (fun j hj => by
        have hjf : fs[j]? = some fs[j] := Array.getElem?_eq_getElem (by omega)
        have hkj : ks[j]? = some ks[j] := List.getElem?_eq_getElem hj
        have htj : (fs[j]).type = (ks[j]).ty := by
          have h3 := congrArg (fun l => l[j]?) hty
          simp only [List.getElem?_map, Array.getElem?_toList, hjf, hkj, Option.map_some, Option.some.injEq] at h3
          exact h3
        obtain ⟨ho, hc1⟩ := hone j _ hjf
        have g := hff j _ hjf
        rw [ho, hc1, take1_drop cs' j undef (by omega), htj] at g
        have hxj : xs[j]? = some xs[j] := List.getElem?_eq_getElem (by omega)
        rw [hxj] at g
        obtain ⟨v, h3, h4⟩ := open_field g (fun q hq => hsz q (by
          rw [hd]
          simp only [DataW.weights, ht]
          refine List.mem_cons_of_mem _ (List.mem_append_left _ (weightsAll_mem (d := D i) (List.mem_map.2 ⟨i, by simpa using him, rfl⟩) ?_))
          rw [(Prod.mk.inj hxy).1]
          simp only [DataW.weights, he]
          exact DataW.weights_mem_each (j := j) (t := (ks[j]).ty) (by rw [hty, List.getElem?_map, hkj]; rfl) (by rw [List.getElem?_map, hxj]; rfl) q hq))
        refine ⟨v, ?_, fun k hk => by rw [hkj] at hk; cases hk; exact h4⟩
        have h5 : cs'.getD j undef = v.val := by simpa using h3
        rw [List.getElem?_eq_getElem (by omega), ← h5]
        simp [List.getD, List.getElem?_eq_getElem (show j < cs'.length by omega)])
      refine ⟨(List.range ks.length).map V, ⟨by simp, fun j k v hk hv => ?_⟩, ?_⟩
      · have hj : j < ks.length := (List.getElem?_eq_some_iff.1 hk).1
        rw [List.getElem?_map, List.getElem?_range hj] at hv
        simp only [Option.map_some, Option.some.injEq] at hv
        rw [← hv]
        exact (hV j hj).2 k hk
      · rw [h1]
        congr 1
        apply List.ext_getElem?
        intro j
        by_cases hj : j < ks.length
        · rw [(hV j hj).1, List.getElem?_map, List.getElem?_map, List.getElem?_range hj]
          rfl
        · rw [List.getElem?_eq_none (by omega), List.getElem?_eq_none (by simp; omega)])
    refine ⟨(List.range len).map Z, by simp, by simp, hl, by omega, ?_, fun s hs => ?_⟩
    · by_cases h0 : len = 0
      · exact .inl h0
      · have hk0 := hK
        have hat : ∀ i j, i < len → j < ks.length → W.cell? ((x.add (i * ks.length)).add j) = ((Z i).map FV.val)[j]? := fun i j him hj => by
          obtain ⟨_, _, hat⟩ := World.cells?_some (hZ i him).2
          exact hat j hj
        have hz := hat 0 0 (by omega) (by omega)
        have hZ0 := (hZ 0 (by omega)).1.1
        rw [List.getElem?_eq_getElem (by rw [List.length_map]; omega)] at hz
        obtain ⟨b, off, spot⟩ := x
        have hspot : spot = none := by simpa [Addr.add] using World.cell?_spot hz
        subst hspot
        rw [show ((⟨b, off, none⟩ : Addr).add (0 * ks.length)).add 0 = ⟨b, off, none⟩ by simp [Addr.add]] at hz
        refine .inr ⟨b, off, rfl, World.block_lt_of_cell? W ⟨b, off, none⟩ hz, fun i r hr j v hv => ?_⟩
        have hil : i < len := by
          have := (List.getElem?_eq_some_iff.1 hr).1
          simpa using this
        rw [List.getElem?_map, List.getElem?_range hil] at hr
        simp only [Option.map_some, Option.some.injEq] at hr
        have hjl : j < ks.length := by
          have := (List.getElem?_eq_some_iff.1 hv).1
          rw [← hr, (hZ i hil).1.1] at this
          exact this
        have h1 := hat i j hil hjl
        rw [Addr.add_mid, Addr.add_mid] at h1
        rw [h1, hr, List.getElem?_map, hv]
        rfl
    · obtain ⟨i, hi, rfl⟩ := List.mem_map.1 hs
      exact (hZ i (by simpa using hi)).1
end Go.Proofs.YtmomdfmilelilaaDoor
namespace Go.Proofs.YtmomdfmilelilaaDoor
open Go.RowKit
set_option linter.unusedVariables false
theorem run_op5_idx (W : World) (b o len cap i : Nat) (hi : i < len) : (Instr.indexAt 22 (.slice (some ⟨b, o, none⟩) len cap) (.int .i64 (i : Int))).run Tryd.prog W = .ok (.pointer (some ⟨b, o + i * 5, none⟩)) W := by
  rw [run_indexAt_slice W 22 ⟨b, o, none⟩ len cap .i64 (i : Int) (by kernel_rfl)]
  have h1 : (0 : Int) ≤ (i : Int) ∧ (i : Int) < (len : Int) := by omega
  rw [if_pos h1, show (Go.sizeOf (Tryd.prog.elem 22)).run Tryd.prog W = .ok 5 W from by kernel_rfl]
  simp [Result.andThen, Addr.add]
/-- a step of a script as it came in -/
structure Op5 (W : World) (b o : Nat) (kd : Int) (s : ByteArray) (z : Sl) (n q : Int) : Prop where
  c0 : W.cell? ⟨b, o, none⟩ = some (.int .i64 kd)
  c1 : W.cell? ⟨b, o + 1, none⟩ = some (.string s)
  c2 : W.cell? ⟨b, o + 2, none⟩ = some (.slice z.1 z.2.1 z.2.2.1)
  c3 : W.cell? ⟨b, o + 3, none⟩ = some (.int .i64 n)
  c4 : W.cell? ⟨b, o + 4, none⟩ = some (.int .i64 q)
  s3 : SlB W z
  s4 : n ≤ 9223372036854775807
theorem StsIn.op5 {W : World} {a : Option Addr} {len cap : Nat} {L : List (List FV)} (h : StsIn W [.i, .s, .b, .i, .i] a len cap L) {i : Nat} (hi : i < len) : ∃ b off kd s z n q, a = some ⟨b, off, none⟩ ∧ b < W.heap.size ∧ Op5 W b (off + i * 5) kd s z n q := by
  obtain ⟨h1, h2, h3, h4, h5, h6⟩ := h
  obtain ⟨b, off, ha, hb, hc⟩ := h5.resolve_left (by omega)
  obtain ⟨r, hr⟩ : ∃ r, L[i]? = some r := ⟨_, List.getElem?_eq_getElem (by omega)⟩
  obtain ⟨h7, h8⟩ := h6 r (List.mem_of_getElem? hr)
  have hcc := hc i r hr
  simp only [List.length_cons, List.length_nil] at h7 hcc
  match r, h7, h8, hcc with
  | [f0, f1, f2, f3, f4], _, h8, hcc =>
    have e0 := h8 0 _ _ rfl rfl
    have e1 := h8 1 _ _ rfl rfl
    have e2 := h8 2 _ _ rfl rfl
    have e3 := h8 3 _ _ rfl rfl
    have e4 := h8 4 _ _ rfl rfl
    cases f0 <;> first | exact e0.elim | skip
    cases f1 <;> first | exact e1.elim | skip
    cases f2 <;> first | exact e2.elim | skip
    cases f3 <;> first | exact e3.elim | skip
    cases f4 <;> first | exact e4.elim | skip
    refine ⟨b, off, _, _, _, _, _, ha, hb, hcc 0 _ rfl, hcc 1 _ rfl, hcc 2 _ rfl, hcc 3 _ rfl, hcc 4 _ rfl, e2, ?_⟩
    have e6 : (Lit.int .i64 _).wf = true := e3
    rw [show (Lit.int .i64 _).wf = (decide (_ ≤ _) && decide (_ ≤ (9223372036854775807 : Int))) from rfl, Bool.and_eq_true] at e6
    exact of_decide_eq_true e6.2
def OpC (W : World) (X : Nat) (kd : Int) (s : ByteArray) (p : Value) (n q : Int) : Prop := W.heap[X]? = some (.cells #[.int .i64 kd, .string s, p, .int .i64 n, .int .i64 q] 35 (0, 0))
theorem OpC.cells {W : World} {X : Nat} {kd : Int} {s : ByteArray} {p : Value} {n q : Int} (h : OpC W X kd s p n q) : W.cell? ⟨X, 0, none⟩ = some (.int .i64 kd) ∧ W.cell? ⟨X, 1, none⟩ = some (.string s) ∧ W.cell? ⟨X, 2, none⟩ = some p ∧ W.cell? ⟨X, 3, none⟩ = some (.int .i64 n) ∧ W.cell? ⟨X, 4, none⟩ = some (.int .i64 q) :=
  ⟨(cell_of_row W X 0 _ _ _ h).trans rfl, (cell_of_row W X 1 _ _ _ h).trans rfl, (cell_of_row W X 2 _ _ _ h).trans rfl, (cell_of_row W X 3 _ _ _ h).trans rfl, (cell_of_row W X 4 _ _ _ h).trans rfl⟩
theorem OpC.kp {W W' : World} {X : Nat} {kd : Int} {s : ByteArray} {p : Value} {n q : Int} {Y : Nat → Prop} (h : OpC W X kd s p n q) (hk : KpD Y W W') (hX : Y X) : OpC W' X kd s p n q := (hk X hX).trans h
/-- a script behind k steps: the store, its disk, the two lists -/
def BrR (w : World) (d k : Nat) (sv hv uv : Value) (wr : World) : Prop := ∃ (X : Nat → Prop) (sb : Nat) (A : Ad) (Hl Sl : Ds), sv = .pointer (some ⟨sb, 0, none⟩) ∧ Bs X w.heap.size d sb (60 * k + 60) A wr ∧ PSt A Hl Sl ∧ Lst X w.heap.size sb hv uv Hl Sl wr ∧ Hl.length ≤ k ∧ Sl.length ≤ k ∧ Below w.heap.size w wr
theorem BrR.below {w : World} {d k : Nat} {sv hv uv : Value} {wc w' : World} (h : BrR w d k sv hv uv wc) (hb : Below wc.heap.size wc w') : BrR w d k sv hv uv w' := by
  obtain ⟨X, sb, A, Hl, Sl, h1, h2, h3, h4, h5, h6, h7⟩ := h
  exact ⟨X, sb, A, Hl, Sl, h1, h2.below hb, h3, h4.below hb, h5, h6, h7.trans (hb.mono h7.size)⟩
theorem exec_loadE {X : Nat} {ds : List Nat} {W : World} (hb : Brow W X 37 ds) (hd : D32 ds) {A : Act} {x : Operand} (hx : A.eval x = .pointer (some ⟨X, 0, none⟩)) (o : Oper) (ho : o.op = .load 37 x) : (execOp A.eval o).run Tryd.prog W = .ok (.value (.agg (cellsOf ds).toArray)) W := by
  unfold execOp
  simp only [ho, hx, run_loadAt_mid W X 0 37 (cellsOf ds) _ hb.range Tryd.underlying37 rfl (by rw [cellsOf_length, hd.1]; exact info_dig), Sem.run_bind, Result.andThen_ok, Sem.run_pure]
theorem rd_blkE {W : World} {a : Option Addr} {n : Nat} {z : List Nat} (h : Rd W a n z) {b o : Nat} {s : Option _} (e : a = some ⟨b, o, s⟩) (hn : n ≠ 0) : b < W.heap.size := by
  obtain ⟨b', off, h1, h2, _⟩ := h.2.2.resolve_left hn
  rw [h1] at e
  cases e
  exact h2
theorem wpList_dpushE {w : World} {ops : Array Oper} {rest : List Oper} {o : Oper} {a : Act} {Q : Exit → Act → World → Prop} (hgd : o.guard = none) (s x : Operand)
    (ho : o.op = .call { callee := .builtin .append, args := #[s, x], argTypes := #[32, 32] })
    (B : Nat) (v : Value) (ds : Ds) (d : List Nat) (hd : D32 d) (hs : a.eval s = v) (hown : OwnD w B 37 v ds) (hB : B ≤ w.heap.size) (g : Nat) (hx : a.eval x = .slice (some ⟨g, 0, none⟩) 1 1) (hg : Brow w g 37 d)
    (hlen : ds.length + 1 ≤ 4398046511104)
    (h : ∀ v' w', OwnD w' B 37 v' (ds ++ [d]) → w.grownBy w' v.ownBlock → (v'.ownBlock = v.ownBlock ∨ v'.ownBlock = some w.heap.size) → wpList Tryd.prog ops Q rest (a.put o.dst v') w') :
    wpList Tryd.prog ops Q (o :: rest) a w := wpList_plain hgd fun K hK => wp_dpushE s x ho B v ds d hd hs hown hB g hx hg hlen fun v' w' h1 h2 h3 => hK _ _ (h v' w' h1 h2 h3)
/-- the first list becomes a new one -/
theorem step_h {X : Nat → Prop} {B d sb N : Nat} {A : Ad} {w w' : World} {hv uv v : Value} {Hl Sl L : Ds} (h : Bs X B d sb N A w) (l : Lst X B sb hv uv Hl Sl w) (hb : Below w.heap.size w w') (ho : OwnD w' w.heap.size 37 v L) :
    ∃ Y : Nat → Prop, (∀ j, X j → Y j) ∧ Bs Y B d sb N A w' ∧ Lst Y B sb v uv L Sl w' :=
  step_lists h l hb.size (fun k hk _ => hb.block k hk) (ho.base (Nat.le_of_lt (Nat.lt_of_le_of_lt h.dx.base.1 h.dx.base.2))) (l.ou.keepE fun k e => hb.block k (l.ou.block k e).2) (.inr fun j e => (ho.block j e).1) (.inl rfl) fun j e1 e2 => (l.ou.block j e2).2
/-- both become new ones -/
theorem step_hu {X : Nat → Prop} {B d sb N : Nat} {A : Ad} {w w' : World} {hv uv v u : Value} {Hl Sl L M : Ds} (h : Bs X B d sb N A w) (l : Lst X B sb hv uv Hl Sl w) (hb : Below w.heap.size w w') (ho : OwnD w' w.heap.size 37 v L) (hu : OwnD w' w.heap.size 37 u M) (ne : ∀ j, v.ownBlock = some j → u.ownBlock ≠ some j) :
    ∃ Y : Nat → Prop, (∀ j, X j → Y j) ∧ Bs Y B d sb N A w' ∧ Lst Y B sb v u L M w' :=
  have hB := Nat.le_of_lt (Nat.lt_of_le_of_lt h.dx.base.1 h.dx.base.2)
  step_lists h l hb.size (fun k hk _ => hb.block k hk) (ho.base hB) (hu.base hB) (.inr fun j e => (ho.block j e).1) (.inr fun j e => (hu.block j e).1) fun j e1 e2 => absurd e2 (ne j e1)
/-- the second one grows -/
theorem step_u {X : Nat → Prop} {B d sb N : Nat} {A : Ad} {w w1 w' : World} {hv uv u : Value} {Hl Sl M : Ds} (h : Bs X B d sb N A w) (l : Lst X B sb hv uv Hl Sl w) (hb : Below w.heap.size w w1) (hg : w1.grownBy w' uv.ownBlock) (hu : OwnD w' B 37 u M) (hat : u.ownBlock = uv.ownBlock ∨ u.ownBlock = some w1.heap.size) :
    ∃ Y : Nat → Prop, (∀ j, X j → Y j) ∧ Bs Y B d sb N A w' ∧ Lst Y B sb hv u Hl M w' := by
  have hk : ∀ k, k < w.heap.size → uv.ownBlock ≠ some k → w'.heap[k]? = w.heap[k]? := fun k hk ne => (hg.block k (Nat.lt_of_lt_of_le hk hb.size) fun e => ne (by first | exact e | exact e.symm)).trans (hb.block k hk)
  refine step_lists h l (Nat.le_trans hb.size hg.size) hk (l.oh.keepE fun k e => hk k (l.oh.block k e).2 (l.ne k e)) hu (.inl rfl) (hat.imp id fun e j e2 => by rw [e] at e2; cases e2; exact hb.size) fun j e1 e2 => (l.oh.block j e1).2
theorem Dx.fuse {X : Nat → Prop} {B d N : Nat} {A : Ad} {w : World} (h : Dx X B d N A w) (n : Int) (hn : n ≤ 9223372036854775807) : Calls Tryd.prog 12 #[.pointer (some ⟨d, 0, none⟩), .int .i64 n] w (DxR X B d N w (A.fused n)) := h.call fun S h1 h2 _ => afuse h1 h2 n hn
theorem Dx.crash {X : Nat → Prop} {B d N : Nat} {A : Ad} {w : World} (h : Dx X B d N A w) (keep part : Int) (hN : N < 1000000000) : Calls Tryd.prog 13 #[.pointer (some ⟨d, 0, none⟩), .int .i64 keep, .int .i64 part] w (DxR X B d N w (A.crash keep part, 0)) := h.call (r := (A.crash keep part, 0)) fun S h1 h2 _ => acrash h1 h2 keep part hN
theorem Bs.toE {X : Nat → Prop} {B d sb N M : Nat} {A A' : Ad} {w w' : World} (h : Bs X B d sb N A w) (h1 : Dx X B d M A' w') (hk : KpD X w w') : Bs X B d sb M A' w' := ⟨h1, h.sx, (World.cell?_of_block (hk sb h.sx)).trans h.st⟩
/-- what New leaves where the power is on and no fuse lies -/
theorem bnew_on {X : Nat → Prop} {B d N : Nat} {A : Ad} {w : World} (h : Dx X B d N A w) (hN : N < 100000000) (hXB : B ≤ w.heap.size) (hd : A.down = false) (hf : A.fuse < 0) :
    Calls Tryd.prog 5 #[.pointer (some ⟨d, 0, none⟩)] w fun e w' => e = .returned (.tuple #[.pointer (some ⟨w.heap.size, 0, none⟩), .int .i64 0]) ∧ Bs (fun j => X j ∨ j = w.heap.size) B d w.heap.size (N + 6) (runA nwS A).1 w' ∧ Below B w w' ∧ KpD X w w' := by
  refine (bnew_c h hN hXB).mono ?_
  rintro e w' ⟨k1, k2, k3, k4, k5⟩
  refine ⟨?_, ⟨k2, .inr rfl, k3⟩, k4, k5⟩
  rcases k1 with ⟨_, k1⟩ | ⟨⟨k0, k6⟩, _⟩
  · exact k1
  · rcases nw_code hd hf with e | e
    · exact absurd e k0
    · exact absurd e k6
/-- what any New leaves -/
theorem bnew_any {X : Nat → Prop} {B d N : Nat} {A : Ad} {w : World} (h : Dx X B d N A w) (hN : N < 100000000) (hXB : B ≤ w.heap.size) :
    Calls Tryd.prog 5 #[.pointer (some ⟨d, 0, none⟩)] w fun e w' => (∃ v, e = .returned v) ∧ Dx X B d (N + 6) (runA nwS A).1 w' ∧ Below B w w' ∧ KpD X w w' := by
  refine (bnew_c h hN hXB).mono ?_
  rintro e w' ⟨k1, k2, k3, k4, k5⟩
  refine ⟨?_, k2.less fun j hj => .inl hj, k4, k5⟩
  rcases k1 with ⟨_, k1⟩ | ⟨_, k1⟩
  · exact ⟨_, k1⟩
  · exact ⟨_, k1⟩
theorem zs32_d : D32 zs32 := ⟨zs32_len, fun z hz => by
  unfold zs32 at hz
  rw [(List.mem_replicate.1 hz).2]; decide⟩
theorem Bs.with2E {X : Nat → Prop} {B d sb N : Nat} {A : Ad} {w w' : World} (h : Bs X B d sb N A w) (hb : Below w.heap.size w w') (g k : Nat) (hg : w.heap.size ≤ g) (hk : w.heap.size ≤ k) (hl : g < w'.heap.size) (hm : k < w'.heap.size) : Bs (fun j => X j ∨ j = g ∨ j = k) B d sb N A w' :=
  ⟨h.dx.belowY hb (fun j hj => hj.imp id fun e => by omega) (fun j hj => by
    rcases hj with hj | rfl | rfl
    · exact Nat.lt_of_lt_of_le (h.dx.lt j hj) hb.size
    · exact hl
    · exact hm), .inl h.sx, (hb.cell (p := ⟨sb, 0, none⟩) (h.dx.lt sb h.sx)).trans h.st⟩
theorem Bs.mono {X : Nat → Prop} {B d sb N M : Nat} {A : Ad} {w : World} (h : Bs X B d sb N A w) (hM : N ≤ M) : Bs X B d sb M A w := ⟨h.dx.mono hM, h.sx, h.st⟩
theorem wo_len (l : Ds) (x : List Nat) : (wo l x).length ≤ l.length := List.length_filter_le ..
theorem dwr (z : Int) : ∃ q : Nat, q < 10000 ∧ wrap64 ((IntKind.u64.wrap z).tmod 10000) = (q : Int) := by
  have h1 : 0 ≤ IntKind.u64.wrap z := by simp [IntKind.wrap, IntKind.bits, IntKind.signed]; omega
  obtain ⟨t, ht⟩ := Int.eq_ofNat_of_zero_le h1
  rw [ht]
  have h2 : ((t : Int)).tmod 10000 = ((t % 10000 : Nat) : Int) := by
    rw [show (10000 : Int) = ((10000 : Nat) : Int) by omega, Int.ofNat_tmod]
  have h3 := Nat.mod_lt t (show 0 < 10000 by omega)
  refine ⟨t % 10000, h3, ?_⟩
  rw [h2]
  unfold wrap64
  omega
end Go.Proofs.YtmomdfmilelilaaDoor
