/-
  The walks over climb and Climb of one-time keys.
-/
import Derived.Test.YtlnblfdddellmaaDoorChw
import Derived.Laws.ResultCell
namespace Go.Proofs.YtlnblfdddellmaaDoor
open Go.RowKit
set_option linter.unusedVariables false
theorem B2.put {w W : World} {t : TypeId} {x y : List Nat} (h : B2 w t x y W) (z : List Nat) : B2 w t z y (W.setRow w.heap.size (cellsOf z).toArray) := by
  have o : Only w.heap.size W (W.setRow w.heap.size (cellsOf z).toArray) := (Only.refl _ _).setRow _
  exact ⟨h.1.setRow, h.2.1.only o (by omega), h.2.2.trans (o.below (Nat.le_refl _) h.2.2.size)⟩
theorem dd_size (a b : List Nat) (h : D32 a) (h' : D32 b) : (cellsOf a).toArray.size = (cellsOf b).toArray.size := by rw [cellsOf_size, cellsOf_size, h.1, h'.1]
set_option maxRecDepth 100000 in
set_option maxHeartbeats 2000000 in
theorem climb_c (key c f t : Nat) (x : List Nat) (w : World) (hx : D32 x) (hk : key < 4294967296) (hc : c < 256) (hft : f ≤ t) (ht15 : t ≤ 255) (ht : Tab w) :
    Calls Tryd.prog 45 #[.int .u32 (key : Int), .int .u8 (c : Int), .agg (cellsOf x).toArray, .int .u8 (f : Int), .int .u8 (t : Int)] w (DigRet (Ch.climbS key c x f (t - f)) w) := by
  have HX := Lib.hid hx
  have HT := Lib.hid ht
  have hpos := ht.pos
  clear hx ht
  go_enter Tryd.func45, Tryd.ntmps45
  go_upto_region 1 with fail
  refine gen_code (F := B2 w 32 x zs32) (B2.new w _ _ _) ?_
  intro wA h
  have H0 := Lib.hid h
  clear h
  go_wp2_with fail
  go_loopw [11] (fun i wr => ∃ k : Nat, f + k ≤ t ∧ i = .int .u8 ((f + k : Nat) : Int) ∧ Hid (B2 w 32 (Ch.climbS key c x f k) zs32 wr)) (fun i _ => t - (intOf i).toNat)
  case atStart => exact ⟨0, by omega, rfl, H0⟩
  case round =>
    clear H0
    obtain ⟨k, hk1, rfl, HB⟩ := hrel
    obtain ⟨X, hX⟩ : ∃ X, X = Ch.climbS key c x f k := ⟨_, rfl⟩
    rw [← hX] at HB
    have HXD := Lib.hid (show D32 X from by rw [hX]; exact Ch.d32_climb HX.out _ _)
    have HI := Lib.hid (info_d32 X HXD.out)
    have HXE := Lib.hid hX
    clear hX
    by_cases hkt : f + k < t
    · have HST := Lib.hid (step_c key c (f + k) X wr HXD.out hk hc (by omega) (HT.out.below HB.out.2.2 hpos))
      obtain ⟨Y, hY⟩ : ∃ Y, Y = Ch.stepS key c (f + k) X := ⟨_, rfl⟩
      rw [← hY] at HST
      have HYD := Lib.hid (show D32 Y from by rw [hY]; exact Ch.d32_step _ _ _ _)
      have HYE := Lib.hid (show Y = Ch.climbS key c x f (k + 1) from by rw [hY, HXE.out]; rfl)
      have HIY := Lib.hid (info_d32 Y HYD.out)
      have HZ := Lib.hid (dd_size X Y HXD.out HYD.out)
      clear hY
      go_wp2_with (first | (refine wpList_load_row (by rfl) 32 _ (by rfl) w.heap.size (by rfl) _ (cellsOf X).toArray (0, 0) _ HB.out.1 Tryd.underlying32 (by rfl) HI.out ?_) | (go_at_call 42; refine HST.out.mono ?_; rintro e w1 ⟨rfl, hb1⟩; have H1 := Lib.hid (HB.out.below hb1); clear hb1) | (refine wpList_store_row (by rfl) 32 _ _ (by rfl) w.heap.size (cellsOf Y).toArray (by rfl) (by rfl) 32 (cellsOf X).toArray H1.out.1 HIY.out HZ.out (cellsOf_all _) ?_))
      have H2 := Lib.hid (show B2 w 32 (Ch.climbS key c x f (k + 1)) zs32 (w1.setRow w.heap.size (cellsOf Y).toArray) from by rw [← HYE.out]; exact H1.out.put Y)
      go_roundw
      case rel => exact ⟨k + 1, by omega, by go_num, H2⟩
      case measure => simp [intOf]; omega
    · obtain rfl : t = f + k := by omega
      have HZ := Lib.hid (zs_size X HXD.out)
      go_wp2_with (first | (refine wpList_load_row (by rfl) 32 _ (by rfl) w.heap.size (by rfl) _ (cellsOf X).toArray (0, 0) _ HB.out.1 Tryd.underlying32 (by rfl) HI.out ?_) | (refine wpList_store_row (by rfl) 32 _ _ (by rfl) (w.heap.size + 1) (cellsOf X).toArray (by rfl) (by rfl) 32 (cellsOf zs32).toArray HB.out.2.1 HI.out HZ.out (cellsOf_all _) ?_))
      refine bodyPost_ret (results_cell_row (by rfl) _ _ (w.heap.size + 1) _ (cellsOf X).toArray (0, 0) _ (by rfl) HB.out.2.1.setRow Tryd.underlying32 (by rfl) HI.out) ?_ ?_
      · rfl
      · exact ⟨by rw [HXE.out, Nat.add_sub_cancel_left], HB.out.2.2.setRow (by omega) _⟩
theorem res_pair {fn : Func} {P : Program} {p q : Tmp} {ty : TypeId} (h : fn.results = #[.cell p ty, .tmp q]) (tmps : Array Value) (w : World) (g : Nat) (t : TypeId) (cs : Array Value) (fr : Nat × Nat) (d : TypeDesc) (b : Value)
    (hp : tmps.getD p undef = .pointer (some ⟨g, 0, none⟩)) (hq : tmps.getD q undef = b) (hg : w.heap[g]? = some (.cells cs t fr))
    (hu : P.underlying ty = some d) (hd : (match d with | .struct _ | .array _ _ => true | _ => false) = true) (hi : (P.info? ty).map (·.size) = some cs.size) :
    (results fn tmps).run P w = .ok (.tuple #[.agg cs, b]) w := by
  have hp' : tmps[p]?.getD undef = .pointer (some ⟨g, 0, none⟩) := by simpa using hp
  have hq' : tmps[q]?.getD undef = b := by simpa using hq
  simp [results, h, hp', hq', asAddr, run_loadVar_row w g t ty cs fr d hg hu hd hi]
def ClRet (d : List Nat) (n : Int) (w : World) (e : Ending) (w' : World) : Prop := e = .returned (.tuple #[.agg (cellsOf d).toArray, .int .i64 n]) ∧ Below w.heap.size w w'
set_option maxRecDepth 100000 in
set_option maxHeartbeats 2000000 in
theorem Climb_yes (key c f t : Nat) (x : List Nat) (w : World) (hx : D32 x) (hk : key < 4294967296) (hc : c < 256) (hft : f ≤ t) (ht15 : t ≤ 15) (ht : Tab w) :
    Calls Tryd.prog 41 #[.int .u32 (key : Int), .int .u8 (c : Int), .agg (cellsOf x).toArray, .int .i64 (f : Int), .int .i64 (t : Int)] w (ClRet (Ch.climbS key c x f (t - f)) 0 w) := by
  have HX := Lib.hid hx
  have HT := Lib.hid ht
  have hpos := ht.pos
  clear hx ht
  have t1 : decide ((f : Int) < 0) = false := decide_eq_false (by omega)
  have t2 : decide (t < f) = false := decide_eq_false (by omega)
  have t3 : decide ((15 : Int) < (t : Int)) = false := decide_eq_false (by omega)
  have t4 : ¬ t < f := by omega
  have t5 : ¬ (15 : Int) < (t : Int) := by omega
  have w1 : IntKind.u8.wrap (f : Int) = (f : Int) := by rw [IntKind.wrap_u8]; omega
  have w2 : IntKind.u8.wrap (t : Int) = (t : Int) := by rw [IntKind.wrap_u8]; omega
  go_enter Tryd.func41, Tryd.ntmps41
  go_upto_region 1 with fail
  refine gen_code (F := B2 w 32 x zs32) (B2.new w _ _ _) ?_
  intro wA h
  have H0 := Lib.hid h
  clear h
  have HI := Lib.hid (info_d32 x HX.out)
  obtain ⟨Y, hY⟩ : ∃ Y, Y = Ch.climbS key c x f (t - f) := ⟨_, rfl⟩
  have HCL := Lib.hid (climb_c key c f t x wA HX.out hk hc hft (by omega) (HT.out.below H0.out.2.2 hpos))
  rw [← hY] at HCL
  have HYD := Lib.hid (show D32 Y from by rw [hY]; exact Ch.d32_climb HX.out _ _)
  have HIY := Lib.hid (info_d32 Y HYD.out)
  have HZ := Lib.hid (zs_size Y HYD.out)
  have HYE := Lib.hid hY
  clear hY
  go_wp2_with (first | (refine wpList_load_row (by rfl) 32 _ (by rfl) w.heap.size (by rfl) _ (cellsOf x).toArray (0, 0) _ H0.out.1 Tryd.underlying32 (by rfl) HI.out ?_) | (go_at_call 45; refine HCL.out.mono ?_; rintro e w1 ⟨rfl, hb1⟩; have H1 := Lib.hid (H0.out.below hb1); clear hb1) | (refine wpList_store_row (by rfl) 32 _ _ (by rfl) (w.heap.size + 1) (cellsOf Y).toArray (by rfl) (by rfl) 32 (cellsOf zs32).toArray H1.out.2.1 HIY.out HZ.out (cellsOf_all _) ?_))
  refine bodyPost_ret (res_pair (by rfl) _ _ (w.heap.size + 1) _ (cellsOf Y).toArray (0, 0) _ (.int .i64 0) (by rfl) (by rfl) H1.out.2.1.setRow Tryd.underlying32 (by rfl) HIY.out) ?_ ?_
  · rfl
  · exact ⟨by rw [HYE.out], H1.out.2.2.setRow (by omega) _⟩
set_option maxRecDepth 100000 in
set_option maxHeartbeats 2000000 in
theorem Climb_no (key c : Nat) (a b : Int) (x : List Nat) (w : World) (hx : D32 x) (h : a < 0 ∨ 15 < b ∨ b < a) :
    Calls Tryd.prog 41 #[.int .u32 (key : Int), .int .u8 (c : Int), .agg (cellsOf x).toArray, .int .i64 a, .int .i64 b] w (ClRet zs32 1 w) := by
  have HX := Lib.hid hx
  have HI := Lib.hid (info_d32 zs32 ⟨zs32_len, by decide⟩)
  have HBN := Lib.hid (fun X Y : Obj => (heap_new2 w X Y).2)
  have HBW := Lib.hid (fun X Y : Obj => (((Below.refl w.heap.size w).alloc (Nat.le_refl _) X).alloc (by simp) Y).setRow (g := w.heap.size + 1) (by omega) (cellsOf zs32).toArray)
  clear hx
  by_cases h1 : a < 0
  · clear h
    go_enter Tryd.func41, Tryd.ntmps41
    go_wp2_with (first | (refine wpList_store_row (by rfl) 32 _ _ (by rfl) (w.heap.size + 1) (cellsOf zs32).toArray (by rfl) (by rfl) 32 (cellsOf zs32).toArray (by exact HBN.out _ _) HI.out rfl (cellsOf_all _) ?_))
    refine bodyPost_ret (res_pair (by rfl) _ _ (w.heap.size + 1) _ (cellsOf zs32).toArray (0, 0) _ (.int .i64 1) (by rfl) (by rfl) (setRow_heap _ _ _ _ _ _ (HBN.out _ _)) Tryd.underlying32 (by rfl) HI.out) ?_ ?_
    · rfl
    · exact ⟨rfl, HBW.out _ _⟩
  · by_cases h2 : b < a
    · clear h
      go_enter Tryd.func41, Tryd.ntmps41
      go_wp2_with (first | (refine wpList_store_row (by rfl) 32 _ _ (by rfl) (w.heap.size + 1) (cellsOf zs32).toArray (by rfl) (by rfl) 32 (cellsOf zs32).toArray (by exact HBN.out _ _) HI.out rfl (cellsOf_all _) ?_))
      refine bodyPost_ret (res_pair (by rfl) _ _ (w.heap.size + 1) _ (cellsOf zs32).toArray (0, 0) _ (.int .i64 1) (by rfl) (by rfl) (setRow_heap _ _ _ _ _ _ (HBN.out _ _)) Tryd.underlying32 (by rfl) HI.out) ?_ ?_
      · rfl
      · exact ⟨rfl, HBW.out _ _⟩
    · have h3 : (15 : Int) < b := by omega
      clear h
      go_enter Tryd.func41, Tryd.ntmps41
      go_wp2_with (first | (refine wpList_store_row (by rfl) 32 _ _ (by rfl) (w.heap.size + 1) (cellsOf zs32).toArray (by rfl) (by rfl) 32 (cellsOf zs32).toArray (by exact HBN.out _ _) HI.out rfl (cellsOf_all _) ?_))
      refine bodyPost_ret (res_pair (by rfl) _ _ (w.heap.size + 1) _ (cellsOf zs32).toArray (0, 0) _ (.int .i64 1) (by rfl) (by rfl) (setRow_heap _ _ _ _ _ _ (HBN.out _ _)) Tryd.underlying32 (by rfl) HI.out) ?_ ?_
      · rfl
      · exact ⟨rfl, HBW.out _ _⟩
end Go.Proofs.YtlnblfdddellmaaDoor
