/-
  The nodes of the law; a nil graph, a nil marker.
-/
import Derived.Test.YtpppffgchgcghaaGri
namespace Go.Proofs.Ytpppffgchgcghaa
open Go.RowKit Go.Maps
set_option linter.unusedVariables false
/-- the sum of two bytes and no more -/
def dig2 (x y : Nat) : List Nat := x :: y :: List.replicate 30 0
theorem d32_dig2 {x y : Nat} (hx : x < 256) (hy : y < 256) : D32 (dig2 x y) := ⟨by simp [dig2], fun z hz => by
  simp only [dig2, List.mem_cons] at hz
  rcases hz with rfl | rfl | hz
  · exact hx
  · exact hy
  · rw [List.eq_of_mem_replicate hz]; omega⟩
def nd (n : Nat) : List Nat := dig2 (n % 9) (n % 2)
theorem d32_nd (n : Nat) : D32 (nd n) := d32_dig2 (by omega) (by omega)
set_option maxRecDepth 100000 in
theorem built2 (x y : Nat) : Try.prog.built 42 [(0, .int .u8 (x : Int)), (1, .int .u8 (y : Int))] = some (cellsOf (dig2 x y)).toArray := by kernel_rfl
set_option maxRecDepth 100000 in
theorem node_c (n : Nat) (hn : n < 256) (w : World) : Calls Try.prog 14 #[.int .u8 (n : Int)] w fun e w' => e = .returned (.agg (cellsOf (nd n)).toArray) ∧ Below w.heap.size w w' := by
  obtain ⟨x, hx⟩ : ∃ x, x = n % 9 := ⟨_, rfl⟩
  obtain ⟨y, hy⟩ : ∃ y, y = n % 2 := ⟨_, rfl⟩
  have HD := Lib.hid (show D32 (dig2 x y) from by rw [hx, hy]; exact d32_nd n)
  have e1 : (n : Int) % 9 = (x : Int) := by omega
  have e2 : (n : Int) % 2 = (y : Int) := by omega
  have HE := Lib.hid (show nd n = dig2 x y from by rw [hx, hy]; rfl)
  have HBU := Lib.hid (built2 x y)
  have K2 := Lib.hid (fun (Z : Obj) (hZ : Z = .cells (cellsOf zs32).toArray 42 (0, 0)) => show Brow ((w.alloc Z).setRow w.heap.size (cellsOf (dig2 x y)).toArray) w.heap.size 42 (dig2 x y) ∧ Below w.heap.size w ((w.alloc Z).setRow w.heap.size (cellsOf (dig2 x y)).toArray) from by
    subst hZ
    exact ⟨(Brow.new w 42 zs32).setRow, ((Below.refl _ _).alloc (Nat.le_refl _) _).setRow (Nat.le_refl _) _⟩)
  clear hx hy
  go_enter Try.func14, Try.ntmps14
  go_wp2_with (first | (refine wpList_buildTo (by rfl) 42 _ (by rfl) (some 7) (by rfl) (cellsOf (dig2 x y)).toArray (by exact HBU.out) ?_) | (refine wpList_store_row (by rfl) 42 _ _ (by rfl) w.heap.size (cellsOf (dig2 x y)).toArray (by rfl) (by rfl) 42 (cellsOf zs32).toArray (by exact heap_new _ _) (infoG HD.out) (zsizeG HD.out) (cellsOf_all _) ?_) | fail)
  refine bodyPost_ret (results_cell_row (by rfl) _ _ w.heap.size _ (cellsOf (dig2 x y)).toArray (0, 0) _ (by rfl) (K2.out _ rfl).1 Try.underlying42 (by rfl) (infoG HD.out)) (by rfl) ?_
  rw [HE.out]
  exact ⟨rfl, (K2.out _ rfl).2⟩
theorem mark_nil (v : Value) (w : World) : Calls Try.prog 9 #[.pointer none, v] w fun e w' => e = .returned (.pointer none) ∧ w' = w := by
  go_enter Try.func9, Try.ntmps9
  go_wp2_with fail
  go_ret
  exact ⟨rfl, rfl⟩
theorem left_nil (w : World) : Calls Try.prog 13 #[.pointer none] w fun e w' => e = .returned (.int .i64 0) ∧ w' = w := by
  go_enter Try.func13, Try.ntmps13
  go_wp2_with fail
  go_ret
  exact ⟨rfl, rfl⟩
set_option maxRecDepth 100000 in
theorem marked_nil (s : List Nat) (w : World) : Calls Try.prog 21 #[.pointer none, .agg (cellsOf s).toArray] w fun e w' => e = .returned (.bool false) ∧ Below w.heap.size w w' := by
  go_enter Try.func21, Try.ntmps21
  go_wp2_with fail
  go_ret
  exact ⟨rfl, (Below.refl _ _).alloc (Nat.le_refl _) _⟩
set_option maxRecDepth 100000 in
theorem gray_nil (s : List Nat) (w : World) : Calls Try.prog 30 #[.pointer none, .agg (cellsOf s).toArray] w fun e w' => e = .returned (.int .i64 2) ∧ Below w.heap.size w w' := by
  go_enter Try.func30, Try.ntmps30
  go_wp2_with fail
  go_ret
  exact ⟨rfl, (Below.refl _ _).alloc (Nat.le_refl _) _⟩
set_option maxRecDepth 100000 in
theorem put_nil (s : List Nat) (v : Value) (w : World) : Calls Try.prog 23 #[.pointer none, .agg (cellsOf s).toArray, v] w fun e w' => e = .returned (.int .i64 2) ∧ Below w.heap.size w w' := by
  go_enter Try.func23, Try.ntmps23
  go_wp2_with fail
  go_ret
  exact ⟨rfl, (Below.refl _ _).alloc (Nat.le_refl _) _⟩
set_option maxRecDepth 100000 in
theorem drop_nil (s : List Nat) (w : World) : Calls Try.prog 31 #[.pointer none, .agg (cellsOf s).toArray] w fun e w' => e = .returned (.int .i64 2) ∧ Below w.heap.size w w' := by
  go_enter Try.func31, Try.ntmps31
  go_wp2_with fail
  go_ret
  exact ⟨rfl, (Below.refl _ _).alloc (Nat.le_refl _) _⟩
set_option maxRecDepth 100000 in
theorem find_nil (s : List Nat) (w : World) : Calls Try.prog 38 #[.pointer none, .agg (cellsOf s).toArray] w fun e w' => e = .returned (.tuple #[.slice none 0 0, .bool false]) ∧ Below w.heap.size w w' := by
  go_enter Try.func38, Try.ntmps38
  go_wp2_with fail
  go_ret2
  exact ⟨rfl, (Below.refl _ _).alloc (Nat.le_refl _) _⟩
theorem nodes_nil (w : World) : Calls Try.prog 12 #[.pointer none] w fun e w' => e = .returned (.slice none 0 0) ∧ w' = w := by
  go_enter Try.func12, Try.ntmps12
  go_wp2_with fail
  go_ret
  exact ⟨rfl, rfl⟩
set_option maxRecDepth 100000 in
theorem refs_nil (s : List Nat) (w : World) : Calls Try.prog 19 #[.pointer none, .agg (cellsOf s).toArray] w fun e w' => e = .returned (.int .i64 0) ∧ Below w.heap.size w w' := by
  go_enter Try.func19, Try.ntmps19
  go_wp2_with fail
  go_ret
  exact ⟨rfl, (Below.refl _ _).alloc (Nat.le_refl _) _⟩
theorem reach_nil (v : Value) (w : World) : Calls Try.prog 27 #[.pointer none, v] w fun e w' => e = .returned (.slice none 0 0) ∧ w' = w := by
  go_enter Try.func27, Try.ntmps27
  go_wp2_with fail
  go_ret
  exact ⟨rfl, rfl⟩
set_option maxRecDepth 100000 in
theorem edges_nil (s : List Nat) (hs : D32 s) (w : World) : Calls Try.prog 15 #[.pointer none, .agg (cellsOf s).toArray] w fun e w' => ∃ v, e = .returned (.tuple #[v, .bool false]) ∧ Below w.heap.size w w' := by
  have HF := Lib.hid (fun W => find_nil s W)
  have HLD := Lib.hid (fun (W : World) (hW : W = w.alloc (.cells (cellsOf s).toArray 42)) => run_cell_dig W w.heap.size s hs (by rw [hW]; exact heap_alloc_new w _))
  have HC := Lib.hid (fun W => copied_c none 0 0 [] W (DR.nil W) (Nat.le_refl _) (by omega))
  go_enter Try.func15, Try.ntmps15
  go_wp2_with (first | (refine wpList_loadg 42 _ (by rfl) (by rfl) (.pointer (some ⟨w.heap.size, 0, none⟩)) (by rfl) (.agg (cellsOf s).toArray) (by exact HLD.out _ rfl) ?_) | fail)
  refine (HF.out _).mono ?_
  rintro e1 w1 ⟨rfl, hb1⟩
  have HB1 := Lib.hid hb1
  clear hb1
  go_wp2_with fail
  refine (HC.out _).mono ?_
  rintro e2 w2 ⟨v, rfl, ho2, hb2⟩
  have HB2 := Lib.hid hb2
  clear hb2 ho2
  go_wp2_with fail
  go_ret2
  have h0 : Below w.heap.size w (w.alloc (.cells (cellsOf s).toArray 42)) := (Below.refl _ _).alloc (Nat.le_refl _) _
  have h1 := h0.trans (HB1.out.mono h0.size)
  exact ⟨v, rfl, h1.trans (HB2.out.mono h1.size)⟩
theorem step_nil (w : World) : Calls Try.prog 29 #[.pointer none, .int .i64 3] w fun e w' => e = .returned (.bool true) ∧ w' = w := by
  have HL := Lib.hid (left_nil w)
  go_enter Try.func29, Try.ntmps29
  go_wp2_with fail
  refine wp_loop_rounds 1 ?_
  rw [rounds_succ]
  go_wp2_with fail
  refine HL.out.mono ?_
  rintro e1 w1 ⟨rfl, rfl⟩
  go_wp2_with fail
  refine HL.out.mono ?_
  rintro e1 w1 ⟨rfl, rfl⟩
  go_wp2_with fail
  go_ret
  exact ⟨rfl, rfl⟩
end Go.Proofs.Ytpppffgchgcghaa
