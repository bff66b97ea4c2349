/-
  The walk over the document's Grow.
-/
import Derived.Test.YtoknjhpdbigbhaaDoorBth
namespace Go.Proofs.YtoknjhpdbigbhaaDoor
open Go.RowKit
set_option linter.unusedVariables false
def GrowRet (B : Nat) (old : List Nat) (m n : Nat) (whole : Bool) (way : Ds) (w : World) (e : Ending) (w' : World) : Prop :=
  Below w.heap.size w w' ∧ ((growS old m n whole way = none ∧ e = .returned (.agg noC)) ∨
    ∃ (x y : List Nat) (rest : Ds) (a : Option Addr) (l c : Nat), growS old m n whole way = some (x, y, rest) ∧ D32 x ∧ D32 y ∧ DR w' a l rest ∧ l ≤ c ∧ c ≤ 9223372036854775807 ∧ (∀ b, blkOf a = some b → b < B) ∧ e = .returned (.agg (bothC x y (.slice a l c) true)))
def GIH (n : Nat) : Prop := ∀ B q, q < n → ∀ (old : List Nat) (m : Nat) (whole : Bool) (a : Option Addr) (l cap : Nat) (way : Ds) (w : World), 1 ≤ m → m ≤ q → D32 old → DR w a l way → l ≤ cap → cap ≤ 9223372036854775807 → (∀ b, blkOf a = some b → b < B) → B ≤ w.heap.size →
  Calls Tryd.prog 36 #[.agg (cellsOf old).toArray, .int .i64 (m : Int), .int .i64 (q : Int), .bool whole, .slice a l cap] w (GrowRet B old m q whole way w)
/-- the two blocks of Grow: the old root, and what is handed back -/
def G2 (w : World) (old : List Nat) (C : Array Value) (W : World) : Prop := Brow W w.heap.size 31 old ∧ BR W (w.heap.size + 1) C ∧ Below w.heap.size w W
theorem G2.new (w : World) (old : List Nat) (O : Obj) (hO : O = .cells noC 70 (0, 0)) : G2 w old noC ((w.alloc (.cells (cellsOf old).toArray 31)).alloc O) := by
  subst hO
  exact ⟨(heap_new2 _ _ _).1, (heap_new2 _ _ _).2, ((Below.refl _ _).alloc (Nat.le_refl _) _).alloc (by simp) _⟩
theorem G2.below {w W W' : World} {old : List Nat} {C : Array Value} (h : G2 w old C W) (hb : Below W.heap.size W W') : G2 w old C W' := ⟨h.1.below hb h.1.lt, h.2.1.below hb h.2.1.lt, h.2.2.trans (hb.mono h.2.2.size)⟩
theorem G2.drew {w W : World} {old : List Nat} {C : Array Value} (h : G2 w old C W) : G2 w old C W.drew := ⟨h.1.drew, h.2.1.drew, h.2.2.drew⟩
theorem G2.setRow {w W : World} {old : List Nat} {C : Array Value} (h : G2 w old C W) (D : Array Value) : G2 w old D (W.setRow (w.heap.size + 1) D) := by
  have o : Only (w.heap.size + 1) W (W.setRow (w.heap.size + 1) D) := (Only.refl _ _).setRow _
  exact ⟨h.1.only o (by omega), h.2.1.setRow, h.2.2.trans (o.below (by omega) h.2.2.size)⟩
theorem G2.set {w W : World} {old : List Nat} {C : Array Value} (h : G2 w old C W) (D : Array Value) (hs : D.size = C.size) : G2 w old D (W.setCells (w.heap.size + 1) 0 D.toList) := by
  have o : Only (w.heap.size + 1) W (W.setCells (w.heap.size + 1) 0 D.toList) := Only.setCells _ _ (Only.refl _ _)
  exact ⟨h.1.only o (by omega), h.2.1.setAll hs, h.2.2.trans (o.below (by omega) h.2.2.size)⟩
theorem noC_size : noC.size = 66 := bothC_size ⟨zs32_len, by decide⟩ ⟨zs32_len, by decide⟩ _ _
theorem info_no : (Tryd.prog.info? 70).map (·.size) = some noC.size := by rw [noC_size]; exact info_both
theorem noC_one : noC.all (·.oneCell') = true := bothC_one _ _ _ _ _ _
set_option maxRecDepth 100000 in
set_option maxHeartbeats 2000000 in
theorem rgrow_whole (B n : Nat) (old : List Nat) (a : Option Addr) (l cap : Nat) (way : Ds) (w : World) (ho : D32 old) (hr : DR w a l way) (hlc : l ≤ cap) (hcm : cap ≤ 9223372036854775807) (hab : ∀ b, blkOf a = some b → b < B) (hB : B ≤ w.heap.size) :
    Calls Tryd.prog 36 #[.agg (cellsOf old).toArray, .int .i64 (n : Int), .int .i64 (n : Int), .bool true, .slice a l cap] w (GrowRet B old n n true way w) := by
  have HL := Lib.hid ho
  have HR := Lib.hid hr
  have HI := Lib.hid (info32 dtR ho)
  have HAB := Lib.hid hab
  have HBU := Lib.hid (built_both ho ho a l cap true)
  have HBI := Lib.hid (info_bothC ho ho (.slice a l cap) true)
  have HBS := Lib.hid (show noC.size = (bothC old old (.slice a l cap) true).size from by rw [bothC_size ho ho, noC_size])
  clear ho hr hab
  go_enter Tryd.func36, Tryd.ntmps36
  go_upto_region 1 with fail
  refine gen_code (F := G2 w old noC) (G2.new w old _ (by kernel_rfl)) ?_
  intro wA hc
  have HC := Lib.hid hc
  clear hc
  go_wp2_with (first | (refine wpList_load_row (by rfl) 31 _ (by rfl) w.heap.size (by rfl) _ (cellsOf old).toArray (0, 0) _ HC.out.1 Tryd.underlying31 (by rfl) HI.out ?_) | (refine wpList_buildTo (by rfl) 70 _ (by rfl) (some 21) (by rfl) (bothC old old (.slice a l cap) true) (by simp only [List.map_toArray, List.map_cons, List.map_nil]; exact HBU.out) ?_) | (refine wpList_storeB (w.heap.size + 1) (bothC old old (.slice a l cap) true) noC (.tmp 10) (.tmp 21) (by exact rfl) (by exact rfl) (by exact rfl) (by exact rfl) HC.out.2.1 HBI.out HBS.out (bothC_one _ _ _ _ _ _) ?_))
  refine bodyPost_ret (results_cell_row (by rfl) _ _ (w.heap.size + 1) _ (bothC old old (.slice a l cap) true) (0, 0) _ (by rfl) (HC.out.setRow (bothC old old (.slice a l cap) true)).2.1 Tryd.underlying70 (by rfl) HBI.out) ?_ ?_
  · rfl
  · exact ⟨(HC.out.setRow _).2.2, .inr ⟨old, old, way, a, l, cap, Mk.grow_whole _ _ _ _, HL.out, HL.out, (HR.out.below HC.out.2.2).onlyB HAB.out (by omega) ((Only.refl _ _).setRow _), hlc, hcm, HAB.out, rfl⟩⟩
set_option maxRecDepth 100000 in
set_option maxHeartbeats 2000000 in
theorem rgrow_none (B n : Nat) (old : List Nat) (a : Option Addr) (cap : Nat) (w : World) :
    Calls Tryd.prog 36 #[.agg (cellsOf old).toArray, .int .i64 (n : Int), .int .i64 (n : Int), .bool false, .slice a 0 cap] w (GrowRet B old n n false [] w) := by
  go_enter Tryd.func36, Tryd.ntmps36
  go_upto_region 1 with fail
  refine gen_code (F := G2 w old noC) (G2.new w old _ (by kernel_rfl)) ?_
  intro wA hc
  have HC := Lib.hid hc
  clear hc
  go_wp2_with (first | (refine wpList_buildTo (by rfl) 70 _ (by rfl) (some 25) (by rfl) noC (by simp only [List.map_toArray, List.map_nil]; exact built_none) ?_) | (refine wpList_storeB (w.heap.size + 1) noC noC (.tmp 10) (.tmp 25) (by exact rfl) (by exact rfl) (by exact rfl) (by exact rfl) HC.out.2.1 info_no (by rfl) noC_one ?_))
  refine bodyPost_ret (results_cell_row (by rfl) _ _ (w.heap.size + 1) _ noC (0, 0) _ (by rfl) (HC.out.setRow noC).2.1 Tryd.underlying70 (by rfl) info_no) ?_ ?_
  · rfl
  · exact ⟨(HC.out.setRow _).2.2, .inl ⟨Mk.grow_part _ _ _ _, rfl⟩⟩
/-- while a result is put together -/
def GS (w : World) (old : List Nat) (a : Option Addr) (l : Nat) (way : Ds) (W : World) : Prop := (∃ C : Array Value, C.size = 66 ∧ G2 w old C W) ∧ DR W a l way
theorem GS.step {w W W' : World} {old : List Nat} {a : Option Addr} {l : Nat} {way : Ds} (h : GS w old a l way W) (hb : Below W.heap.size W W') : GS w old a l way W' := by
  obtain ⟨⟨C, hC, h1⟩, h2⟩ := h
  exact ⟨⟨C, hC, h1.below hb⟩, h2.below hb⟩
def GX (w : World) (old : List Nat) (g : Nat) (D : Array Value) (g13 : Nat) (s : List Nat) (a : Option Addr) (l : Nat) (way : Ds) (W : World) : Prop := (∃ C : Array Value, C.size = 66 ∧ G2 w old C W) ∧ BR W g D ∧ Brow W g13 31 s ∧ DR W a l way
theorem GX.step {w W W' : World} {old : List Nat} {g : Nat} {D : Array Value} {g13 : Nat} {s : List Nat} {a : Option Addr} {l : Nat} {way : Ds} (h : GX w old g D g13 s a l way W) (hb : Below W.heap.size W W') : GX w old g D g13 s a l way W' := by
  obtain ⟨⟨C, hC, h1⟩, h2, h3, h4⟩ := h
  exact ⟨⟨C, hC, h1.below hb⟩, h2.below hb h2.lt, h3.below hb h3.lt, h4.below hb⟩
/-- with the block of what a smaller proof told -/
def G3 (w : World) (old : List Nat) (C : Array Value) (g : Nat) (D : Array Value) (W : World) : Prop := G2 w old C W ∧ BR W g D
theorem G3.below {w W W' : World} {old : List Nat} {C D : Array Value} {g : Nat} (h : G3 w old C g D W) (hb : Below W.heap.size W W') : G3 w old C g D W' := ⟨h.1.below hb, h.2.below hb h.2.lt⟩
theorem G3.put {w W : World} {old : List Nat} {C D : Array Value} {g : Nat} (h : G3 w old C g D W) (hg : w.heap.size + 1 < g) (D' : Array Value) : G3 w old C g D' (W.setRow g D') := by
  have o : Only g W (W.setRow g D') := (Only.refl _ _).setRow _
  exact ⟨⟨h.1.1.only o (by omega), h.1.2.1.only o (by omega), h.1.2.2.trans (o.below (by omega) h.1.2.2.size)⟩, h.2.setRow⟩
theorem G3.lay {w W : World} {old : List Nat} {C : Array Value} (h : G2 w old C W) (O : Obj) (hO : O = .cells noC 70 (0, 0)) : G3 w old C W.heap.size noC ((W.alloc O).setRow W.heap.size noC) := by
  subst hO
  have hb : Below W.heap.size W ((W.alloc (.cells noC 70 (0, 0))).setRow W.heap.size noC) := ((Below.refl _ _).alloc (Nat.le_refl _) _).setRow (Nat.le_refl _) _
  exact ⟨h.below hb, BR.setRow (C := noC) (heap_new _ _)⟩
set_option maxRecDepth 100000 in
set_option maxHeartbeats 2000000 in
theorem rgrow_one (B n : Nat) (old : List Nat) (a : Option Addr) (l cap : Nat) (x : List Nat) (rest : Ds) (w : World) (hr : DR w a l (x :: rest)) (hlc : l ≤ cap) (hcm : cap ≤ 9223372036854775807) (hab : ∀ b, blkOf a = some b → b < B) (hB : B ≤ w.heap.size) :
    Calls Tryd.prog 36 #[.agg (cellsOf old).toArray, .int .i64 (n : Int), .int .i64 (n : Int), .bool false, .slice a l cap] w (GrowRet B old n n false (x :: rest) w) := by
  have hl : 0 < l := by rw [← hr.1]; simp
  have HX := Lib.hid (show D32 x from hr.2.1 x (by simp))
  obtain ⟨rb, ro, rfl, _, _⟩ := hr.at 0 hl
  have HR := Lib.hid hr
  have HAB := Lib.hid hab
  have q5 : ¬ l = 0 := by omega
  have HBI := Lib.hid (info_bothC HX.out HX.out (.slice (sld (some ⟨rb, ro, none⟩) cap 1) (l - 1) (cap - 1)) true)
  clear hr hab
  go_enter Tryd.func36, Tryd.ntmps36
  go_upto_region 1 with fail
  refine gen_code (F := G2 w old noC) (G2.new w old _ (by kernel_rfl)) ?_
  intro wA hc
  have HC := Lib.hid hc.drew
  clear hc
  have HC0 := noC_size
  have HS := Lib.hid (show GS w old (some ⟨rb, ro, none⟩) l (x :: rest) wA.drew from ⟨⟨noC, noC_size, HC.out⟩, HR.out.below HC.out.2.2⟩)
  go_upto_region 6 with fail
  (try dsimp only [Act.put, List.setIfInBounds_toArray, List.set_cons_zero, List.set_cons_succ])
  have HLX := Lib.hid (fun W (hW : GS w old (some ⟨rb, ro, none⟩) l (x :: rest) W) => run_dload dtR W rb (ro + 0 * 32) x HX.out (by
    obtain ⟨b', o', h1, _, h3⟩ := hW.2.at 0 hl
    simp only [Option.some.injEq, Addr.mk.injEq, and_true] at h1
    obtain ⟨rfl, rfl⟩ := h1
    exact h3))
  refine anyH_begin (S := GS w old (some ⟨rb, ro, none⟩) l (x :: rest)) (by kernel_rfl) ?_
  refine anyH_pureG 0 (d := 26) (op := .move (.tmp 4)) (gd := none) (.slice (some ⟨rb, ro, none⟩) l cap) (by rfl) (fun o ho => wanted_plain ho _) (by kernel_rfl) (by kernel_rfl) (by kernel_rfl) (fun _ _ _ h => h) (fun o ho W hW => by unfold execOp; simp only [ho]; go_simp) HS.out ?_
  simp only [Act.put, List.setIfInBounds_toArray, List.set_cons_zero, List.set_cons_succ]
  refine anyH_dindex dtR 1 (d := 27) (x := .tmp 26) (y := .const (.int .i64 0)) rb ro l cap 0 (by omega) (by rfl) (by kernel_rfl) (by kernel_rfl) (by kernel_rfl) (fun _ _ _ h => h) (by rfl) (by rfl) HS.out ?_
  simp only [Act.put, List.setIfInBounds_toArray, List.set_cons_zero, List.set_cons_succ]
  refine anyH_loadG 2 (d := 28) (ty := 31) (x := (.tmp 27)) (gd := none) (p := .pointer (some ⟨rb, ro + 0 * 32, none⟩)) (.agg (cellsOf x).toArray) (by rfl) (fun o ho => wanted_plain ho _) (by kernel_rfl) (by kernel_rfl) (by kernel_rfl) (fun _ _ _ h => h) (by rfl) HLX.out HS.out ?_
  simp only [Act.put, List.setIfInBounds_toArray, List.set_cons_zero, List.set_cons_succ]
  refine anyH_pureG 3 (d := 29) (op := .move (.tmp 4)) (gd := none) (.slice (some ⟨rb, ro, none⟩) l cap) (by rfl) (fun o ho => wanted_plain ho _) (by kernel_rfl) (by kernel_rfl) (by kernel_rfl) (fun _ _ _ h => h) (fun o ho W hW => by unfold execOp; simp only [ho]; go_simp) HS.out ?_
  simp only [Act.put, List.setIfInBounds_toArray, List.set_cons_zero, List.set_cons_succ]
  refine anyH_dindex dtR 4 (d := 30) (x := .tmp 29) (y := .const (.int .i64 0)) rb ro l cap 0 (by omega) (by rfl) (by kernel_rfl) (by kernel_rfl) (by kernel_rfl) (fun _ _ _ h => h) (by rfl) (by rfl) HS.out ?_
  simp only [Act.put, List.setIfInBounds_toArray, List.set_cons_zero, List.set_cons_succ]
  refine anyH_loadG 5 (d := 31) (ty := 31) (x := (.tmp 30)) (gd := none) (p := .pointer (some ⟨rb, ro + 0 * 32, none⟩)) (.agg (cellsOf x).toArray) (by rfl) (fun o ho => wanted_plain ho _) (by kernel_rfl) (by kernel_rfl) (by kernel_rfl) (fun _ _ _ h => h) (by rfl) HLX.out HS.out ?_
  simp only [Act.put, List.setIfInBounds_toArray, List.set_cons_zero, List.set_cons_succ]
  refine anyH_pureG 6 (d := 32) (op := .move (.tmp 4)) (gd := none) (.slice (some ⟨rb, ro, none⟩) l cap) (by rfl) (fun o ho => wanted_plain ho _) (by kernel_rfl) (by kernel_rfl) (by kernel_rfl) (fun _ _ _ h => h) (fun o ho W hW => by unfold execOp; simp only [ho]; go_simp) HS.out ?_
  simp only [Act.put, List.setIfInBounds_toArray, List.set_cons_zero, List.set_cons_succ]
  refine anyH_dcut dtR 7 (d := 33) (x := .tmp 32) (y := .const (.int .i64 1)) (some ⟨rb, ro, none⟩) l cap 1 (by omega) (by rfl) (by kernel_rfl) (by kernel_rfl) (by kernel_rfl) (fun _ _ _ h => h) (by rfl) (by rfl) HS.out ?_
  simp only [Act.put, List.setIfInBounds_toArray, List.set_cons_zero, List.set_cons_succ]
  refine anyH_pureG 8 (d := 34) (op := .build 70 #[(0, (.tmp 28)), (1, (.tmp 31)), (2, (.tmp 33)), (3, (.const (.bool true)))]) (gd := none) (.agg (bothC x x (.slice (sld (some ⟨rb, ro, none⟩) cap 1) (l - 1) (cap - 1)) true)) (by rfl) (fun o ho => wanted_plain ho _) (by kernel_rfl) (by kernel_rfl) (by kernel_rfl) (fun _ _ _ h => h) (fun o ho W hW => exec_both HX.out HX.out _ _ _ _ (p := (.tmp 28)) (q := (.tmp 31)) (r := (.tmp 33)) _ (by rfl) (by rfl) (by rfl) o ho W) HS.out ?_
  simp only [Act.put, List.setIfInBounds_toArray, List.set_cons_zero, List.set_cons_succ]
  refine anyH_op 9 (d := none) (op := .store 70 (.tmp 10) (.tmp 34)) (by kernel_rfl) (by rfl) ?_
  intro o1 hod hoo
  refine wp_store_mid 70 (.tmp 10) (.tmp 34) hoo (w.heap.size + 1) 0 (bothC x x (.slice (sld (some ⟨rb, ro, none⟩) cap 1) (l - 1) (cap - 1)) true) (by exact rfl) (by exact rfl) (HC.out.2.1.there _ (by rw [bothC_size HX.out HX.out, HC0])) HBI.out (bothC_one _ _ _ _ _ _) ?_
  rw [hod]
  have HO := Lib.hid (Only.setCells (bothC x x (.slice (sld (some ⟨rb, ro, none⟩) cap 1) (l - 1) (cap - 1)) true).toList 0 (Only.refl (w.heap.size + 1) wA.drew))
  have HC2 := Lib.hid (HC.out.set (bothC x x (.slice (sld (some ⟨rb, ro, none⟩) cap 1) (l - 1) (cap - 1)) true) (by rw [bothC_size HX.out HX.out, HC0]))
  have HR3 := Lib.hid (HS.out.2.onlyB HAB.out (by omega) HO.out)
  have HS2 := Lib.hid (show GS w old (some ⟨rb, ro, none⟩) l (x :: rest) _ from ⟨⟨(bothC x x (.slice (sld (some ⟨rb, ro, none⟩) cap 1) (l - 1) (cap - 1)) true), bothC_size HX.out HX.out _ _, HC2.out⟩, HR3.out⟩)
  refine ⟨HS2.out, ?_⟩
  clear HS HO hod hoo HC
  simp only [Act.put]
  refine wpAnyH_done (by kernel_rfl) ?_ _
  refine gen_exit (F := fun W => G2 w old (bothC x x (.slice (sld (some ⟨rb, ro, none⟩) cap 1) (l - 1) (cap - 1)) true) W ∧ DR W (some ⟨rb, ro, none⟩) l (x :: rest)) ⟨HC2.out, HR3.out⟩ ?_
  rintro wF ⟨hcf, hrf⟩
  have HF := Lib.hid hcf
  have HRF := Lib.hid (show DR wF (sld (some ⟨rb, ro, none⟩) cap 1) (l - 1) rest from hrf.drop cap 1 (by omega) hlc)
  clear hcf hrf HC2 HS2 HR3
  go_wp2
  refine bodyPost_ret (results_cell_row (by rfl) _ _ (w.heap.size + 1) _ (bothC x x (.slice (sld (some ⟨rb, ro, none⟩) cap 1) (l - 1) (cap - 1)) true) (0, 0) _ (by rfl) HF.out.2.1 Tryd.underlying70 (by rfl) HBI.out) ?_ ?_
  · rfl
  · exact ⟨HF.out.2.2, .inr ⟨x, x, rest, _, _, _, Mk.grow_part _ _ _ _, HX.out, HX.out, HRF.out, by omega, by omega, fun b hb => HAB.out b (by rw [sld_blk] at hb; exact hb), rfl⟩⟩
end Go.Proofs.YtoknjhpdbigbhaaDoor
