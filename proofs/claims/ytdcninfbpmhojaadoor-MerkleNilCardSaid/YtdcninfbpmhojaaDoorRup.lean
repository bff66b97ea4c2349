/-
  The walk over the document's Up.
-/
import Derived.Test.YtdcninfbpmhojaaDoorClm
import Derived.Test.YtdcninfbpmhojaaDoorRpt
namespace Go.Proofs.YtdcninfbpmhojaaDoor
open Go.RowKit
set_option linter.unusedVariables false
theorem anyH_dcut {ops : Array Oper} {Q : Exit → Act → World → Prop} {md : Region.Mode} {S : World → Prop} {T E : TypeId} (hT : DT T E) (i : Nat) {d : Nat} {x y : Operand} (b : Option Addr) (len cap k : Nat) (hk : k ≤ len) {fuel : Nat} {listed : Array Bool} {a : Act} {w : World}
    (hi : (ops[i]?.map fun o => (o.dst, o.op, o.guard)) = some (some d, .slice T x (some y) none none, none)) (hs : Region.noSelect ops = true) (hf : Region.free md ops listed i = true) (hr : (Region.ready md ops listed).contains i = true)
    (hQ : ∀ c a w, Q (.panic c) (a.put (some d) (.slice (sld b cap k) (len - k) (cap - k))) w → Q (.panic c) a w) (hx : a.eval x = .slice b len cap) (hy : a.eval y = .int .i64 (k : Int)) (hS : S w)
    (h : wpAnyH Tryd.prog md ops Q S fuel (listed.setIfInBounds i true) (a.put (some d) (.slice (sld b cap k) (len - k) (cap - k))) w) : wpAnyH Tryd.prog md ops Q S (fuel + 1) listed a w :=
  anyH_pure i _ hi hs hf hr hQ (fun o ho W hW => by unfold execOp; simp only [ho, hx, hy, Option.map_none, Option.map_some, run_dcutAt hT W b len cap k hk, Sem.run_bind, Result.andThen_ok, Sem.run_pure]) hS h
/-- the root that a way tells, and what is left of it -/
def upS (n i : Nat) (leaf : List Nat) (way : Ds) : Option (List Nat × Ds) := Mk.up nodeS n i leaf way
def UpRet (B n i : Nat) (leaf : List Nat) (way : Ds) (w : World) (e : Ending) (w' : World) : Prop :=
  Below w.heap.size w w' ∧ ((upS n i leaf way = none ∧ e = .returned (.tuple #[.agg (cellsOf zs32).toArray, .slice none 0 0, .bool false])) ∨
    ∃ (d : List Nat) (rest : Ds) (a : Option Addr) (l c : Nat), upS n i leaf way = some (d, rest) ∧ D32 d ∧ DR w' a l rest ∧ l ≤ c ∧ c ≤ 9223372036854775807 ∧ (∀ b, blkOf a = some b → b < B) ∧ e = .returned (.tuple #[.agg (cellsOf d).toArray, .slice a l c, .bool true]))
def UIH (n : Nat) : Prop := ∀ B m, m < n → 1 ≤ m → ∀ (i : Nat) (leaf : List Nat) (a : Option Addr) (l cap : Nat) (way : Ds) (w : World), i < m → D32 leaf → DR w a l way → l ≤ cap → cap ≤ 9223372036854775807 → (∀ b, blkOf a = some b → b < B) → B ≤ w.heap.size →
  Calls Tryd.prog 43 #[.int .i64 (m : Int), .int .i64 (i : Int), .agg (cellsOf leaf).toArray, .slice a l cap] w (UpRet B m i leaf way w)
/-- the two blocks of Up: the leaf, and what is handed back -/
def R2 (w : World) (leaf x : List Nat) (W : World) : Prop := Brow W w.heap.size 22 leaf ∧ Brow W (w.heap.size + 1) 22 x ∧ Below w.heap.size w W
theorem R2.new (w : World) (leaf x : List Nat) : R2 w leaf x ((w.alloc (.cells (cellsOf leaf).toArray 22)).alloc (.cells (cellsOf x).toArray 22)) :=
  ⟨(heap_new2 _ _ _).1, (heap_new2 _ _ _).2, ((Below.refl _ _).alloc (Nat.le_refl _) _).alloc (by simp) _⟩
theorem R2.below {w W W' : World} {leaf x : List Nat} (h : R2 w leaf x W) (hb : Below W.heap.size W W') : R2 w leaf x W' := ⟨h.1.below hb h.1.lt, h.2.1.below hb h.2.1.lt, h.2.2.trans (hb.mono h.2.2.size)⟩
theorem R2.drew {w W : World} {leaf x : List Nat} (h : R2 w leaf x W) : R2 w leaf x W.drew := ⟨h.1.drew, h.2.1.drew, h.2.2.drew⟩
theorem R2.set {w W : World} {leaf x : List Nat} (h : R2 w leaf x W) (y : List Nat) (hl : y.length = x.length) : R2 w leaf y (W.setCells (w.heap.size + 1) 0 (cellsOf y)) := by
  have o : Only (w.heap.size + 1) W (W.setCells (w.heap.size + 1) 0 (cellsOf y)) := Only.setCells _ _ (Only.refl _ _)
  exact ⟨h.1.only o (by omega), h.2.1.setAll hl, h.2.2.trans (o.below (by omega) h.2.2.size)⟩
theorem R2.setRow {w W : World} {leaf x : List Nat} (h : R2 w leaf x W) (y : List Nat) : R2 w leaf y (W.setRow (w.heap.size + 1) (cellsOf y).toArray) := by
  have o : Only (w.heap.size + 1) W (W.setRow (w.heap.size + 1) (cellsOf y).toArray) := (Only.refl _ _).setRow _
  exact ⟨h.1.only o (by omega), h.2.1.setRow, h.2.2.trans (o.below (by omega) h.2.2.size)⟩
theorem R2.rowOnly {w W : World} {leaf x : List Nat} (h : R2 w leaf x W) (y : List Nat) : Only (w.heap.size + 1) W (W.setRow (w.heap.size + 1) (cellsOf y).toArray) := (Only.refl _ _).setRow _
theorem results_trip {fn : Func} {P : Program} {p q r : Tmp} {ty : TypeId} (h : fn.results = #[.cell p ty, .tmp q, .tmp r]) (tmps : Array Value) (w : World) (g : Nat) (t : TypeId) (cs : Array Value) (fr : Nat × Nat) (d : TypeDesc) (b c : Value)
    (hp : tmps.getD p undef = .pointer (some ⟨g, 0, none⟩)) (hq : tmps.getD q undef = b) (hr : tmps.getD r undef = c) (hg : w.heap[g]? = some (.cells cs t fr))
    (hu : P.underlying ty = some d) (hd : (match d with | .struct _ | .array _ _ => true | _ => false) = true) (hi : (P.info? ty).map (·.size) = some cs.size) :
    (results fn tmps).run P w = .ok (.tuple #[.agg cs, b, c]) w := by
  have hp' : tmps[p]?.getD undef = .pointer (some ⟨g, 0, none⟩) := by simpa using hp
  have hq' : tmps[q]?.getD undef = b := by simpa using hq
  have hr' : tmps[r]?.getD undef = c := by simpa using hr
  simp [results, h, hp', hq', hr', asAddr, run_loadVar_row w g t ty cs fr d hg hu hd hi]
/-- a slice that was there lies in no block from there on -/
theorem DR.onlyB {w w' : World} {a : Option Addr} {n B g : Nat} {ds : Ds} (h : DR w a n ds) (hb : ∀ b, blkOf a = some b → b < B) (hg : B ≤ g) (ho : Only g w w') : DR w' a n ds :=
  ⟨h.1, h.2.1, ho.rd' h.2.2 (fun _ e => by have := hb g e; omega)⟩
theorem sld_blk (a : Option Addr) (cap k : Nat) : blkOf (sld a cap k) = blkOf a := by rw [sld_sla]; exact sla_blk _ _ _
set_option maxRecDepth 100000 in
set_option maxHeartbeats 2000000 in
theorem rup_1 (B i : Nat) (leaf : List Nat) (a : Option Addr) (l cap : Nat) (way : Ds) (w : World) (hl : D32 leaf) (hr : DR w a l way) (hlc : l ≤ cap) (hcm : cap ≤ 9223372036854775807) (hab : ∀ b, blkOf a = some b → b < B) (hB : B ≤ w.heap.size) :
    Calls Tryd.prog 43 #[.int .i64 1, .int .i64 (i : Int), .agg (cellsOf leaf).toArray, .slice a l cap] w (UpRet B 1 i leaf way w) := by
  have HL := Lib.hid hl
  have HR := Lib.hid hr
  have HI := Lib.hid (info32 dtR hl)
  have HZ := Lib.hid (zsize hl)
  have HAB := Lib.hid hab
  clear hl hr hab
  go_enter Tryd.func43, Tryd.ntmps43
  go_upto_region 1 with fail
  refine gen_code (F := R2 w leaf zs32) (R2.new w leaf zs32) ?_
  intro wA hc
  have HC := Lib.hid hc
  clear hc
  go_wp2_with (first | (refine wpList_load_row (by rfl) 22 _ (by rfl) w.heap.size (by rfl) _ (cellsOf leaf).toArray (0, 0) _ HC.out.1 Tryd.underlying22 (by rfl) HI.out ?_) | (refine wpList_store_row (by rfl) 22 _ _ (by rfl) (w.heap.size + 1) (cellsOf leaf).toArray (by rfl) (by rfl) 22 (cellsOf zs32).toArray HC.out.2.1 HI.out HZ.out (cellsOf_all _) ?_))
  refine bodyPost_ret (results_trip (by rfl) _ _ (w.heap.size + 1) _ (cellsOf leaf).toArray (0, 0) _ (.slice a l cap) (.bool true) (by rfl) (by rfl) (by rfl) (HC.out.setRow leaf).2.1 Tryd.underlying22 (by rfl) HI.out) ?_ ?_
  · rfl
  · exact ⟨(HC.out.setRow leaf).2.2, .inr ⟨leaf, way, a, l, cap, Mk.up_less _ _ _ _ _ (by omega), HL.out, (HR.out.below HC.out.2.2).onlyB HAB.out (by omega) (HC.out.rowOnly leaf), hlc, hcm, HAB.out, rfl⟩⟩
def UP9 (w : World) (leaf : List Nat) (g : Nat) (d : List Nat) (rb ro rl : Nat) (x : List Nat) (rest : Ds) (W : World) : Prop := (∃ y, y.length = 32 ∧ R2 w leaf y W) ∧ Brow W g 22 d ∧ DR W (some ⟨rb, ro, none⟩) rl (x :: rest)
theorem UP9.step {w W W' : World} {leaf : List Nat} {g : Nat} {d : List Nat} {rb ro rl : Nat} {x : List Nat} {rest : Ds} (h : UP9 w leaf g d rb ro rl x rest W) (hb : Below W.heap.size W W') : UP9 w leaf g d rb ro rl x rest W' := by
  obtain ⟨⟨y, hy, h1⟩, h2, h3⟩ := h
  exact ⟨⟨y, hy, h1.below hb⟩, h2.below hb h2.lt, h3.below hb⟩
theorem rup_l_eq {n k i : Nat} {leaf : List Nat} {way : Ds} (h2 : 2 ≤ n) (hk : Mk.half n = k) (hik : i < k) : upS n i leaf way = match upS k i leaf way with
      | some (d, x :: r) => some (nodeS d x, r)
      | _ => none := by
  subst hk
  exact Mk.up_left _ _ _ _ _ h2 hik
set_option maxRecDepth 100000 in
set_option maxHeartbeats 4000000 in
theorem rup_l (B n k i : Nat) (ih : UIH n) (leaf : List Nat) (a : Option Addr) (l cap : Nat) (way : Ds) (w : World) (h2 : 2 ≤ n) (hn : n ≤ 9223372036854775807) (hi : i < n) (hk : Mk.half n = k) (hik : i < k) (hl : D32 leaf) (hr : DR w a l way) (hlc : l ≤ cap) (hcm : cap ≤ 9223372036854775807) (hab : ∀ b, blkOf a = some b → b < B) (hB : B ≤ w.heap.size) :
    Calls Tryd.prog 43 #[.int .i64 (n : Int), .int .i64 (i : Int), .agg (cellsOf leaf).toArray, .slice a l cap] w (UpRet B n i leaf way w) := by
  have hk0 : 0 < k := by rw [← hk]; exact Mk.half_pos n
  have hkn : k < n := by rw [← hk]; exact Mk.half_lt n h2
  have HH := Lib.hid (fun W => rhalf_c n W h2 (by omega))
  rw [hk] at HH
  have q0 : ¬ (n : Int) < 2 := by omega
  have q2 : (i : Int) < (k : Int) := by omega
  have HEQ := Lib.hid (rup_l_eq (leaf := leaf) (way := way) h2 hk hik)
  have HIN := Lib.hid (show ∀ W, Below w.heap.size w W → Calls Tryd.prog 43 #[.int .i64 (k : Int), .int .i64 (i : Int), .agg (cellsOf leaf).toArray, .slice a l cap] W (UpRet B k i leaf way W) from fun W hW => ih B k (by omega) (by omega) i leaf a l cap way W (by omega) hl (hr.below hW) hlc hcm hab (Nat.le_trans hB hW.size))
  have HAB := Lib.hid hab
  have HR := Lib.hid hr
  have HIL := Lib.hid (info32 dtR hl)
  have hz : D32 zs32 := ⟨zs32_len, by decide⟩
  have HIZ := Lib.hid (info32 dtR hz)
  clear ih hl hr hab hk hz
  go_enter Tryd.func43, Tryd.ntmps43
  go_upto_region 1 with fail
  refine gen_code (F := R2 w leaf zs32) (R2.new w leaf zs32) ?_
  intro wA hc
  have HC := Lib.hid hc
  clear hc
  go_wp2_with (first | (go_at_call 33; refine (HH.out _).mono ?_; rintro e wb ⟨rfl, rfl⟩) | (refine wpList_load_row (by rfl) 22 _ (by rfl) w.heap.size (by rfl) _ (cellsOf leaf).toArray (0, 0) _ HC.out.1 Tryd.underlying22 (by rfl) HIL.out ?_))
  refine (HIN.out _ HC.out.2.2).mono ?_
  rintro e w1 ⟨hb1, ⟨hu, rfl⟩ | ⟨d, rest, ra, rl, rc, hu, hd, hrr, hrc, hrcm, hrb, rfl⟩⟩
  · have HC1 := Lib.hid (HC.out.below hb1)
    have HU := Lib.hid (show upS n i leaf way = none from by rw [HEQ.out, hu])
    have K1 := Lib.hid (fun (O : Obj) (hO : O = .cells (cellsOf zs32).toArray 22 (0, 0)) => show R2 w leaf zs32 ((w1.alloc O).setRow w1.heap.size (cellsOf zs32).toArray) from by
      subst hO
      exact HC1.out.below (((Below.refl _ _).alloc (Nat.le_refl _) _).setRow (Nat.le_refl _) _))
    clear hb1 hu HEQ HC
    go_upto_region 6 with (first | (refine wpList_store_row (by rfl) 22 _ _ (by rfl) w1.heap.size (cellsOf zs32).toArray (by rfl) (by rfl) 22 (cellsOf zs32).toArray (by exact heap_new _ _) HIZ.out (by rfl) (cellsOf_all _) ?_))
    refine gen_code (F := R2 w leaf zs32) (K1.out _ rfl) ?_
    intro w2 hc
    have HC2 := Lib.hid hc
    clear hc K1
    go_wp2_with (first | (refine wpList_store_row (by rfl) 22 _ _ (by rfl) (w.heap.size + 1) (cellsOf zs32).toArray (by rfl) (by rfl) 22 (cellsOf zs32).toArray HC2.out.2.1 HIZ.out (by rfl) (cellsOf_all _) ?_))
    refine bodyPost_ret (results_trip (by rfl) _ _ (w.heap.size + 1) _ (cellsOf zs32).toArray (0, 0) _ (.slice none 0 0) (.bool false) (by rfl) (by rfl) (by rfl) (HC2.out.setRow zs32).2.1 Tryd.underlying22 (by rfl) HIZ.out) ?_ ?_
    · rfl
    · exact ⟨(HC2.out.setRow zs32).2.2, .inl ⟨HU.out, rfl⟩⟩
  have HC1 := Lib.hid (HC.out.below hb1)
  have HD := Lib.hid hd
  have HID := Lib.hid (info32 dtR hd)
  have HZD := Lib.hid (zsize hd)
  have HRB := Lib.hid hrb
  have K1 := Lib.hid (fun (O : Obj) (hO : O = .cells (cellsOf zs32).toArray 22 (0, 0)) => show R2 w leaf zs32 ((w1.alloc O).setRow w1.heap.size (cellsOf d).toArray) ∧ Brow ((w1.alloc O).setRow w1.heap.size (cellsOf d).toArray) w1.heap.size 22 d ∧ DR ((w1.alloc O).setRow w1.heap.size (cellsOf d).toArray) ra rl rest from by
    subst hO
    have hb : Below w1.heap.size w1 ((w1.alloc (.cells (cellsOf zs32).toArray 22 (0, 0))).setRow w1.heap.size (cellsOf d).toArray) := ((Below.refl _ _).alloc (Nat.le_refl _) _).setRow (Nat.le_refl _) _
    exact ⟨HC1.out.below hb, (Brow.new w1 22 zs32).setRow, hrr.below hb⟩)
  cases rest with
  | nil =>
    obtain rfl : rl = 0 := by rw [← hrr.1]; rfl
    have HU := Lib.hid (show upS n i leaf way = none from by rw [HEQ.out, hu])
    clear hb1 hu HEQ HC hd hrr hrb
    go_upto_region 6 with (first | (refine wpList_store_row (by rfl) 22 _ _ (by rfl) w1.heap.size (cellsOf d).toArray (by rfl) (by rfl) 22 (cellsOf zs32).toArray (by exact heap_new _ _) HID.out HZD.out (cellsOf_all _) ?_))
    refine gen_code (F := R2 w leaf zs32) (K1.out _ rfl).1 ?_
    intro w2 hc
    have HC2 := Lib.hid hc
    clear hc K1
    go_wp2_with (first | (refine wpList_store_row (by rfl) 22 _ _ (by rfl) (w.heap.size + 1) (cellsOf zs32).toArray (by rfl) (by rfl) 22 (cellsOf zs32).toArray HC2.out.2.1 HIZ.out (by rfl) (cellsOf_all _) ?_))
    refine bodyPost_ret (results_trip (by rfl) _ _ (w.heap.size + 1) _ (cellsOf zs32).toArray (0, 0) _ (.slice none 0 0) (.bool false) (by rfl) (by rfl) (by rfl) (HC2.out.setRow zs32).2.1 Tryd.underlying22 (by rfl) HIZ.out) ?_ ?_
    · rfl
    · exact ⟨(HC2.out.setRow zs32).2.2, .inl ⟨HU.out, rfl⟩⟩
  | cons x rest =>
    have hrl : 0 < rl := by rw [← hrr.1]; simp
    have HU := Lib.hid (show upS n i leaf way = some (nodeS d x, rest) from by rw [HEQ.out, hu])
    have HX := Lib.hid (show D32 x from hrr.2.1 x (by simp))
    obtain ⟨rb, ro, rfl, _, _⟩ := hrr.at 0 hrl
    clear hb1 hu HEQ HC hd hrr hrb
    go_upto_region 6 with (first | (refine wpList_store_row (by rfl) 22 _ _ (by rfl) w1.heap.size (cellsOf d).toArray (by rfl) (by rfl) 22 (cellsOf zs32).toArray (by exact heap_new _ _) HID.out HZD.out (cellsOf_all _) ?_))
    refine gen_code (F := fun W => R2 w leaf zs32 W ∧ Brow W w1.heap.size 22 d ∧ DR W (some ⟨rb, ro, none⟩) rl (x :: rest)) (K1.out _ rfl) ?_
    rintro w2 ⟨hc, hdd, hrr⟩
    have HC := Lib.hid hc.drew
    have HS := Lib.hid (show UP9 w leaf w1.heap.size d rb ro rl x rest w2.drew from ⟨⟨zs32, zs32_len, hc.drew⟩, hdd.drew, hrr⟩)
    have q5 : ¬ rl = 0 := by omega
    clear hc hdd hrr K1
    go_upto_region 8 with fail
    (try dsimp only [Act.put, List.setIfInBounds_toArray, List.set_cons_zero, List.set_cons_succ])
    have HLD := Lib.hid (fun W (hW : UP9 w leaf w1.heap.size d rb ro rl x rest W) => run_dload dtR W w1.heap.size 0 d HD.out hW.2.1.range)
    have HLX := Lib.hid (fun W (hW : UP9 w leaf w1.heap.size d rb ro rl x rest W) => run_dload dtR W rb (ro + 0 * 32) x HX.out (by
      obtain ⟨b', o', h1, _, h3⟩ := hW.2.2.at 0 hrl
      simp only [Option.some.injEq, Addr.mk.injEq, and_true] at h1
      obtain ⟨rfl, rfl⟩ := h1
      exact h3))
    obtain ⟨N, hN⟩ : ∃ N, N = nodeS d x := ⟨_, rfl⟩
    rw [← hN] at HU
    have HN := Lib.hid (show D32 N from by rw [hN]; exact d32_sum _)
    have HNODE := Lib.hid (fun W => rnode_c d x W HD.out HX.out)
    unfold nodeS at hN
    rw [show nodeS d x = N from by rw [hN]; rfl] at HNODE
    clear hN
    refine anyH_begin (S := UP9 w leaf w1.heap.size d rb ro rl x rest) (by kernel_rfl) ?_
    refine anyH_loadG 0 (d := 44) (ty := 22) (x := (.tmp 12)) (gd := none) (p := .pointer (some ⟨w1.heap.size, 0, none⟩)) (.agg (cellsOf d).toArray) (by rfl) (fun o ho => wanted_plain ho _) (by kernel_rfl) (by kernel_rfl) (by kernel_rfl) (fun _ _ _ h => h) (by rfl) HLD.out HS.out ?_
    simp only [Act.put, List.setIfInBounds_toArray, List.set_cons_zero, List.set_cons_succ]
    refine anyH_pureG 1 (d := 45) (op := .move (.tmp 13)) (gd := none) (.slice (some ⟨rb, ro, none⟩) rl rc) (by rfl) (fun o ho => wanted_plain ho _) (by kernel_rfl) (by kernel_rfl) (by kernel_rfl) (fun _ _ _ h => h) (fun o ho W hW => by unfold execOp; simp only [ho]; go_simp) HS.out ?_
    simp only [Act.put, List.setIfInBounds_toArray, List.set_cons_zero, List.set_cons_succ]
    refine anyH_dindex dtR 2 (d := 46) (x := .tmp 45) (y := .const (.int .i64 0)) rb ro rl rc 0 (by omega) (by rfl) (by kernel_rfl) (by kernel_rfl) (by kernel_rfl) (fun _ _ _ h => h) (by rfl) (by rfl) HS.out ?_
    simp only [Act.put, List.setIfInBounds_toArray, List.set_cons_zero, List.set_cons_succ]
    refine anyH_loadG 3 (d := 47) (ty := 22) (x := (.tmp 46)) (gd := none) (p := .pointer (some ⟨rb, ro + 0 * 32, none⟩)) (.agg (cellsOf x).toArray) (by rfl) (fun o ho => wanted_plain ho _) (by kernel_rfl) (by kernel_rfl) (by kernel_rfl) (fun _ _ _ h => h) (by rfl) HLX.out HS.out ?_
    simp only [Act.put, List.setIfInBounds_toArray, List.set_cons_zero, List.set_cons_succ]
    refine anyH_pureG 5 (d := 49) (op := .move (.tmp 13)) (gd := none) (.slice (some ⟨rb, ro, none⟩) rl rc) (by rfl) (fun o ho => wanted_plain ho _) (by kernel_rfl) (by kernel_rfl) (by kernel_rfl) (fun _ _ _ h => h) (fun o ho W hW => by unfold execOp; simp only [ho]; go_simp) HS.out ?_
    simp only [Act.put, List.setIfInBounds_toArray, List.set_cons_zero, List.set_cons_succ]
    refine anyH_dcut dtR 6 (d := 50) (x := .tmp 49) (y := .const (.int .i64 1)) (some ⟨rb, ro, none⟩) rl rc 1 (by omega) (by rfl) (by kernel_rfl) (by kernel_rfl) (by kernel_rfl) (fun _ _ _ h => h) (by rfl) (by rfl) HS.out ?_
    simp only [Act.put, List.setIfInBounds_toArray, List.set_cons_zero, List.set_cons_succ]
    refine anyH_callG 4 (d := some 48) (f := 26) (xs := #[(.tmp 44), (.tmp 47)]) (ts := #[22, 22]) (gd := none) (vs := #[.agg (cellsOf d).toArray, .agg (cellsOf x).toArray]) (by kernel_rfl) (by rfl) (fun o ho => wanted_plain ho _) (by go_simp) (by go_simp) (HNODE.out _) ?_
    rintro e9 w9 ⟨rfl, hb9⟩
    refine ⟨_, rfl, HS.out.step hb9, fun hS9 => ?_⟩
    have HS := Lib.hid hS9
    have HC := Lib.hid (HC.out.below hb9)
    clear hS9 hb9
    simp only [Act.put, List.setIfInBounds_toArray, List.set_cons_zero, List.set_cons_succ]
    have HNI := Lib.hid (info32 dtR HN.out)
    have HTH := Lib.hid (HC.out.2.1.there _ (show (cellsOf N).toArray.size = zs32.length from by rw [cellsOf_size, HN.out.1, zs32_len]))
    have hg1 := HC.out.2.2.size
    refine anyH_op 7 (d := none) (op := .store 22 (.tmp 8) (.tmp 48)) (by kernel_rfl) (by rfl) ?_
    intro o1 hod hoo
    refine wp_store_mid 22 (.tmp 8) (.tmp 48) hoo (w.heap.size + 1) 0 (cellsOf N).toArray (by rfl) (by rfl) HTH.out HNI.out (cellsOf_all _) ?_
    rw [hod, List.toList_toArray]
    have HO := Lib.hid (Only.setCells (cellsOf N) 0 (Only.refl (w.heap.size + 1) w9))
    have HC2 := Lib.hid (HC.out.set N (by rw [HN.out.1, zs32_len]))
    have HR3 := Lib.hid (HS.out.2.2.onlyB HRB.out (by omega) HO.out)
    have HS2 := Lib.hid (show UP9 w leaf w1.heap.size d rb ro rl x rest _ from ⟨⟨N, HN.out.1, HC2.out⟩, HS.out.2.1.only HO.out (by have := HC1.out.2.1.lt; omega), HR3.out⟩)
    refine ⟨HS2.out, ?_⟩
    clear HS HTH HO hod hoo HC
    simp only [Act.put]
    refine anyH_pureG 8 (d := 9) (op := .assign (.tmp 50)) (gd := none) (.slice (sld (some ⟨rb, ro, none⟩) rc 1) (rl - 1) (rc - 1)) (by rfl) (fun o ho => wanted_plain ho _) (by kernel_rfl) (by kernel_rfl) (by kernel_rfl) (fun _ _ _ h => h) (fun o ho W hW => by unfold execOp; simp only [ho]; go_simp) HS2.out ?_
    simp only [Act.put, List.setIfInBounds_toArray, List.set_cons_zero, List.set_cons_succ]
    refine anyH_pureG 9 (d := 10) (op := .assign (.const (.bool true))) (gd := none) (.bool true) (by rfl) (fun o ho => wanted_plain ho _) (by kernel_rfl) (by kernel_rfl) (by kernel_rfl) (fun _ _ _ h => h) (fun o ho W hW => by unfold execOp; simp only [ho]; go_simp) HS2.out ?_
    simp only [Act.put, List.setIfInBounds_toArray, List.set_cons_zero, List.set_cons_succ]
    refine wpAnyH_done (by kernel_rfl) ?_ _
    refine gen_exit (F := fun W => R2 w leaf N W ∧ DR W (some ⟨rb, ro, none⟩) rl (x :: rest)) ⟨HC2.out, HR3.out⟩ ?_
    rintro wF ⟨hcf, hrf⟩
    have HF := Lib.hid hcf
    have HRF := Lib.hid (show DR wF (sld (some ⟨rb, ro, none⟩) rc 1) (rl - 1) rest from hrf.drop rc 1 (by omega) hrc)
    clear hcf hrf HC2 HS2 HR3
    go_wp2
    refine bodyPost_ret (results_trip (by rfl) _ _ (w.heap.size + 1) _ (cellsOf N).toArray (0, 0) _ (.slice (sld (some ⟨rb, ro, none⟩) rc 1) (rl - 1) (rc - 1)) (.bool true) (by rfl) (by rfl) (by rfl) HF.out.2.1 Tryd.underlying22 (by rfl) HNI.out) ?_ ?_
    · rfl
    · exact ⟨HF.out.2.2, .inr ⟨N, rest, _, _, _, HU.out, HN.out, HRF.out, by omega, by omega, fun b hb => HRB.out b (by rw [sld_blk] at hb; exact hb), rfl⟩⟩
theorem rup_r_eq {n k i : Nat} {leaf : List Nat} {way : Ds} (h2 : 2 ≤ n) (hk : Mk.half n = k) (hik : ¬ i < k) : upS n i leaf way = match upS (n - k) (i - k) leaf way with
      | some (d, x :: r) => some (nodeS x d, r)
      | _ => none := by
  subst hk
  exact Mk.up_right _ _ _ _ _ h2 hik
set_option maxRecDepth 100000 in
set_option maxHeartbeats 4000000 in
theorem rup_r (B n k i : Nat) (ih : UIH n) (leaf : List Nat) (a : Option Addr) (l cap : Nat) (way : Ds) (w : World) (h2 : 2 ≤ n) (hn : n ≤ 9223372036854775807) (hi : i < n) (hk : Mk.half n = k) (hik : ¬ i < k) (hl : D32 leaf) (hr : DR w a l way) (hlc : l ≤ cap) (hcm : cap ≤ 9223372036854775807) (hab : ∀ b, blkOf a = some b → b < B) (hB : B ≤ w.heap.size) :
    Calls Tryd.prog 43 #[.int .i64 (n : Int), .int .i64 (i : Int), .agg (cellsOf leaf).toArray, .slice a l cap] w (UpRet B n i leaf way w) := by
  have hk0 : 0 < k := by rw [← hk]; exact Mk.half_pos n
  have hkn : k < n := by rw [← hk]; exact Mk.half_lt n h2
  have HH := Lib.hid (fun W => rhalf_c n W h2 (by omega))
  rw [hk] at HH
  have q0 : ¬ (n : Int) < 2 := by omega
  have q2 : ¬ (i : Int) < (k : Int) := by omega
  have HEQ := Lib.hid (rup_r_eq (leaf := leaf) (way := way) h2 hk hik)
  have HIN := Lib.hid (show ∀ W, Below w.heap.size w W → Calls Tryd.prog 43 #[.int .i64 ((n - k : Nat) : Int), .int .i64 ((i - k : Nat) : Int), .agg (cellsOf leaf).toArray, .slice a l cap] W (UpRet B (n - k) (i - k) leaf way W) from fun W hW => ih B (n - k) (by omega) (by omega) (i - k) leaf a l cap way W (by omega) hl (hr.below hW) hlc hcm hab (Nat.le_trans hB hW.size))
  have HAB := Lib.hid hab
  have HR := Lib.hid hr
  have HIL := Lib.hid (info32 dtR hl)
  have hz : D32 zs32 := ⟨zs32_len, by decide⟩
  have HIZ := Lib.hid (info32 dtR hz)
  clear ih hl hr hab hk hz
  go_enter Tryd.func43, Tryd.ntmps43
  go_upto_region 1 with fail
  refine gen_code (F := R2 w leaf zs32) (R2.new w leaf zs32) ?_
  intro wA hc
  have HC := Lib.hid hc
  clear hc
  have s1 : (n : Int) - (k : Int) = ((n - k : Nat) : Int) := by omega
  have s2 : (i : Int) - (k : Int) = ((i - k : Nat) : Int) := by omega
  go_wp2_with (first | (go_at_call 33; refine (HH.out _).mono ?_; rintro e wb ⟨rfl, rfl⟩) | (refine wpList_load_row (by rfl) 22 _ (by rfl) w.heap.size (by rfl) _ (cellsOf leaf).toArray (0, 0) _ HC.out.1 Tryd.underlying22 (by rfl) HIL.out ?_))
  refine (HIN.out _ HC.out.2.2).mono ?_
  rintro e w1 ⟨hb1, ⟨hu, rfl⟩ | ⟨d, rest, ra, rl, rc, hu, hd, hrr, hrc, hrcm, hrb, rfl⟩⟩
  · have HC1 := Lib.hid (HC.out.below hb1)
    have HU := Lib.hid (show upS n i leaf way = none from by rw [HEQ.out, hu])
    have K1 := Lib.hid (fun (O : Obj) (hO : O = .cells (cellsOf zs32).toArray 22 (0, 0)) => show R2 w leaf zs32 ((w1.alloc O).setRow w1.heap.size (cellsOf zs32).toArray) from by
      subst hO
      exact HC1.out.below (((Below.refl _ _).alloc (Nat.le_refl _) _).setRow (Nat.le_refl _) _))
    clear hb1 hu HEQ HC
    go_upto_region 10 with (first | (refine wpList_store_row (by rfl) 22 _ _ (by rfl) w1.heap.size (cellsOf zs32).toArray (by rfl) (by rfl) 22 (cellsOf zs32).toArray (by exact heap_new _ _) HIZ.out (by rfl) (cellsOf_all _) ?_))
    refine gen_code (F := R2 w leaf zs32) (K1.out _ rfl) ?_
    intro w2 hc
    have HC2 := Lib.hid hc
    clear hc K1
    go_wp2_with (first | (refine wpList_store_row (by rfl) 22 _ _ (by rfl) (w.heap.size + 1) (cellsOf zs32).toArray (by rfl) (by rfl) 22 (cellsOf zs32).toArray HC2.out.2.1 HIZ.out (by rfl) (cellsOf_all _) ?_))
    refine bodyPost_ret (results_trip (by rfl) _ _ (w.heap.size + 1) _ (cellsOf zs32).toArray (0, 0) _ (.slice none 0 0) (.bool false) (by rfl) (by rfl) (by rfl) (HC2.out.setRow zs32).2.1 Tryd.underlying22 (by rfl) HIZ.out) ?_ ?_
    · rfl
    · exact ⟨(HC2.out.setRow zs32).2.2, .inl ⟨HU.out, rfl⟩⟩
  have HC1 := Lib.hid (HC.out.below hb1)
  have HD := Lib.hid hd
  have HID := Lib.hid (info32 dtR hd)
  have HZD := Lib.hid (zsize hd)
  have HRB := Lib.hid hrb
  have K1 := Lib.hid (fun (O : Obj) (hO : O = .cells (cellsOf zs32).toArray 22 (0, 0)) => show R2 w leaf zs32 ((w1.alloc O).setRow w1.heap.size (cellsOf d).toArray) ∧ Brow ((w1.alloc O).setRow w1.heap.size (cellsOf d).toArray) w1.heap.size 22 d ∧ DR ((w1.alloc O).setRow w1.heap.size (cellsOf d).toArray) ra rl rest from by
    subst hO
    have hb : Below w1.heap.size w1 ((w1.alloc (.cells (cellsOf zs32).toArray 22 (0, 0))).setRow w1.heap.size (cellsOf d).toArray) := ((Below.refl _ _).alloc (Nat.le_refl _) _).setRow (Nat.le_refl _) _
    exact ⟨HC1.out.below hb, (Brow.new w1 22 zs32).setRow, hrr.below hb⟩)
  cases rest with
  | nil =>
    obtain rfl : rl = 0 := by rw [← hrr.1]; rfl
    have HU := Lib.hid (show upS n i leaf way = none from by rw [HEQ.out, hu])
    clear hb1 hu HEQ HC hd hrr hrb
    go_upto_region 10 with (first | (refine wpList_store_row (by rfl) 22 _ _ (by rfl) w1.heap.size (cellsOf d).toArray (by rfl) (by rfl) 22 (cellsOf zs32).toArray (by exact heap_new _ _) HID.out HZD.out (cellsOf_all _) ?_))
    refine gen_code (F := R2 w leaf zs32) (K1.out _ rfl).1 ?_
    intro w2 hc
    have HC2 := Lib.hid hc
    clear hc K1
    go_wp2_with (first | (refine wpList_store_row (by rfl) 22 _ _ (by rfl) (w.heap.size + 1) (cellsOf zs32).toArray (by rfl) (by rfl) 22 (cellsOf zs32).toArray HC2.out.2.1 HIZ.out (by rfl) (cellsOf_all _) ?_))
    refine bodyPost_ret (results_trip (by rfl) _ _ (w.heap.size + 1) _ (cellsOf zs32).toArray (0, 0) _ (.slice none 0 0) (.bool false) (by rfl) (by rfl) (by rfl) (HC2.out.setRow zs32).2.1 Tryd.underlying22 (by rfl) HIZ.out) ?_ ?_
    · rfl
    · exact ⟨(HC2.out.setRow zs32).2.2, .inl ⟨HU.out, rfl⟩⟩
  | cons x rest =>
    have hrl : 0 < rl := by rw [← hrr.1]; simp
    have HU := Lib.hid (show upS n i leaf way = some (nodeS x d, rest) from by rw [HEQ.out, hu])
    have HX := Lib.hid (show D32 x from hrr.2.1 x (by simp))
    obtain ⟨rb, ro, rfl, _, _⟩ := hrr.at 0 hrl
    clear hb1 hu HEQ HC hd hrr hrb
    go_upto_region 10 with (first | (refine wpList_store_row (by rfl) 22 _ _ (by rfl) w1.heap.size (cellsOf d).toArray (by rfl) (by rfl) 22 (cellsOf zs32).toArray (by exact heap_new _ _) HID.out HZD.out (cellsOf_all _) ?_))
    refine gen_code (F := fun W => R2 w leaf zs32 W ∧ Brow W w1.heap.size 22 d ∧ DR W (some ⟨rb, ro, none⟩) rl (x :: rest)) (K1.out _ rfl) ?_
    rintro w2 ⟨hc, hdd, hrr⟩
    have HC := Lib.hid hc.drew
    have HS := Lib.hid (show UP9 w leaf w1.heap.size d rb ro rl x rest w2.drew from ⟨⟨zs32, zs32_len, hc.drew⟩, hdd.drew, hrr⟩)
    have q5 : ¬ rl = 0 := by omega
    clear hc hdd hrr K1
    go_upto_region 12 with fail
    (try dsimp only [Act.put, List.setIfInBounds_toArray, List.set_cons_zero, List.set_cons_succ])
    have HLD := Lib.hid (fun W (hW : UP9 w leaf w1.heap.size d rb ro rl x rest W) => run_dload dtR W w1.heap.size 0 d HD.out hW.2.1.range)
    have HLX := Lib.hid (fun W (hW : UP9 w leaf w1.heap.size d rb ro rl x rest W) => run_dload dtR W rb (ro + 0 * 32) x HX.out (by
      obtain ⟨b', o', h1, _, h3⟩ := hW.2.2.at 0 hrl
      simp only [Option.some.injEq, Addr.mk.injEq, and_true] at h1
      obtain ⟨rfl, rfl⟩ := h1
      exact h3))
    obtain ⟨N, hN⟩ : ∃ N, N = nodeS x d := ⟨_, rfl⟩
    rw [← hN] at HU
    have HN := Lib.hid (show D32 N from by rw [hN]; exact d32_sum _)
    have HNODE := Lib.hid (fun W => rnode_c x d W HX.out HD.out)
    unfold nodeS at hN
    rw [show nodeS x d = N from by rw [hN]; rfl] at HNODE
    clear hN
    refine anyH_begin (S := UP9 w leaf w1.heap.size d rb ro rl x rest) (by kernel_rfl) ?_
    refine anyH_pureG 0 (d := 72) (op := .move (.tmp 16)) (gd := none) (.slice (some ⟨rb, ro, none⟩) rl rc) (by rfl) (fun o ho => wanted_plain ho _) (by kernel_rfl) (by kernel_rfl) (by kernel_rfl) (fun _ _ _ h => h) (fun o ho W hW => by unfold execOp; simp only [ho]; go_simp) HS.out ?_
    simp only [Act.put, List.setIfInBounds_toArray, List.set_cons_zero, List.set_cons_succ]
    refine anyH_dindex dtR 1 (d := 73) (x := .tmp 72) (y := .const (.int .i64 0)) rb ro rl rc 0 (by omega) (by rfl) (by kernel_rfl) (by kernel_rfl) (by kernel_rfl) (fun _ _ _ h => h) (by rfl) (by rfl) HS.out ?_
    simp only [Act.put, List.setIfInBounds_toArray, List.set_cons_zero, List.set_cons_succ]
    refine anyH_loadG 2 (d := 74) (ty := 22) (x := (.tmp 73)) (gd := none) (p := .pointer (some ⟨rb, ro + 0 * 32, none⟩)) (.agg (cellsOf x).toArray) (by rfl) (fun o ho => wanted_plain ho _) (by kernel_rfl) (by kernel_rfl) (by kernel_rfl) (fun _ _ _ h => h) (by rfl) HLX.out HS.out ?_
    simp only [Act.put, List.setIfInBounds_toArray, List.set_cons_zero, List.set_cons_succ]
    refine anyH_loadG 3 (d := 75) (ty := 22) (x := (.tmp 15)) (gd := none) (p := .pointer (some ⟨w1.heap.size, 0, none⟩)) (.agg (cellsOf d).toArray) (by rfl) (fun o ho => wanted_plain ho _) (by kernel_rfl) (by kernel_rfl) (by kernel_rfl) (fun _ _ _ h => h) (by rfl) HLD.out HS.out ?_
    simp only [Act.put, List.setIfInBounds_toArray, List.set_cons_zero, List.set_cons_succ]
    refine anyH_pureG 5 (d := 77) (op := .move (.tmp 16)) (gd := none) (.slice (some ⟨rb, ro, none⟩) rl rc) (by rfl) (fun o ho => wanted_plain ho _) (by kernel_rfl) (by kernel_rfl) (by kernel_rfl) (fun _ _ _ h => h) (fun o ho W hW => by unfold execOp; simp only [ho]; go_simp) HS.out ?_
    simp only [Act.put, List.setIfInBounds_toArray, List.set_cons_zero, List.set_cons_succ]
    refine anyH_dcut dtR 6 (d := 78) (x := .tmp 77) (y := .const (.int .i64 1)) (some ⟨rb, ro, none⟩) rl rc 1 (by omega) (by rfl) (by kernel_rfl) (by kernel_rfl) (by kernel_rfl) (fun _ _ _ h => h) (by rfl) (by rfl) HS.out ?_
    simp only [Act.put, List.setIfInBounds_toArray, List.set_cons_zero, List.set_cons_succ]
    refine anyH_callG 4 (d := some 76) (f := 26) (xs := #[(.tmp 74), (.tmp 75)]) (ts := #[22, 22]) (gd := none) (vs := #[.agg (cellsOf x).toArray, .agg (cellsOf d).toArray]) (by kernel_rfl) (by rfl) (fun o ho => wanted_plain ho _) (by go_simp) (by go_simp) (HNODE.out _) ?_
    rintro e9 w9 ⟨rfl, hb9⟩
    refine ⟨_, rfl, HS.out.step hb9, fun hS9 => ?_⟩
    have HS := Lib.hid hS9
    have HC := Lib.hid (HC.out.below hb9)
    clear hS9 hb9
    simp only [Act.put, List.setIfInBounds_toArray, List.set_cons_zero, List.set_cons_succ]
    have HNI := Lib.hid (info32 dtR HN.out)
    have HTH := Lib.hid (HC.out.2.1.there _ (show (cellsOf N).toArray.size = zs32.length from by rw [cellsOf_size, HN.out.1, zs32_len]))
    have hg1 := HC.out.2.2.size
    refine anyH_op 7 (d := none) (op := .store 22 (.tmp 8) (.tmp 76)) (by kernel_rfl) (by rfl) ?_
    intro o1 hod hoo
    refine wp_store_mid 22 (.tmp 8) (.tmp 76) hoo (w.heap.size + 1) 0 (cellsOf N).toArray (by rfl) (by rfl) HTH.out HNI.out (cellsOf_all _) ?_
    rw [hod, List.toList_toArray]
    have HO := Lib.hid (Only.setCells (cellsOf N) 0 (Only.refl (w.heap.size + 1) w9))
    have HC2 := Lib.hid (HC.out.set N (by rw [HN.out.1, zs32_len]))
    have HR3 := Lib.hid (HS.out.2.2.onlyB HRB.out (by omega) HO.out)
    have HS2 := Lib.hid (show UP9 w leaf w1.heap.size d rb ro rl x rest _ from ⟨⟨N, HN.out.1, HC2.out⟩, HS.out.2.1.only HO.out (by have := HC1.out.2.1.lt; omega), HR3.out⟩)
    refine ⟨HS2.out, ?_⟩
    clear HS HTH HO hod hoo HC
    simp only [Act.put]
    refine anyH_pureG 8 (d := 9) (op := .assign (.tmp 78)) (gd := none) (.slice (sld (some ⟨rb, ro, none⟩) rc 1) (rl - 1) (rc - 1)) (by rfl) (fun o ho => wanted_plain ho _) (by kernel_rfl) (by kernel_rfl) (by kernel_rfl) (fun _ _ _ h => h) (fun o ho W hW => by unfold execOp; simp only [ho]; go_simp) HS2.out ?_
    simp only [Act.put, List.setIfInBounds_toArray, List.set_cons_zero, List.set_cons_succ]
    refine anyH_pureG 9 (d := 10) (op := .assign (.const (.bool true))) (gd := none) (.bool true) (by rfl) (fun o ho => wanted_plain ho _) (by kernel_rfl) (by kernel_rfl) (by kernel_rfl) (fun _ _ _ h => h) (fun o ho W hW => by unfold execOp; simp only [ho]; go_simp) HS2.out ?_
    simp only [Act.put, List.setIfInBounds_toArray, List.set_cons_zero, List.set_cons_succ]
    refine wpAnyH_done (by kernel_rfl) ?_ _
    refine gen_exit (F := fun W => R2 w leaf N W ∧ DR W (some ⟨rb, ro, none⟩) rl (x :: rest)) ⟨HC2.out, HR3.out⟩ ?_
    rintro wF ⟨hcf, hrf⟩
    have HF := Lib.hid hcf
    have HRF := Lib.hid (show DR wF (sld (some ⟨rb, ro, none⟩) rc 1) (rl - 1) rest from hrf.drop rc 1 (by omega) hrc)
    clear hcf hrf HC2 HS2 HR3
    go_wp2
    refine bodyPost_ret (results_trip (by rfl) _ _ (w.heap.size + 1) _ (cellsOf N).toArray (0, 0) _ (.slice (sld (some ⟨rb, ro, none⟩) rc 1) (rl - 1) (rc - 1)) (.bool true) (by rfl) (by rfl) (by rfl) HF.out.2.1 Tryd.underlying22 (by rfl) HNI.out) ?_ ?_
    · rfl
    · exact ⟨HF.out.2.2, .inr ⟨N, rest, _, _, _, HU.out, HN.out, HRF.out, by omega, by omega, fun b hb => HRB.out b (by rw [sld_blk] at hb; exact hb), rfl⟩⟩
theorem rup_g : ∀ (n : Nat) (B : Nat), 1 ≤ n → n ≤ 9223372036854775807 → ∀ (i : Nat) (leaf : List Nat) (a : Option Addr) (l cap : Nat) (way : Ds) (w : World), i < n → D32 leaf → DR w a l way → l ≤ cap → cap ≤ 9223372036854775807 → (∀ b, blkOf a = some b → b < B) → B ≤ w.heap.size →
    Calls Tryd.prog 43 #[.int .i64 (n : Int), .int .i64 (i : Int), .agg (cellsOf leaf).toArray, .slice a l cap] w (UpRet B n i leaf way w) := by
  intro n
  induction n using Nat.strongRecOn with
  | ind n ih =>
    intro B h1 hn i leaf a l cap way w hi hl hr hlc hcm hab hB
    by_cases hn1 : n = 1
    · subst hn1
      exact rup_1 B i leaf a l cap way w hl hr hlc hcm hab hB
    · have ih' : UIH n := fun B m hm h1 i leaf a l cap way w hi hl hr hlc hcm hab hB => ih m hm B h1 (by omega) i leaf a l cap way w hi hl hr hlc hcm hab hB
      by_cases hik : i < Mk.half n
      · exact rup_l B n _ i ih' leaf a l cap way w (by omega) hn hi rfl hik hl hr hlc hcm hab hB
      · exact rup_r B n _ i ih' leaf a l cap way w (by omega) hn hi rfl hik hl hr hlc hcm hab hB
end Go.Proofs.YtdcninfbpmhojaaDoor
